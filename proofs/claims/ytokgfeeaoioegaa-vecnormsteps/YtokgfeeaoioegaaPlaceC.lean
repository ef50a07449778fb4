/-
  What the functions of package dyad on places return, where a place is one digit: split, combine, plus, minus, placeOf, sign, near, clone; cmp.Compare and slices.Clone of none. Conditions: the digits are small.
-/
import Derived.Test.YtokgfeeaoioegaaProg
import Derived.Test.YtokgfeeaoioegaaHlp
import Derived.WalkKit
import Derived.ProofKit
import Derived.Below
import Derived.Deep.RegionHeld3
import Derived.Lib.SliceRun
namespace Go.Proofs.Ytokgfeeaoioegaa
open Go.RowKit
set_option linter.unusedVariables false

theorem bcell {W w1 : World} (hb : Below W.heap.size W w1) : (∀ b o, b < W.heap.size → w1.cell? ⟨b, o, none⟩ = W.cell? ⟨b, o, none⟩) ∧ (∀ b o, b < W.heap.size → w1.frozen? ⟨b, o, none⟩ = W.frozen? ⟨b, o, none⟩) :=
  ⟨fun b o h => hb.cell (p := ⟨b, o, none⟩) h, fun b o h => hb.frozen (p := ⟨b, o, none⟩) h⟩
/-- A place of one digit. -/
def plc (n : Int) : Value := .agg #[.int .i64 n, .slice none 0 0]
theorem dSplit (n : Int) (w : World) (h0 : -2305843009213693952 ≤ n) (h1 : n < 2305843009213693952) :
    Calls Try.prog 124 #[.int .i64 n] w fun e w' => e = .returned (.tuple #[.int .i64 n, .int .i64 0]) ∧ w' = w := by
  go_enter Try.func124, Try.ntmps124
  go_wp2
  go_ret2
  exact ⟨rfl, rfl⟩
theorem dCombine (a b s : Int) (w : World) (a0 : -1000000000000 ≤ a) (a1 : a ≤ 1000000000000) (b0 : -1000000000000 ≤ b) (b1 : b ≤ 1000000000000) (hs : s = 1 ∨ s = -1) :
    Calls Try.prog 103 #[.agg #[.int .i64 a, .slice none 0 0], .agg #[.int .i64 b, .slice none 0 0], .int .i64 s] w fun e w' => e = .returned (.agg #[.int .i64 (a + s * b), .slice none 0 0]) ∧ Below w.heap.size w w' := by
  rcases hs with rfl | rfl
  all_goals
    go_enter Try.func103, Try.ntmps103
    go_wp2_with (go_at_call 124; refine (dSplit _ _ (by omega) (by omega)).mono ?_; rintro e w' ⟨rfl, rfl⟩)
    refine bodyPost_ret (v := _) (by simp [results, Try.results103, go_sem]; rfl) rfl ⟨?_, ?_⟩
    · first | rw [show (1 : Int) * b = b by omega] | rw [show (-1 : Int) * b = -b by omega]
    · repeat (first | exact Below.refl _ _ | (refine Below.alloc ?_ (by simp <;> omega) _))
theorem dPlus (a b : Int) (w : World) (a0 : -1000000000000 ≤ a) (a1 : a ≤ 1000000000000) (b0 : -1000000000000 ≤ b) (b1 : b ≤ 1000000000000) :
    Calls Try.prog 72 #[.agg #[.int .i64 a, .slice none 0 0], .agg #[.int .i64 b, .slice none 0 0]] w fun e w' => e = .returned (.agg #[.int .i64 (a + b), .slice none 0 0]) ∧ Below w.heap.size w w' := by
  go_enter Try.func72, Try.ntmps72
  go_wp2_with fail
  refine (dCombine _ _ _ _ a0 a1 b0 b1 (by omega)).mono ?_
  rintro e w1 ⟨rfl, hb1⟩
  rw [Int.one_mul]
  have hb := hb1.mono (B' := w.heap.size) (by simp <;> omega)
  obtain ⟨hc, hf⟩ := bcell hb1
  have hz : w.heap.size + 2 < w1.heap.size := by have := hb1.size; simp at this; omega
  clear hb1
  go_wp2
  refine bodyPost_ret (v := .agg #[.int .i64 (a + b), .slice none 0 0]) (by simp [results, Try.results72, go_sem, *]) rfl ⟨rfl, ?_⟩
  repeat (first | exact Below.refl _ _ | exact Below.trans (by repeat (first | exact Below.refl _ _ | (refine Below.alloc ?_ (by simp <;> omega) _))) hb | (refine Below.setCell ?_ (by simp <;> omega) _) | (refine Below.alloc ?_ (by simp <;> omega) _))
theorem dMinus (a b : Int) (w : World) (a0 : -1000000000000 ≤ a) (a1 : a ≤ 1000000000000) (b0 : -1000000000000 ≤ b) (b1 : b ≤ 1000000000000) :
    Calls Try.prog 98 #[.agg #[.int .i64 a, .slice none 0 0], .agg #[.int .i64 b, .slice none 0 0]] w fun e w' => e = .returned (.agg #[.int .i64 (a - b), .slice none 0 0]) ∧ Below w.heap.size w w' := by
  go_enter Try.func98, Try.ntmps98
  go_wp2_with fail
  refine (dCombine _ _ _ _ a0 a1 b0 b1 (by omega)).mono ?_
  rintro e w1 ⟨rfl, hb1⟩
  rw [show a + -1 * b = a - b by omega]
  have hb := hb1.mono (B' := w.heap.size) (by simp <;> omega)
  obtain ⟨hc, hf⟩ := bcell hb1
  have hz : w.heap.size + 2 < w1.heap.size := by have := hb1.size; simp at this; omega
  clear hb1
  go_wp2
  refine bodyPost_ret (v := .agg #[.int .i64 (a - b), .slice none 0 0]) (by simp [results, Try.results98, go_sem, *]) rfl ⟨rfl, ?_⟩
  repeat (first | exact Below.refl _ _ | exact Below.trans (by repeat (first | exact Below.refl _ _ | (refine Below.alloc ?_ (by simp <;> omega) _))) hb | (refine Below.setCell ?_ (by simp <;> omega) _) | (refine Below.alloc ?_ (by simp <;> omega) _))
theorem dPlaceOf (a : Int) (w : World) (a0 : -1000000000000 ≤ a) (a1 : a ≤ 1000000000000) :
    Calls Try.prog 92 #[.int .i64 a] w fun e w' => e = .returned (.agg #[.int .i64 a, .slice none 0 0]) ∧ Below w.heap.size w w' := by
  go_enter Try.func92, Try.ntmps92
  go_wp2
  refine bodyPost_ret (v := .agg #[.int .i64 a, .slice none 0 0]) (by simp [results, Try.results92, go_sem, *]) rfl ⟨rfl, ?_⟩
  repeat (first | exact Below.refl _ _ | (refine Below.setCell ?_ (by simp <;> omega) _) | (refine Below.alloc ?_ (by simp <;> omega) _))
theorem dNanI (x : Int) (w : World) : Calls Try.prog 132 #[.int .i64 x] w fun e w' => e = .returned (.bool false) ∧ w' = w := by
  go_enter Try.func132, Try.ntmps132
  go_wp2
  go_ret
  exact ⟨rfl, rfl⟩
theorem dNanU (x : Int) (w : World) : Calls Try.prog 133 #[.int .u64 x] w fun e w' => e = .returned (.bool false) ∧ w' = w := by
  go_enter Try.func133, Try.ntmps133
  go_wp2
  go_ret
  exact ⟨rfl, rfl⟩
/-- -1, 0 or 1: how two numbers stand. -/
def cmpZ (x y : Int) : Int := if x < y then -1 else if x = y then 0 else 1
theorem dCmpI (x y : Int) (w : World) : Calls Try.prog 119 #[.int .i64 x, .int .i64 y] w fun e w' => e = .returned (.int .i64 (cmpZ x y)) ∧ w' = w := by
  unfold cmpZ
  by_cases h : x < y
  · rw [if_pos h]
    go_enter Try.func119, Try.ntmps119
    go_wp2_with (go_at_call 132; refine (dNanI _ _).mono ?_; rintro e w' ⟨rfl, rfl⟩)
    go_ret
    exact ⟨rfl, rfl⟩
  · rw [if_neg h]
    by_cases h2 : x = y
    · subst h2
      rw [if_pos rfl]
      go_enter Try.func119, Try.ntmps119
      go_wp2_with (go_at_call 132; refine (dNanI _ _).mono ?_; rintro e w' ⟨rfl, rfl⟩)
      go_ret
      exact ⟨rfl, rfl⟩
    · have h3 : y < x := by omega
      rw [if_neg h2]
      go_enter Try.func119, Try.ntmps119
      go_wp2_with (go_at_call 132; refine (dNanI _ _).mono ?_; rintro e w' ⟨rfl, rfl⟩)
      go_ret
      exact ⟨rfl, rfl⟩
theorem dCmpU (x y : Int) (w : World) : Calls Try.prog 121 #[.int .u64 x, .int .u64 y] w fun e w' => e = .returned (.int .i64 (cmpZ x y)) ∧ w' = w := by
  unfold cmpZ
  by_cases h : x < y
  · rw [if_pos h]
    go_enter Try.func121, Try.ntmps121
    go_wp2_with (go_at_call 133; refine (dNanU _ _).mono ?_; rintro e w' ⟨rfl, rfl⟩)
    go_ret
    exact ⟨rfl, rfl⟩
  · rw [if_neg h]
    by_cases h2 : x = y
    · subst h2
      rw [if_pos rfl]
      go_enter Try.func121, Try.ntmps121
      go_wp2_with (go_at_call 133; refine (dNanU _ _).mono ?_; rintro e w' ⟨rfl, rfl⟩)
      go_ret
      exact ⟨rfl, rfl⟩
    · have h3 : y < x := by omega
      rw [if_neg h2]
      go_enter Try.func121, Try.ntmps121
      go_wp2_with (go_at_call 133; refine (dNanU _ _).mono ?_; rintro e w' ⟨rfl, rfl⟩)
      go_ret
      exact ⟨rfl, rfl⟩
theorem dSignP (a : Int) (w : World) :
    Calls Try.prog 99 #[.agg #[.int .i64 a, .slice none 0 0]] w fun e w' => e = .returned (.int .i64 (cmpZ a 0)) ∧ Below w.heap.size w w' := by
  go_enter Try.func99, Try.ntmps99
  go_wp2_with (go_at_call 119; refine (dCmpI _ _ _).mono ?_; rintro e w' ⟨rfl, rfl⟩)
  go_ret
  exact ⟨rfl, (Below.refl _ _).alloc (Nat.le_refl _) _⟩
theorem dNear (a : Int) (w : World) (a0 : -1000000000000 ≤ a) (a1 : a ≤ 1000000000000) :
    Calls Try.prog 117 #[.agg #[.int .i64 a, .slice none 0 0]] w fun e w' => e = .returned (.int .i64 a) ∧ Below w.heap.size w w' := by
  go_enter Try.func117, Try.ntmps117
  go_wp2
  go_ret
  exact ⟨by rfl, (Below.refl _ _).alloc (Nat.le_refl _) _⟩
theorem eqNilI (w : World) (a : Option Addr) (n c n' c' : Nat) : (binOp .eql 40 (.slice a n c) (.slice none n' c')).run Try.prog w = .ok (.bool a.isNone) w := Lib.run_eql_slice_nil w _ _ a n c n' c' Try.underlying40
theorem eqNilU (w : World) (a : Option Addr) (n c n' c' : Nat) : (binOp .eql 23 (.slice a n c) (.slice none n' c')).run Try.prog w = .ok (.bool a.isNone) w := Lib.run_eql_slice_nil w _ _ a n c n' c' Try.underlying23
theorem dCloneI (w : World) : Calls Try.prog 116 #[.slice none 0 0] w fun e w' => e = .returned (.slice none 0 0) ∧ w' = w := by
  have q := eqNilI
  go_enter Try.func116, Try.ntmps116
  go_wp2
  go_ret
  exact ⟨rfl, rfl⟩
theorem dClone (a : Int) (w : World) :
    Calls Try.prog 94 #[.agg #[.int .i64 a, .slice none 0 0]] w fun e w' => e = .returned (.agg #[.int .i64 a, .slice none 0 0]) ∧ Below w.heap.size w w' := by
  go_enter Try.func94, Try.ntmps94
  go_wp2_with fail
  go_region_held3 (fun w' => w'.cell? ⟨w.heap.size, 0, none⟩ = some (.int .i64 a) ∧ w'.cell? ⟨w.heap.size, 1, none⟩ = some (.slice none 0 0)) (simp [go_sem, *]) (first | (go_at_call 116; refine (dCloneI _).mono ?_; rintro e w' ⟨rfl, rfl⟩))
  go_wp2
  refine bodyPost_ret (v := .agg #[.int .i64 a, .slice none 0 0]) (by simp [results, Try.results94, go_sem, *]) rfl ⟨rfl, ?_⟩
  repeat (first | exact Below.refl _ _ | (refine Below.setCell ?_ (by simp <;> omega) _) | (refine Below.alloc ?_ (by simp <;> omega) _) | (refine Below.drew ?_))
end Go.Proofs.Ytokgfeeaoioegaa
