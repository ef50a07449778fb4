/-
  What the functions of package dyad on places return, where a place is one digit: split, combine, plus, minus, placeOf, sign, near, clone; cmp.Compare and slices.Clone of none. Conditions: the digits are small.
-/
import Derived.Test.YtgpgmnmifhkmbaaProg
import Derived.Test.YtgpgmnmifhkmbaaHlp
import Derived.WalkKit
import Derived.ProofKit
import Derived.Below
import Derived.Deep.RegionHeld3
import Derived.Lib.SliceRun
namespace Go.Proofs.Ytgpgmnmifhkmbaa
open Go.RowKit
set_option linter.unusedVariables false

theorem bcell {W w1 : World} (hb : Below W.heap.size W w1) : (∀ b o, b < W.heap.size → w1.cell? ⟨b, o, none⟩ = W.cell? ⟨b, o, none⟩) ∧ (∀ b o, b < W.heap.size → w1.frozen? ⟨b, o, none⟩ = W.frozen? ⟨b, o, none⟩) :=
  ⟨fun b o h => hb.cell (p := ⟨b, o, none⟩) h, fun b o h => hb.frozen (p := ⟨b, o, none⟩) h⟩
/-- A place of one digit. -/
def plc (n : Int) : Value := .agg #[.int .i64 n, .slice none 0 0]
theorem dSplit (n : Int) (w : World) (h0 : -2305843009213693952 ≤ n) (h1 : n < 2305843009213693952) :
    Calls Try.prog 91 #[.int .i64 n] w fun e w' => e = .returned (.tuple #[.int .i64 n, .int .i64 0]) ∧ w' = w := by
  go_enter Try.func91, Try.ntmps91
  go_wp2
  go_ret2
  exact ⟨rfl, rfl⟩
theorem dCombine (a b s : Int) (w : World) (a0 : -1000000000000 ≤ a) (a1 : a ≤ 1000000000000) (b0 : -1000000000000 ≤ b) (b1 : b ≤ 1000000000000) (hs : s = 1 ∨ s = -1) :
    Calls Try.prog 72 #[.agg #[.int .i64 a, .slice none 0 0], .agg #[.int .i64 b, .slice none 0 0], .int .i64 s] w fun e w' => e = .returned (.agg #[.int .i64 (a + s * b), .slice none 0 0]) ∧ Below w.heap.size w w' := by
  rcases hs with rfl | rfl
  all_goals
    go_enter Try.func72, Try.ntmps72
    go_wp2_with (go_at_call 91; refine (dSplit _ _ (by omega) (by omega)).mono ?_; rintro e w' ⟨rfl, rfl⟩)
    refine bodyPost_ret (v := _) (by simp [results, Try.results72, go_sem]; rfl) rfl ⟨?_, ?_⟩
    · first | rw [show (1 : Int) * b = b by omega] | rw [show (-1 : Int) * b = -b by omega]
    · repeat (first | exact Below.refl _ _ | (refine Below.alloc ?_ (by simp <;> omega) _))
theorem dPlus (a b : Int) (w : World) (a0 : -1000000000000 ≤ a) (a1 : a ≤ 1000000000000) (b0 : -1000000000000 ≤ b) (b1 : b ≤ 1000000000000) :
    Calls Try.prog 46 #[.agg #[.int .i64 a, .slice none 0 0], .agg #[.int .i64 b, .slice none 0 0]] w fun e w' => e = .returned (.agg #[.int .i64 (a + b), .slice none 0 0]) ∧ Below w.heap.size w w' := by
  go_enter Try.func46, Try.ntmps46
  go_wp2_with fail
  refine (dCombine _ _ _ _ a0 a1 b0 b1 (by omega)).mono ?_
  rintro e w1 ⟨rfl, hb1⟩
  rw [Int.one_mul]
  have hb := hb1.mono (B' := w.heap.size) (by simp <;> omega)
  obtain ⟨hc, hf⟩ := bcell hb1
  have hz : w.heap.size + 2 < w1.heap.size := by have := hb1.size; simp at this; omega
  clear hb1
  go_wp2
  refine bodyPost_ret (v := .agg #[.int .i64 (a + b), .slice none 0 0]) (by simp [results, Try.results46, go_sem, *]) rfl ⟨rfl, ?_⟩
  repeat (first | exact Below.refl _ _ | exact Below.trans (by repeat (first | exact Below.refl _ _ | (refine Below.alloc ?_ (by simp <;> omega) _))) hb | (refine Below.setCell ?_ (by simp <;> omega) _) | (refine Below.alloc ?_ (by simp <;> omega) _))
theorem dMinus (a b : Int) (w : World) (a0 : -1000000000000 ≤ a) (a1 : a ≤ 1000000000000) (b0 : -1000000000000 ≤ b) (b1 : b ≤ 1000000000000) :
    Calls Try.prog 64 #[.agg #[.int .i64 a, .slice none 0 0], .agg #[.int .i64 b, .slice none 0 0]] w fun e w' => e = .returned (.agg #[.int .i64 (a - b), .slice none 0 0]) ∧ Below w.heap.size w w' := by
  go_enter Try.func64, Try.ntmps64
  go_wp2_with fail
  refine (dCombine _ _ _ _ a0 a1 b0 b1 (by omega)).mono ?_
  rintro e w1 ⟨rfl, hb1⟩
  rw [show a + -1 * b = a - b by omega]
  have hb := hb1.mono (B' := w.heap.size) (by simp <;> omega)
  obtain ⟨hc, hf⟩ := bcell hb1
  have hz : w.heap.size + 2 < w1.heap.size := by have := hb1.size; simp at this; omega
  clear hb1
  go_wp2
  refine bodyPost_ret (v := .agg #[.int .i64 (a - b), .slice none 0 0]) (by simp [results, Try.results64, go_sem, *]) rfl ⟨rfl, ?_⟩
  repeat (first | exact Below.refl _ _ | exact Below.trans (by repeat (first | exact Below.refl _ _ | (refine Below.alloc ?_ (by simp <;> omega) _))) hb | (refine Below.setCell ?_ (by simp <;> omega) _) | (refine Below.alloc ?_ (by simp <;> omega) _))
theorem dPlaceOf (a : Int) (w : World) (a0 : -1000000000000 ≤ a) (a1 : a ≤ 1000000000000) :
    Calls Try.prog 70 #[.int .i64 a] w fun e w' => e = .returned (.agg #[.int .i64 a, .slice none 0 0]) ∧ Below w.heap.size w w' := by
  go_enter Try.func70, Try.ntmps70
  go_wp2
  refine bodyPost_ret (v := .agg #[.int .i64 a, .slice none 0 0]) (by simp [results, Try.results70, go_sem, *]) rfl ⟨rfl, ?_⟩
  repeat (first | exact Below.refl _ _ | (refine Below.setCell ?_ (by simp <;> omega) _) | (refine Below.alloc ?_ (by simp <;> omega) _))
theorem dNanI (x : Int) (w : World) : Calls Try.prog 96 #[.int .i64 x] w fun e w' => e = .returned (.bool false) ∧ w' = w := by
  go_enter Try.func96, Try.ntmps96
  go_wp2
  go_ret
  exact ⟨rfl, rfl⟩
theorem dNanU (x : Int) (w : World) : Calls Try.prog 97 #[.int .u64 x] w fun e w' => e = .returned (.bool false) ∧ w' = w := by
  go_enter Try.func97, Try.ntmps97
  go_wp2
  go_ret
  exact ⟨rfl, rfl⟩
/-- -1, 0 or 1: how two numbers stand. -/
def cmpZ (x y : Int) : Int := if x < y then -1 else if x = y then 0 else 1
theorem dCmpI (x y : Int) (w : World) : Calls Try.prog 86 #[.int .i64 x, .int .i64 y] w fun e w' => e = .returned (.int .i64 (cmpZ x y)) ∧ w' = w := by
  unfold cmpZ
  by_cases h : x < y
  · rw [if_pos h]
    go_enter Try.func86, Try.ntmps86
    go_wp2_with (go_at_call 96; refine (dNanI _ _).mono ?_; rintro e w' ⟨rfl, rfl⟩)
    go_ret
    exact ⟨rfl, rfl⟩
  · rw [if_neg h]
    by_cases h2 : x = y
    · subst h2
      rw [if_pos rfl]
      go_enter Try.func86, Try.ntmps86
      go_wp2_with (go_at_call 96; refine (dNanI _ _).mono ?_; rintro e w' ⟨rfl, rfl⟩)
      go_ret
      exact ⟨rfl, rfl⟩
    · have h3 : y < x := by omega
      rw [if_neg h2]
      go_enter Try.func86, Try.ntmps86
      go_wp2_with (go_at_call 96; refine (dNanI _ _).mono ?_; rintro e w' ⟨rfl, rfl⟩)
      go_ret
      exact ⟨rfl, rfl⟩
theorem dCmpU (x y : Int) (w : World) : Calls Try.prog 87 #[.int .u64 x, .int .u64 y] w fun e w' => e = .returned (.int .i64 (cmpZ x y)) ∧ w' = w := by
  unfold cmpZ
  by_cases h : x < y
  · rw [if_pos h]
    go_enter Try.func87, Try.ntmps87
    go_wp2_with (go_at_call 97; refine (dNanU _ _).mono ?_; rintro e w' ⟨rfl, rfl⟩)
    go_ret
    exact ⟨rfl, rfl⟩
  · rw [if_neg h]
    by_cases h2 : x = y
    · subst h2
      rw [if_pos rfl]
      go_enter Try.func87, Try.ntmps87
      go_wp2_with (go_at_call 97; refine (dNanU _ _).mono ?_; rintro e w' ⟨rfl, rfl⟩)
      go_ret
      exact ⟨rfl, rfl⟩
    · have h3 : y < x := by omega
      rw [if_neg h2]
      go_enter Try.func87, Try.ntmps87
      go_wp2_with (go_at_call 97; refine (dNanU _ _).mono ?_; rintro e w' ⟨rfl, rfl⟩)
      go_ret
      exact ⟨rfl, rfl⟩
theorem dSignP (a : Int) (w : World) :
    Calls Try.prog 65 #[.agg #[.int .i64 a, .slice none 0 0]] w fun e w' => e = .returned (.int .i64 (cmpZ a 0)) ∧ Below w.heap.size w w' := by
  go_enter Try.func65, Try.ntmps65
  go_wp2_with (go_at_call 86; refine (dCmpI _ _ _).mono ?_; rintro e w' ⟨rfl, rfl⟩)
  go_ret
  exact ⟨rfl, (Below.refl _ _).alloc (Nat.le_refl _) _⟩
theorem dNear (a : Int) (w : World) (a0 : -1000000000000 ≤ a) (a1 : a ≤ 1000000000000) :
    Calls Try.prog 76 #[.agg #[.int .i64 a, .slice none 0 0]] w fun e w' => e = .returned (.int .i64 a) ∧ Below w.heap.size w w' := by
  go_enter Try.func76, Try.ntmps76
  go_wp2
  go_ret
  exact ⟨by rfl, (Below.refl _ _).alloc (Nat.le_refl _) _⟩
theorem eqNilI (w : World) (a : Option Addr) (n c n' c' : Nat) : (binOp .eql 34 (.slice a n c) (.slice none n' c')).run Try.prog w = .ok (.bool a.isNone) w := Lib.run_eql_slice_nil w _ _ a n c n' c' Try.underlying34
theorem eqNilU (w : World) (a : Option Addr) (n c n' c' : Nat) : (binOp .eql 33 (.slice a n c) (.slice none n' c')).run Try.prog w = .ok (.bool a.isNone) w := Lib.run_eql_slice_nil w _ _ a n c n' c' Try.underlying33
theorem dCloneI (w : World) : Calls Try.prog 84 #[.slice none 0 0] w fun e w' => e = .returned (.slice none 0 0) ∧ w' = w := by
  have q := eqNilI
  go_enter Try.func84, Try.ntmps84
  go_wp2
  go_ret
  exact ⟨rfl, rfl⟩
theorem dClone (a : Int) (w : World) :
    Calls Try.prog 60 #[.agg #[.int .i64 a, .slice none 0 0]] w fun e w' => e = .returned (.agg #[.int .i64 a, .slice none 0 0]) ∧ Below w.heap.size w w' := by
  go_enter Try.func60, Try.ntmps60
  go_wp2_with fail
  go_region_held3 (fun w' => w'.cell? ⟨w.heap.size, 0, none⟩ = some (.int .i64 a) ∧ w'.cell? ⟨w.heap.size, 1, none⟩ = some (.slice none 0 0)) (simp [go_sem, *]) (first | (go_at_call 84; refine (dCloneI _).mono ?_; rintro e w' ⟨rfl, rfl⟩))
  go_wp2
  refine bodyPost_ret (v := .agg #[.int .i64 a, .slice none 0 0]) (by simp [results, Try.results60, go_sem, *]) rfl ⟨rfl, ?_⟩
  repeat (first | exact Below.refl _ _ | (refine Below.setCell ?_ (by simp <;> omega) _) | (refine Below.alloc ?_ (by simp <;> omega) _) | (refine Below.drew ?_))
end Go.Proofs.Ytgpgmnmifhkmbaa
