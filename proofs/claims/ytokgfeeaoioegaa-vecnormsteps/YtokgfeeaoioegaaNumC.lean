/-
  What the plain functions of package dyad return: slices.Clone, withSign, Sign, Neg, Abs, wordAt, trim. Conditions: lists are short.
-/
import Derived.Test.YtokgfeeaoioegaaNumM
import Derived.Deep.RegionHeld3
namespace Go.Proofs.Ytokgfeeaoioegaa
open Go.RowKit
set_option linter.unusedVariables false

theorem dCloneU (s : Value) (ws : List Int) (w : World) (B : Nat) (hs : SeesW w B s ws) (hl : ws.length ≤ 1000000) :
    Calls Try.prog 93 #[s] w fun e w' => ∃ s', e = .returned s' ∧ SeesW w' w.heap.size s' ws ∧ Below w.heap.size w w' := by
  have q := eqNilU
  rcases hs with ⟨rfl, rfl⟩ | ⟨hs, hne, _⟩
  · go_enter Try.func93, Try.ntmps93
    go_wp2
    go_ret
    exact ⟨_, rfl, .inl ⟨rfl, rfl⟩, Below.refl _ _⟩
  · have H : Hid (SeesU w s ws) := hs
    obtain ⟨b, o, c, rfl, _⟩ := hs
    go_enter Try.func93, Try.ntmps93
    go_wp2_with (at_builtin; refine wpListU_app rfl _ _ rfl w.heap.size _ [] rfl (OwnU.new _ _ (Nat.le_refl _)) _ ws rfl (H.out.alloc _) (by simp; omega) (by simp) ?_)
    intro v' w1 hown hbel hg hat
    go_wp2
    go_ret
    exact ⟨_, rfl, hown.seesW hne, ((Below.refl _ _).alloc (Nat.le_refl _) _).trans hbel⟩
theorem dWithSign (neg : Bool) (s : Value) (p q : Int) (ws : List Int) (w : World) (B : Nat) (hs : SeesW w B s ws) (hl : ws.length ≤ 1000000) :
    Calls Try.prog 66 #[.agg #[.bool neg, s, .int .i64 p, .slice none 0 0], .int .i64 q] w fun e w' => ∃ s', e = .returned (.agg #[.bool (decide (q < 0)), s', .int .i64 p, .slice none 0 0]) ∧ SeesW w' w.heap.size s' ws ∧ Below w.heap.size w w' := by
  have H : Hid (SeesW w B s ws) := hs
  clear hs
  go_enter Try.func66, Try.ntmps66
  go_wp2_with fail
  go_region_held3 (fun w' => w'.cell? ⟨w.heap.size, 0, none⟩ = some (.bool neg) ∧ w'.cell? ⟨w.heap.size, 1, none⟩ = some s ∧ w'.cell? ⟨w.heap.size, 2, none⟩ = some (.int .i64 p) ∧ w'.cell? ⟨w.heap.size, 3, none⟩ = some (.slice none 0 0)) (simp [go_sem, *])
    (first | (go_at_call 93; refine (dCloneU _ ws _ B (H.out.below (by repeat (first | exact Below.refl _ _ | (refine Below.alloc ?_ (by simp <;> omega) _) | (refine Below.drew ?_)))) hl).mono ?_; rintro e w1 ⟨s1, rfl, hs1, hb1⟩; obtain ⟨A1, C1, rfl⟩ := hs1.len; obtain ⟨hc1, hf1⟩ := bcell hb1; have hz1 : w.heap.size + 1 < w1.heap.size := (by have := hb1.size; simp at this; omega); have hy1 : w.heap.size < w1.heap.size := (by omega); have hx1 : Below w.heap.size w w1 := (Below.trans (by repeat (first | exact Below.refl _ _ | (refine Below.alloc ?_ (by simp <;> omega) _) | (refine Below.drew ?_))) (hb1.mono (by simp <;> omega))); clear hb1) | (go_at_call 94; refine (dClone _ _).mono ?_; rintro e w2 ⟨rfl, hb2⟩; obtain ⟨hc2, hf2⟩ := bcell hb2; have hz2 : w.heap.size + 1 < w2.heap.size := (by have := hb2.size; omega); have hy2 : w.heap.size < w2.heap.size := (by omega); have hx2 : Below w.heap.size w w2 := (hx1.trans (hb2.mono (by omega))); have hs2 := hs1.below hb2; clear hb2))
  go_wp2
  refine bodyPost_ret (v := .agg #[.bool (decide (q < 0)), .slice A1 ws.length C1, .int .i64 p, .slice none 0 0]) (by simp [results, Try.results66, go_sem, *]) rfl ⟨_, rfl, ?_, ?_⟩
  · refine SeesW.base (b := w.heap.size + 2) ?_ (by omega)
    repeat (first | exact hs2.base (by simp) | (refine SeesW.set ?_ (by simp) _))
  · repeat (first | exact hx2 | (refine Below.setCell ?_ (by simp <;> omega) _))
theorem sg_abs (n : Bool) (D : Int) (h : 0 ≤ D) : ((sg n * D).natAbs : Int) = D := by cases n <;> simp [sg] <;> omega
theorem Norm.nonneg {ws : List Int} (h : Norm ws) (k : Nat) : 0 ≤ dv ws * pw k := Int.mul_nonneg (dv_nonneg h.1) (Int.le_of_lt (pw_pos k))
theorem tell_len {p L : Int} {n k : Nat} (h1 : -(k : Int) ≤ p) (h2 : p + (n : Int) ≤ L) (hk : k ≤ 100000) (hL : L ≤ 100000) : n ≤ 200000 ∧ p ≤ 100000 ∧ -100000 ≤ p := by omega
theorem dWithSignT (v : Value) (q : Int) (w : World) (B k : Nat) (L X : Int) (h : Tell w B v k L X) (hk : k ≤ 100000) (hL : L ≤ 100000) :
    Calls Try.prog 66 #[v, .int .i64 q] w fun e w' => ∃ r, e = .returned r ∧ Tell w' w.heap.size r k L (sg (decide (q < 0)) * (X.natAbs : Int)) ∧ Below w.heap.size w w' := by
  obtain ⟨neg, ws, p, ⟨s, rfl, h1, h9⟩, h2, h3, h4, rfl⟩ := h
  have hl := tell_len h3 h4 hk hL
  refine (dWithSign neg s p q ws w B h1 (by omega)).mono ?_
  rintro e w' ⟨s', rfl, g1, g2⟩
  refine ⟨_, rfl, ⟨_, ws, p, ⟨s', rfl, g1, h9⟩, h2, h3, h4, ?_⟩, g2⟩
  rw [sg_abs _ _ (h2.nonneg _)]
theorem dSign (v : Value) (w : World) (B k : Nat) (L X : Int) (h : Tell w B v k L X) :
    Calls Try.prog 37 #[v] w fun e w' => e = .returned (.int .i64 (cmpZ X 0)) ∧ Below w.heap.size w w' := by
  obtain ⟨neg, ws, p, ⟨s, rfl, h1, h9⟩, h2, h3, h4, rfl⟩ := h
  by_cases hn : ws = []
  · subst hn
    rcases h1 with ⟨rfl, _⟩ | ⟨_, hx, _⟩
    · rw [dv_nil, Int.zero_mul, Int.mul_zero]
      clear h2 h9 h3 h4
      go_enter Try.func37, Try.ntmps37
      go_wp2
      go_ret
      exact ⟨rfl, (Below.refl _ _).alloc (Nat.le_refl _) _⟩
    · exact absurd rfl hx
  · rw [sgnX neg _ (wpos h2 hn _)]
    obtain ⟨a, c, rfl⟩ := h1.len
    have hl : 0 < ws.length := List.length_pos_iff.2 hn
    obtain ⟨n, hnn⟩ : ∃ n, n = ws.length := ⟨_, rfl⟩
    rw [← hnn] at hl ⊢
    have hl' : ¬ n = 0 := by omega
    clear hn h1 h2 h3 h4 h9 hnn
    cases neg
    all_goals
      go_enter Try.func37, Try.ntmps37
      go_wp2
      go_ret
      exact ⟨rfl, (Below.refl _ _).alloc (Nat.le_refl _) _⟩
theorem cmpZ_bd (x y : Int) : -1 ≤ cmpZ x y ∧ cmpZ x y ≤ 1 := by
  unfold cmpZ
  repeat' split
  all_goals omega
theorem neg_sg (X : Int) : sg (decide (-cmpZ X 0 < 0)) * (X.natAbs : Int) = -X := by
  unfold cmpZ
  by_cases h : X < 0
  · rw [if_pos h]; simp [sg]; omega
  · rw [if_neg h]
    by_cases h2 : X = 0
    · subst h2; rfl
    · rw [if_neg h2]; simp [sg]; omega
theorem pos_sg (X : Int) : sg (decide (cmpZ X 0 < 0)) * (X.natAbs : Int) = X := by
  unfold cmpZ
  by_cases h : X < 0
  · rw [if_pos h]; simp [sg]; omega
  · rw [if_neg h]
    by_cases h2 : X = 0
    · subst h2; rfl
    · rw [if_neg h2]; simp [sg]; omega
theorem Tell.form {w : World} {B : Nat} {v : Value} {k : Nat} {L X : Int} (h : Tell w B v k L X) : ∃ neg a n c p, v = .agg #[.bool neg, .slice a n c, .int .i64 p, .slice none 0 0] := by
  obtain ⟨neg, ws, p, ⟨s, rfl, h1, h9⟩, h2⟩ := h
  obtain ⟨a, c, rfl⟩ := h1.len
  exact ⟨_, _, _, _, _, rfl⟩
set_option maxHeartbeats 400000 in
theorem dAbs (v : Value) (w : World) (B k : Nat) (L X : Int) (h : Tell w B v k L X) (hk : k ≤ 100000) (hL : L ≤ 100000) :
    Calls Try.prog 34 #[v] w fun e w' => ∃ r, e = .returned r ∧ Tell w' w.heap.size r k L (X.natAbs : Int) ∧ Below w.heap.size w w' := by
  have H : Hid (Tell w B v k L X) := h
  obtain ⟨neg, a, n, c, p, rfl⟩ := h.form
  clear h
  go_enter Try.func34, Try.ntmps34
  go_wp2_with fail
  refine (dWithSignT _ _ _ B k L X (H.out.below (by repeat (first | exact Below.refl _ _ | (refine Below.alloc ?_ (by simp <;> omega) _)))) hk hL).mono ?_
  rintro e w1 ⟨r, rfl, ht, hb1⟩
  obtain ⟨neg', a', n', c', p', rfl⟩ := ht.form
  have T : Hid (Tell _ _ _ _ _ _) := ht
  have hx : Below w.heap.size w w1 := Below.trans (by repeat (first | exact Below.refl _ _ | (refine Below.alloc ?_ (by simp <;> omega) _))) (hb1.mono (by simp <;> omega))
  obtain ⟨hc, hf⟩ := bcell hb1
  have hz : w.heap.size + 1 < w1.heap.size := by have := hb1.size; simp at this; omega
  clear ht hb1 H
  go_wp2
  refine bodyPost_ret (v := .agg #[.bool neg', .slice a' n' c', .int .i64 p', .slice none 0 0]) (by simp [results, Try.results34, go_sem, *]) rfl ⟨_, rfl, ?_, ?_⟩
  · refine Tell.base (b := w.heap.size + 2) ?_ (by omega)
    repeat (first | exact (T.out.base (by simp)).eq (by simp [sg]) | (refine Tell.set ?_ (by simp) _))
  · repeat (first | exact hx | (refine Below.setCell ?_ (by simp <;> omega) _))
end Go.Proofs.Ytokgfeeaoioegaa
