/-
  The law DyadNears returns true at every input, and leaves its arguments as they were. No conditions.
-/
import Derived.Test.YtgpgmnmifhkmbaaRows
import Derived.WalkKit
import Derived.ProofKit
import Derived.OpenShut
import Derived.Test.YtgpgmnmifhkmbaaDHeadC
import Derived.Test.YtgpgmnmifhkmbaaNearM
import Derived.Test.YtgpgmnmifhkmbaaRef04D
import Derived.Test.YtgpgmnmifhkmbaaRef04E
import Derived.Lib.SmallJoins
import Derived.Below
namespace Go.Proofs.Ytgpgmnmifhkmbaa.dyadNears
open Go.ChangeShapes Go.WideShapes Go.ChangeAt Go.RowKit
open Go.Joins (open_agg2 shut_agg2)
set_option linter.unusedVariables false

theorem own : ownKnob Try.prog.godebug = none := by kernel_rfl

set_option maxRecDepth 100000 in
set_option maxHeartbeats 8000000 in
theorem walk (a0 : Int) (a1 : Int) (w : World) (w0 : (Lit.int .u64 a0).wf = true) (w1 : (Lit.int .u64 a1).wf = true) :
    Calls Try.prog 4 #[.int .u64 a0, .int .u64 a1] w fun e w' => e = .returned (.bool true) ∧ Below w.heap.size w w' := by
  obtain ⟨h0, h1⟩ := bounds_u64 w0
  obtain ⟨g0, g1⟩ := bounds_u64 w1
  have h1' : a0 < 18446744073709551616 := by omega
  have g1' : a1 < 18446744073709551616 := by omega
  clear w0 w1
  have FA : Hid (∀ c : Int, (c / 4503599627370496 % 2048 < 2047) ↔ mag c < 9218868437227405312) := fin_mag
  have FD : Hid (∀ c : Int, decide (c / 4503599627370496 % 2048 < 2047) = decide (mag c < 9218868437227405312)) := fun c => by rw [Bool.eq_iff_iff, decide_eq_true_eq, decide_eq_true_eq]; exact fin_mag c
  by_cases ha : mag a0 < 9218868437227405312
  · by_cases hb : mag a1 < 9218868437227405312
    · have NS := near_sum a0 a1 h0 h1' g0 g1' ha hb
      have NP := near_prod a0 a1 ha hb
      obtain ⟨x, hx⟩ : ∃ x, x = addS a0 a1 := ⟨_, rfl⟩
      obtain ⟨y, hy⟩ : ∃ y, y = mulS a0 a1 := ⟨_, rfl⟩
      obtain ⟨r, hr⟩ : ∃ r, r = rk 17 (xv a0 + xv a1) := ⟨_, rfl⟩
      obtain ⟨s, hs⟩ : ∃ s, s = rk 34 (xv a0 * xv a1) := ⟨_, rfl⟩
      have b1 := addS_bd a0 a1 h0 h1' g0 g1'
      have b2 := mulS_bd a0 a1
      rw [← hx, ← hr] at NS
      rw [← hy, ← hs] at NP
      rw [← hx] at b1
      rw [← hy] at b2
      obtain ⟨x1, x2⟩ := x
      obtain ⟨y1, y2⟩ := y
      obtain ⟨r1, r2⟩ := r
      obtain ⟨s1, s2⟩ := s
      simp only at NS NP b1 b2
      obtain ⟨NS, rfl⟩ := NS
      obtain ⟨NP, rfl⟩ := NP
      obtain ⟨c1, c2, c3, c4⟩ := b1
      obtain ⟨d1, d2, d3, d4⟩ := b2
      have HX : Hid (_ = _) := hx
      have HY : Hid (_ = _) := hy
      have HR : Hid (_ = _) := hr
      have HS : Hid (_ = _) := hs
      have DA : Hid (decide (mag a0 < 9218868437227405312) = true) := decide_eq_true ha
      have DB : Hid (decide (mag a1 < 9218868437227405312) = true) := decide_eq_true hb
      have wr1 : IntKind.i64.wrap r2 = r2 := by rw [IntKind.wrap_i64]; omega
      have wr2 : IntKind.i64.wrap s2 = s2 := by rw [IntKind.wrap_i64]; omega
      clear hx hy hr hs ha hb
      rcases NS with ⟨rfl, rfl⟩ | ⟨n1, rfl⟩ <;> rcases NP with ⟨rfl, rfl, rfl⟩ | ⟨rfl, n2, rfl⟩ | ⟨n3, rfl⟩
      all_goals
        go_enter Try.func4, Try.ntmps4
        go_wp2_with (first | (go_at_call 7; refine (lHead7 _).mono ?_; rintro e W0 ⟨rfl, hbx⟩; have hx0 : Below w.heap.size w W0 := hbx; have hz0 : w.heap.size ≤ W0.heap.size := hbx.size; clear hbx) | (go_at_call_of 19 a0; refine (dOf _ _ h0 h1').mono ?_; rintro e W1 ⟨v, rfl, ht, hb1⟩; rw [DA.out]; obtain ⟨na, A1, n1, c1, p1, rfl⟩ := ht.form; have T1 : Hid (Tell _ _ _ _ _ _) := (ht.base (Nat.zero_le _)); have hx1 : Below w.heap.size w W1 := (hx0.trans (hb1.mono hz0)); have hz1 : w.heap.size ≤ W1.heap.size := hx1.size; clear ht hb1) | (go_at_call_of 19 a1; refine (dOf _ _ g0 g1').mono ?_; rintro e W2 ⟨v, rfl, ht, hb2⟩; rw [DB.out]; obtain ⟨nb, A2, n2', c2', p2, rfl⟩ := ht.form; have T2 : Hid (Tell _ _ _ _ _ _) := (ht.base (Nat.zero_le _)); have T1' : Hid (Tell W2 _ _ _ _ _) := (T1.out.below (Below.trans (by repeat (first | exact Below.refl _ _ | (refine Below.alloc ?_ (by first | omega | (simp <;> omega)) _) | (refine Below.setCell ?_ (by first | omega | (simp <;> omega)) _) | (refine Below.drew ?_))) (hb2.mono (by first | omega | (simp <;> omega))))); obtain ⟨hc2, hf2⟩ := bcell hb2; have hz2 : W1.heap.size < W2.heap.size := (by have := hb2.size; simp at this; omega); have hx2 : Below w.heap.size w W2 := (Below.trans (by repeat (first | exact Below.refl _ _ | exact hx1 | (refine Below.alloc ?_ (by first | omega | (simp <;> omega)) _) | (refine Below.setCell ?_ (by first | omega | (simp <;> omega)) _) | (refine Below.drew ?_))) (hb2.mono (by first | omega | (simp <;> omega)))); have hn2 : ¬ W1.heap.size = W2.heap.size := (by omega); have hm2 : W1.heap.size < W2.heap.size + 1 := (by omega); clear ht hb2 T1) | (go_at_call_of 20 a0; refine (finite_any _ _ h0 h1').mono ?_; rintro e w' ⟨rfl, rfl⟩; rw [FD.out, DA.out]) | (go_at_call_of 20 a1; refine (finite_any _ _ g0 g1').mono ?_; rintro e w' ⟨rfl, rfl⟩; rw [FD.out, DB.out]) | (go_at_call 14; refine (dAdd _ _ _ 0 17 17 _ _ (T1'.out.below (by repeat (first | exact Below.refl _ _ | (refine Below.alloc ?_ (by first | omega | (simp <;> omega)) _) | (refine Below.setCell ?_ (by first | omega | (simp <;> omega)) _) | (refine Below.drew ?_)))) (T2.out.below (by repeat (first | exact Below.refl _ _ | (refine Below.alloc ?_ (by first | omega | (simp <;> omega)) _) | (refine Below.setCell ?_ (by first | omega | (simp <;> omega)) _) | (refine Below.drew ?_)))) (by omega) (by omega) (by omega)).mono ?_; rintro e W3 ⟨v, rfl, ht, hb3⟩; obtain ⟨n3_, A3, n3', c3', p3, rfl⟩ := ht.form; have T3 : Hid (Tell _ _ _ _ _ _) := (ht.base (Nat.zero_le _)); clear ht; obtain ⟨hc3, hf3⟩ := bcell hb3; have hz3 : W2.heap.size < W3.heap.size := (by have := hb3.size; first | omega | (simp at this; omega)); have hy3 : W1.heap.size < W3.heap.size := (by omega); have hx3 : Below w.heap.size w W3 := (Below.trans (by repeat (first | exact Below.refl _ _ | exact hx2 | (refine Below.alloc ?_ (by first | omega | (simp <;> omega)) _) | (refine Below.setCell ?_ (by first | omega | (simp <;> omega)) _) | (refine Below.drew ?_))) (hb3.mono (by first | omega | (simp <;> omega)))); have hk3 : Below W2.heap.size W2 W3 := (Below.trans (by repeat (first | exact Below.refl _ _ | (refine Below.alloc ?_ (by first | omega | (simp <;> omega)) _) | (refine Below.setCell ?_ (by first | omega | (simp <;> omega)) _) | (refine Below.drew ?_))) (hb3.mono (by first | omega | (simp <;> omega)))); clear hb3) | (go_at_call_of 22 A3; refine (dNearN _ _ 0 17 (17 + 1) _ T3.out (by omega) (by omega)).mono ?_; rintro e W4 ⟨rfl, hb4⟩; rw [← HR.out]; obtain ⟨hc4, hf4⟩ := bcell hb4; have hz4 : W2.heap.size < W4.heap.size := (by have := hb4.size; first | omega | (simp at this; omega)); have hy4 : W1.heap.size < W4.heap.size := (by omega); have hx4 : Below w.heap.size w W4 := (Below.trans (by repeat (first | exact Below.refl _ _ | exact hx3 | (refine Below.alloc ?_ (by first | omega | (simp <;> omega)) _) | (refine Below.setCell ?_ (by first | omega | (simp <;> omega)) _) | (refine Below.drew ?_))) (hb4.mono (by first | omega | (simp <;> omega)))); have hk4 : Below W2.heap.size W2 W4 := (Below.trans (by repeat (first | exact Below.refl _ _ | exact hk3 | (refine Below.alloc ?_ (by first | omega | (simp <;> omega)) _) | (refine Below.setCell ?_ (by first | omega | (simp <;> omega)) _) | (refine Below.drew ?_))) (hb4.mono (by first | omega | (simp <;> omega)))); clear hb4) | (go_at_call 17; refine (dMul _ _ _ 0 17 17 17 17 _ _ (T1'.out.below hk4) (T2.out.below hk4) (by omega) (by omega) (by omega) (by omega) (by omega) (by omega)).mono ?_; rintro e W5 ⟨v, rfl, ht, hb5⟩; obtain ⟨n5_, A5, n5', c5', p5, rfl⟩ := ht.form; have T5 : Hid (Tell _ _ _ _ _ _) := (ht.base (Nat.zero_le _)); clear ht; obtain ⟨hc5, hf5⟩ := bcell hb5; have hz5 : W2.heap.size < W5.heap.size := (by have := hb5.size; first | omega | (simp at this; omega)); have hy5 : W1.heap.size < W5.heap.size := (by omega); have hx5 : Below w.heap.size w W5 := (Below.trans (by repeat (first | exact Below.refl _ _ | exact hx4 | (refine Below.alloc ?_ (by first | omega | (simp <;> omega)) _) | (refine Below.setCell ?_ (by first | omega | (simp <;> omega)) _) | (refine Below.drew ?_))) (hb5.mono (by first | omega | (simp <;> omega)))); have hk5 : Below W2.heap.size W2 W5 := (Below.trans (by repeat (first | exact Below.refl _ _ | exact hk4 | (refine Below.alloc ?_ (by first | omega | (simp <;> omega)) _) | (refine Below.setCell ?_ (by first | omega | (simp <;> omega)) _) | (refine Below.drew ?_))) (hb5.mono (by first | omega | (simp <;> omega)))); clear hb5) | (go_at_call_of 22 A5; refine (dNearN _ _ 0 (17 + 17) (17 + 17) _ T5.out (by omega) (by omega)).mono ?_; rintro e W6 ⟨rfl, hb6⟩; rw [← HS.out]; obtain ⟨hc6, hf6⟩ := bcell hb6; have hz6 : W2.heap.size < W6.heap.size := (by have := hb6.size; first | omega | (simp at this; omega)); have hy6 : W1.heap.size < W6.heap.size := (by omega); have hx6 : Below w.heap.size w W6 := (Below.trans (by repeat (first | exact Below.refl _ _ | exact hx5 | (refine Below.alloc ?_ (by first | omega | (simp <;> omega)) _) | (refine Below.setCell ?_ (by first | omega | (simp <;> omega)) _) | (refine Below.drew ?_))) (hb6.mono (by first | omega | (simp <;> omega)))); have hk6 : Below W2.heap.size W2 W6 := (Below.trans (by repeat (first | exact Below.refl _ _ | exact hk5 | (refine Below.alloc ?_ (by first | omega | (simp <;> omega)) _) | (refine Below.setCell ?_ (by first | omega | (simp <;> omega)) _) | (refine Below.drew ?_))) (hb6.mono (by first | omega | (simp <;> omega)))); clear hb6) | (go_at_call 23; refine (q4Add _ _ _ h0 h1' g0 g1').mono ?_; rintro e W7 ⟨rfl, hb7⟩; rw [← HX.out]; have hx7 : Below w.heap.size w W7 := (hx6.trans (hb7.mono hx6.size)); clear hb7) | (go_at_call 24; refine (q4Mul _ _ _ h0 h1' g0 g1').mono ?_; rintro e W8 ⟨rfl, hb8⟩; rw [← HY.out]; have hx8 : Below w.heap.size w W8 := (hx7.trans (hb8.mono hx7.size)); clear hb8))
        go_ret
        exact ⟨rfl, hx8⟩
    · have DA : Hid (decide (mag a0 < 9218868437227405312) = true) := decide_eq_true ha
      have DB : Hid (decide (mag a1 < 9218868437227405312) = false) := decide_eq_false hb
      clear ha hb
      go_enter Try.func4, Try.ntmps4
      go_wp2_with (first | (go_at_call 7; refine (lHead7 _).mono ?_; rintro e W0 ⟨rfl, hbx⟩; have hx0 : Below w.heap.size w W0 := hbx; have hz0 : w.heap.size ≤ W0.heap.size := hbx.size; clear hbx) | (go_at_call_of 19 a0; refine (dOf _ _ h0 h1').mono ?_; rintro e W1 ⟨v, rfl, ht, hb1⟩; rw [DA.out]; obtain ⟨na, A1, n1, c1, p1, rfl⟩ := ht.form; have T1 : Hid (Tell _ _ _ _ _ _) := (ht.base (Nat.zero_le _)); have hx1 : Below w.heap.size w W1 := (hx0.trans (hb1.mono hz0)); have hz1 : w.heap.size ≤ W1.heap.size := hx1.size; clear ht hb1) | (go_at_call_of 19 a1; refine (dOf _ _ g0 g1').mono ?_; rintro e W2 ⟨v, rfl, ht, hb2⟩; rw [DB.out]; obtain ⟨nb, A2, n2', c2', p2, rfl⟩ := ht.form; have T2 : Hid (Tell _ _ _ _ _ _) := (ht.base (Nat.zero_le _)); have T1' : Hid (Tell W2 _ _ _ _ _) := (T1.out.below (Below.trans (by repeat (first | exact Below.refl _ _ | (refine Below.alloc ?_ (by first | omega | (simp <;> omega)) _) | (refine Below.setCell ?_ (by first | omega | (simp <;> omega)) _) | (refine Below.drew ?_))) (hb2.mono (by first | omega | (simp <;> omega))))); obtain ⟨hc2, hf2⟩ := bcell hb2; have hz2 : W1.heap.size < W2.heap.size := (by have := hb2.size; simp at this; omega); have hx2 : Below w.heap.size w W2 := (Below.trans (by repeat (first | exact Below.refl _ _ | exact hx1 | (refine Below.alloc ?_ (by first | omega | (simp <;> omega)) _) | (refine Below.setCell ?_ (by first | omega | (simp <;> omega)) _) | (refine Below.drew ?_))) (hb2.mono (by first | omega | (simp <;> omega)))); have hn2 : ¬ W1.heap.size = W2.heap.size := (by omega); have hm2 : W1.heap.size < W2.heap.size + 1 := (by omega); clear ht hb2 T1) | (go_at_call_of 20 a0; refine (finite_any _ _ h0 h1').mono ?_; rintro e w' ⟨rfl, rfl⟩; rw [FD.out, DA.out]) | (go_at_call_of 20 a1; refine (finite_any _ _ g0 g1').mono ?_; rintro e w' ⟨rfl, rfl⟩; rw [FD.out, DB.out]) | (go_at_call 21; refine (dSign _ _ 0 17 17 _ (T1'.out.below (by repeat (first | exact Below.refl _ _ | (refine Below.alloc ?_ (by first | omega | (simp <;> omega)) _) | (refine Below.setCell ?_ (by first | omega | (simp <;> omega)) _) | (refine Below.drew ?_))))).mono ?_; rintro e W3 ⟨rfl, hb3⟩; rw [ZA.out]; have hx3 : Below w.heap.size w W3 := (Below.trans (by repeat (first | exact Below.refl _ _ | exact hx2 | (refine Below.alloc ?_ (by first | omega | (simp <;> omega)) _) | (refine Below.setCell ?_ (by first | omega | (simp <;> omega)) _) | (refine Below.drew ?_))) (hb3.mono (by first | omega | (simp <;> omega)))); clear hb3))
      go_ret
      exact ⟨rfl, by first | exact hx3 | exact (by repeat (first | exact Below.refl _ _ | exact hx2 | (refine Below.alloc ?_ (by first | omega | (simp <;> omega)) _) | (refine Below.setCell ?_ (by first | omega | (simp <;> omega)) _) | (refine Below.drew ?_)))⟩
  · have DA : Hid (decide (mag a0 < 9218868437227405312) = false) := decide_eq_false ha
    have ZA : Hid (cmpZ (xv a0) 0 = 0) := by show _ = _; rw [show xv a0 = 0 from if_neg ha]; rfl
    clear ha
    obtain ⟨fb, hfb⟩ : ∃ fb, decide (mag a1 < 9218868437227405312) = fb := ⟨_, rfl⟩
    have DB : Hid (decide (mag a1 < 9218868437227405312) = fb) := hfb
    clear hfb
    go_enter Try.func4, Try.ntmps4
    go_wp2_with (first | (go_at_call 7; refine (lHead7 _).mono ?_; rintro e W0 ⟨rfl, hbx⟩; have hx0 : Below w.heap.size w W0 := hbx; have hz0 : w.heap.size ≤ W0.heap.size := hbx.size; clear hbx) | (go_at_call_of 19 a0; refine (dOf _ _ h0 h1').mono ?_; rintro e W1 ⟨v, rfl, ht, hb1⟩; rw [DA.out]; obtain ⟨na, A1, n1, c1, p1, rfl⟩ := ht.form; have T1 : Hid (Tell _ _ _ _ _ _) := (ht.base (Nat.zero_le _)); have hx1 : Below w.heap.size w W1 := (hx0.trans (hb1.mono hz0)); have hz1 : w.heap.size ≤ W1.heap.size := hx1.size; clear ht hb1) | (go_at_call_of 19 a1; refine (dOf _ _ g0 g1').mono ?_; rintro e W2 ⟨v, rfl, ht, hb2⟩; rw [DB.out]; obtain ⟨nb, A2, n2', c2', p2, rfl⟩ := ht.form; have T2 : Hid (Tell _ _ _ _ _ _) := (ht.base (Nat.zero_le _)); have T1' : Hid (Tell W2 _ _ _ _ _) := (T1.out.below (Below.trans (by repeat (first | exact Below.refl _ _ | (refine Below.alloc ?_ (by first | omega | (simp <;> omega)) _) | (refine Below.setCell ?_ (by first | omega | (simp <;> omega)) _) | (refine Below.drew ?_))) (hb2.mono (by first | omega | (simp <;> omega))))); obtain ⟨hc2, hf2⟩ := bcell hb2; have hz2 : W1.heap.size < W2.heap.size := (by have := hb2.size; simp at this; omega); have hx2 : Below w.heap.size w W2 := (Below.trans (by repeat (first | exact Below.refl _ _ | exact hx1 | (refine Below.alloc ?_ (by first | omega | (simp <;> omega)) _) | (refine Below.setCell ?_ (by first | omega | (simp <;> omega)) _) | (refine Below.drew ?_))) (hb2.mono (by first | omega | (simp <;> omega)))); have hn2 : ¬ W1.heap.size = W2.heap.size := (by omega); have hm2 : W1.heap.size < W2.heap.size + 1 := (by omega); clear ht hb2 T1) | (go_at_call_of 20 a0; refine (finite_any _ _ h0 h1').mono ?_; rintro e w' ⟨rfl, rfl⟩; rw [FD.out, DA.out]) | (go_at_call_of 20 a1; refine (finite_any _ _ g0 g1').mono ?_; rintro e w' ⟨rfl, rfl⟩; rw [FD.out, DB.out]) | (go_at_call 21; refine (dSign _ _ 0 17 17 _ (T1'.out.below (by repeat (first | exact Below.refl _ _ | (refine Below.alloc ?_ (by first | omega | (simp <;> omega)) _) | (refine Below.setCell ?_ (by first | omega | (simp <;> omega)) _) | (refine Below.drew ?_))))).mono ?_; rintro e W3 ⟨rfl, hb3⟩; rw [ZA.out]; have hx3 : Below w.heap.size w W3 := (Below.trans (by repeat (first | exact Below.refl _ _ | exact hx2 | (refine Below.alloc ?_ (by first | omega | (simp <;> omega)) _) | (refine Below.setCell ?_ (by first | omega | (simp <;> omega)) _) | (refine Below.drew ?_))) (hb3.mono (by first | omega | (simp <;> omega)))); clear hb3))
    go_ret
    exact ⟨rfl, by first | exact hx3 | exact (by repeat (first | exact Below.refl _ _ | exact hx2 | (refine Below.alloc ?_ (by first | omega | (simp <;> omega)) _) | (refine Below.setCell ?_ (by first | omega | (simp <;> omega)) _) | (refine Below.drew ?_)))⟩

/-! ### THE ROW's STEP -/
set_option maxRecDepth 100000 in
theorem lifted (os : Os) (started : os.Started) (H : Type) (enc : TypeId × Value → H) :
    ReturnsInHanded {} Try.checked os 4 .any (Rows.dyadNearsSpec.pre6 enc Try.prog Try.f4 Rows.dyadNearsRow.domain false) (Rows.dyadNearsSpec.post enc Try.prog Try.f4 false true false false) := by
  refine returnsInHanded_of_change (C := Try.checked) own started (by kernel_rfl) Try.func4
    (ChangeSpec.witness6 (enc := enc) (C := Try.checked) false ⟨#[], #[.int .u64 0, .int .u64 0], []⟩ 8 (by kernel_rfl) (by kernel_rfl) (by kernel_rfl) (by kernel_rfl)) ?_
  intro W base args ds gs before hval0 hW hcnd _
  have hval : ∀ (j : Nat) t v, Try.f4.params[j]? = some t → args[j]? = some v → Value.okWide Try.prog W .any base t v := hval0
  have hW' := hW
  obtain ⟨p, q, hA0, hV, rfl, hfz, hnd⟩ := hW
  have hA : DataW.TrodAll enc Try.prog W 0 (fun _ => true) true Try.f4.params.toList args.toList ds p := hA0
  rw [Try.params4] at hA hval
  obtain ⟨v0, vs0, d0, ds0, p0, q0, hargs, rfl, rfl, h0, r0⟩ := trodAll_cons hA
  obtain ⟨v1, vs1, d1, ds1, p1, q1, rfl, rfl, rfl, h1, r1⟩ := trodAll_cons r0
  obtain ⟨rfl, rfl, rfl⟩ := trodAll_nil r1
  obtain rfl : args = #[v0, v1] := by cases args; simp_all
  obtain ⟨rfl, rfl⟩ := trodVars_none hV
  obtain ⟨a0, rfl, rfl, rfl, w0⟩ := open_int Try.underlying22 (hval 0 22 v0 rfl rfl) h0
  obtain ⟨a1, rfl, rfl, rfl, w1⟩ := open_int Try.underlying22 (hval 1 22 v1 rfl rfl) h1
  clear hA0 hval0
  refine (walk a0 a1 W w0 w1).mono fun e W' ⟨he, bel⟩ => ?_
  subst he
  exact ⟨_, rfl, _, _, _, [], _, [], hW', trodAll_mk1 (shut_bool Try.underlying4 _), (trodAll_cons_mk (shut_int Try.underlying22 w0) (trodAll_cons_mk (shut_int Try.underlying22 w1) trodAll_mk0)), rfl, bel.frame _, fun h => by cases h⟩

theorem over : Rows.dyadNearsRow.holds Try.pinned (OpenSpec.ofChange Rows.dyadNearsSpec) :=
  OpenClaim.holds_of_wide 4 Try.f4 rfl rfl rfl rfl rfl rfl rfl ⟨rfl, rfl, rfl, rfl, rfl⟩ rfl rfl rfl rfl rfl (by kernel_rfl) Try.func4 (by kernel_rfl)
    (of_decide_eq_true (by kernel_rfl)) (by unfold Func.isWrapper; first | (rw [if_pos (by decide +kernel)]; kernel_rfl) | (rw [if_neg (by decide +kernel)]; exact ⟨rfl, rfl⟩))
    (fun os started H enc _ => lifted os started H enc)

/-- THE STATEMENT -/
theorem proved : Rows.DyadNearsSaid :=
  over
#print axioms proved
end Go.Proofs.Ytgpgmnmifhkmbaa.dyadNears
