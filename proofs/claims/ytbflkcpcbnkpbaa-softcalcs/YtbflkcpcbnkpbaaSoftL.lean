/-
  The document's example of layer 4 holds.
-/
import Derived.Test.YtbflkcpcbnkpbaaSoftF
namespace Go.Proofs.Ytbflkcpcbnkpbaa
open Go.RowKit
set_option linter.unusedVariables false

theorem V_dbl (d p q : Nat) (hp : 4503599627370496 + d * 4503599627370496 = p) (hq : 4503599627370496 + (d + 1) * 4503599627370496 = q) : V p + V p = V q := by
  rw [← hp, ← hq, V_split _ _ (by omega) (by omega), V_split _ _ (by omega) (by omega), Nat.pow_succ]
  omega
theorem one_one : addS 4607182418800017408 4607182418800017408 = (4611686018427387904, 0) := by
  unfold addS
  rw [show isNan 4607182418800017408 = false by decide +kernel, show isInf 4607182418800017408 = false by decide +kernel, show isZ 4607182418800017408 = false by decide +kernel, if_neg (by simp), if_neg (by simp), if_neg (by simp), if_neg (by simp), if_neg (by simp), rnd_same' _ _ rfl (by rw [show mag 4607182418800017408 = 4607182418800017408 by decide +kernel]; have := V_pos 4607182418800017408 (by decide); omega)]
  rw [show mag 4607182418800017408 = 4607182418800017408 by decide +kernel]
  have e : V 4607182418800017408 + V 4607182418800017408 = V 4611686018427387904 := V_dbl 1022 _ _ (by decide) (by decide)
  rw [e, (num_V 4611686018427387904 (by decide)).1, (num_V 4611686018427387904 (by decide)).2]
  rfl
theorem one_zero : divS 4607182418800017408 0 = (9218868437227405312, 8) := by decide +kernel
theorem inf_inf : addS 9218868437227405312 (wFlip 9218868437227405312) = (9221120237041090560, 16) := by decide +kernel
theorem rHead4 (w : World) : Calls Try.prog 36 #[] w fun e w' => e = .returned (.bool true) ∧ Below w.heap.size w w' := by
  have A : Hid (_ = _) := one_one
  have B : Hid (_ = _) := one_zero
  have C : Hid (_ = _) := inf_inf
  go_enter Try.func36, Try.ntmps36
  go_wp2_with fail
  refine (pAdd _ _ _ (by omega) (by omega) (by omega) (by omega)).mono ?_
  rintro e w1 ⟨rfl, hb1⟩
  rw [A.out]
  go_wp2_with fail
  refine (pDiv _ _ _ (by omega) (by omega) (by omega) (by omega)).mono ?_
  rintro e w2 ⟨rfl, hb2⟩
  rw [B.out]
  go_wp2_with fail
  refine (pSub _ _ _ (by omega) (by omega) (by omega) (by omega)).mono ?_
  rintro e w3 ⟨rfl, hb3⟩
  rw [C.out]
  go_wp2
  go_ret
  exact ⟨ret_eq rfl, bstep (bstep hb1 hb2) hb3⟩
end Go.Proofs.Ytbflkcpcbnkpbaa
