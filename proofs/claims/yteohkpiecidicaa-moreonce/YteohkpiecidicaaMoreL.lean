/-
  The document's example of layer 5 holds.
-/
import Derived.Test.YteohkpiecidicaaMoreR
namespace Go.Proofs.Yteohkpiecidicaa
open Go.RowKit
set_option linter.unusedVariables false

theorem isq_sq (A : Nat) : isq (A * A) = A := isq_uniq _ _ (Nat.le_refl _) (Nat.mul_lt_mul'' (Nat.lt_succ_self _) (Nat.lt_succ_self _))
theorem V_four : V 4616189618054758400 = 4503599627370496 * 2 ^ 1024 := V_split 4503599627370496 1024 (by decide) (by decide)
theorem root_two (d k : Nat) (e : Int) (x : Nat) (hx : x = 2 ^ 52) (hd : d = 52 + k) : numP (2 ^ d) e = numP x (e + k) ∧ flagP (2 ^ d) e = flagP x (e + k) := by
  rw [hd, Nat.pow_add, numP_scale, flagP_scale, hx]
  exact ⟨rfl, rfl⟩
theorem V_two (d k : Nat) (x : Nat) (hx : x = 2 ^ 52) (v : Nat) (hv : v = x * 2 ^ k) (h : 52 + k + ww = d + d) : v * 2 ^ ww = 2 ^ d * 2 ^ d := by rw [hv, hx, ← Nat.pow_add, ← Nat.pow_add, ← Nat.pow_add, h]
theorem root_four : rootN (V 4616189618054758400) = 4611686018427387904 ∧ rootF (V 4616189618054758400) = 0 := by
  have e := V_two 638 1024 4503599627370496 rfl (V 4616189618054758400) V_four rfl
  unfold rootN rootF
  obtain ⟨d, hd⟩ : ∃ d, d = 638 := ⟨_, rfl⟩
  rw [← hd] at e
  rw [e, isq_sq, show decide (2 ^ d * 2 ^ d ≠ 2 ^ d * 2 ^ d) = false by simp, numM_false, flagM_false, (root_two d 586 (-637) 4503599627370496 rfl (by omega)).1, (root_two d 586 (-637) 4503599627370496 rfl (by omega)).2]
  unfold numP flagP
  rw [show (-637 : Int) + ((586 : Nat) : Int) = -51 by decide, patP_exact 4503599627370496 (-51) (by decide) (by decide) (by decide) (by decide), lostP_exact 4503599627370496 (-51) (by decide) (by decide) (by decide)]
  decide
theorem sqrt_four : sqrtS 4616189618054758400 = (4611686018427387904, 0) := by
  unfold sqrtS
  rw [show isNan 4616189618054758400 = false by decide +kernel, show isZ 4616189618054758400 = false by decide +kernel, show sgn 4616189618054758400 = false by decide +kernel, show mag 4616189618054758400 = 4616189618054758400 by decide +kernel, if_neg (by simp), if_neg (by simp), if_neg (by decide), if_neg (by simp), root_four.1, root_four.2]
  rfl
theorem scale_one : scaleS 4607182418800017408 (-1076) = (0, 3) := by
  have hf : mag 4607182418800017408 < 9218868437227405312 := by decide +kernel
  have sp := scale_parts 4607182418800017408 (-1076) hf
  rw [show wMant 4607182418800017408 = 4503599627370496 by decide +kernel, show wPow 4607182418800017408 = -52 by decide +kernel] at sp
  have nl := num_low (4503599627370496 : Int).toNat 53 (-52 + -1076) (by decide) (by decide) (by decide)
  unfold scaleS
  rw [show isNan 4607182418800017408 = false by decide +kernel, show isZ 4607182418800017408 = false by decide +kernel, show isInf 4607182418800017408 = false by decide +kernel, show sgn 4607182418800017408 = false by decide +kernel, if_neg (by simp), if_neg (by simp), sp.1, sp.2, nl.1, nl.2]
  rfl
theorem to_minus : toS 13832806255468478464 = (-1, 1) := by
  have hf : mag 13832806255468478464 < 9218868437227405312 := by decide +kernel
  have pv := parts_V 13832806255468478464 hf
  rw [show wMant 13832806255468478464 = 6755399441055744 by decide +kernel, show wPow 13832806255468478464 = -52 by decide +kernel] at pv
  obtain ⟨u1, u2⟩ := whole_down (6755399441055744 : Int).toNat (-52) (by decide) (by decide)
  rw [← pv] at u1 u2
  have q1 : V (mag 13832806255468478464) / 2 ^ uu = 1 := by rw [u1]; decide
  have q2 : V (mag 13832806255468478464) % 2 ^ uu ≠ 0 := u2.2 (by decide)
  unfold toS
  rw [if_neg (by omega), show sgn 13832806255468478464 = true by decide +kernel, q1, if_neg (by decide), if_pos rfl, if_pos q2]
  rfl
theorem rHead5 (w : World) : Calls Try.prog 15 #[] w fun e w' => e = .returned (.bool true) ∧ Below w.heap.size w w' := by
  have A : Hid (_ = _) := sqrt_four
  have B : Hid (_ = _) := scale_one
  have C : Hid (_ = _) := to_minus
  go_enter Try.func15, Try.ntmps15
  go_wp2_with fail
  refine (mSqrt _ _ (by omega) (by omega)).mono ?_
  rintro e w1 ⟨rfl, hb1⟩
  rw [A.out]
  go_wp2_with fail
  refine (mScale _ _ _ (by omega) (by omega) (by omega) (by omega)).mono ?_
  rintro e w2 ⟨rfl, hb2⟩
  rw [B.out]
  go_wp2_with fail
  refine (mTo _ _ (by omega) (by omega)).mono ?_
  rintro e w3 ⟨rfl, hb3⟩
  rw [C.out]
  go_wp2
  go_ret
  exact ⟨ret_eq rfl, bstep (bstep hb1 hb2) hb3⟩
end Go.Proofs.Yteohkpiecidicaa
