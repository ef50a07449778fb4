/-
  The law RoundExact returns true at every input, and leaves its arguments as they were. No conditions.
-/
import Derived.Test.YtbflkcpcbnkpbaaRows
import Derived.WalkKit
import Derived.ProofKit
import Derived.OpenShut
import Derived.Test.YtbflkcpcbnkpbaaRoundL
import Derived.Test.YtbflkcpcbnkpbaaPartM
import Derived.Lib.SmallJoins
import Derived.Below
namespace Go.Proofs.Ytbflkcpcbnkpbaa.roundExact
open Go.ChangeShapes Go.WideShapes Go.ChangeAt Go.RowKit
open Go.Joins (open_agg2 shut_agg2)
set_option linter.unusedVariables false

theorem own : ownKnob Try.prog.godebug = none := by kernel_rfl

theorem fit_left (m : Nat) (u : Nat) (hm : m < 9007199254740992) (hu : u < 64) : 2 ^ u * m % 2 ^ 128 = m * 2 ^ u := by
  rw [Nat.mul_comm]
  refine Nat.mod_eq_of_lt ?_
  have h1 : m * 2 ^ u < 2 ^ 53 * 2 ^ u := Nat.mul_lt_mul_of_pos_right (by omega) (Nat.two_pow_pos u)
  rw [← Nat.pow_add] at h1
  exact Nat.lt_of_lt_of_le h1 (Nat.pow_le_pow_right (by decide) (by omega))
theorem walk (a0 : Int) (a1 : Int) (w : World) (w0 : (Lit.int .u64 a0).wf = true) (w1 : (Lit.int .i64 a1).wf = true) :
    Calls Try.prog 4 #[.int .u64 a0, .int .i64 a1] w fun e w' => e = .returned (.bool true) ∧ Below w.heap.size w w' := by
  obtain ⟨h0, h1⟩ := bounds_u64 w0
  have h1' : a0 < 18446744073709551616 := by omega
  by_cases hf : a0 / 4503599627370496 % 2048 < 2047
  · obtain ⟨p1, p2, p3, p4⟩ := parts_bd a0
    obtain ⟨q1, q2⟩ := parts_num a0 ((fin_mag a0).1 hf)
    have u1 : 0 ≤ a1 % 64 := by omega
    have u2 : a1 % 64 < 64 := by omega
    have hu := and_63_i a1
    have WS : Hid (_ = _) := whole_sign a0 h0 h1'
    have Q : Hid (_ ∧ _) := ⟨q1, q2⟩
    have HF : Hid (_ < _) := hf
    have hW : Hid (wid 0 (wMant a0) = (wMant a0).toNat) := by show _ = _; unfold wid; omega
    clear q1 q2 hf
    generalize a1 % 64 = u at *
    go_enter Try.func4, Try.ntmps4
    go_wp2_with fail
    refine (rHead3 _).mono ?_
    rintro e w1 ⟨rfl, hb1⟩
    go_wp2_with fail
    refine (finite_any _ _ h0 h1').mono ?_
    rintro e w2 ⟨rfl, rfl⟩
    rw [decide_eq_true HF.out]
    go_wp2_with fail
    refine (parts_any _ _ h0 h1').mono ?_
    rintro e w2 ⟨rfl, rfl⟩
    go_wp2_with fail
    refine (neg_any _ _ h0 h1').mono ?_
    rintro e w2 ⟨rfl, rfl⟩
    go_wp2_with fail
    refine (wLeft _ _ _ _ (by omega) (by omega) p1 (by omega) (by omega)).mono ?_
    rintro e w3 ⟨h, l, rfl, k0, k1, k2, k3, k4, hb3⟩
    rw [hW.out, fit_left _ _ (by omega) (by omega)] at k4
    have K4 : Hid (_ = _) := k4
    clear k4
    go_wp2_with fail
    refine (pRound _ _ _ _ _ _ k0 k1 k2 k3).mono ?_
    rintro e w4 ⟨rfl, hb4⟩
    have R : Hid (sgnB (decide (9223372036854775808 ≤ a0)) + ((numR (wid h l) (clampE (wPow a0 - u)) false : Nat) : Int) = a0 ∧ ((flagR (wid h l) (clampE (wPow a0 - u)) false : Nat) : Int) = 0) := by
      show _ ∧ _
      rw [clampE_in _ (by omega) (by omega), (numR_false _ _).1, (numR_false _ _).2, K4.out, numP_scale, flagP_scale, show wPow a0 - u + (u.toNat : Int) = wPow a0 by omega, Q.out.1, Q.out.2]
      exact ⟨WS.out.symm, rfl⟩
    rw [R.out.1, R.out.2]
    go_wp2
    go_ret
    exact ⟨ret_eq rfl, bstep hb1 (bstep hb3 hb4)⟩
  · go_enter Try.func4, Try.ntmps4
    go_wp2_with fail
    refine (rHead3 _).mono ?_
    rintro e w1 ⟨rfl, hb1⟩
    go_wp2_with fail
    refine (finite_any _ _ h0 h1').mono ?_
    rintro e w2 ⟨rfl, rfl⟩
    rw [show decide (a0 / 4503599627370496 % 2048 < 2047) = false from decide_eq_false (by omega)]
    go_wp2
    go_ret
    exact ⟨ret_eq rfl, hb1⟩

/-! ### THE ROW's STEP -/
set_option maxRecDepth 100000 in
theorem lifted (os : Os) (started : os.Started) (H : Type) (enc : TypeId × Value → H) :
    ReturnsInHanded {} Try.checked os 4 .any (Rows.roundExactSpec.pre6 enc Try.prog Try.f4 Rows.roundExactRow.domain false) (Rows.roundExactSpec.post enc Try.prog Try.f4 false true false false) := by
  refine returnsInHanded_of_change (C := Try.checked) own started (by kernel_rfl) Try.func4
    (ChangeSpec.witness6 (enc := enc) (C := Try.checked) false ⟨#[], #[.int .u64 0, .int .i64 0], []⟩ 8 (by kernel_rfl) (by kernel_rfl) (by kernel_rfl) (by kernel_rfl)) ?_
  intro W base args ds gs before hval0 hW hcnd _
  have hval : ∀ (j : Nat) t v, Try.f4.params[j]? = some t → args[j]? = some v → Value.okWide Try.prog W .any base t v := hval0
  have hW' := hW
  obtain ⟨p, q, hA0, hV, rfl, hfz, hnd⟩ := hW
  have hA : DataW.TrodAll enc Try.prog W 0 (fun _ => true) true Try.f4.params.toList args.toList ds p := hA0
  rw [Try.params4] at hA hval
  obtain ⟨v0, vs0, d0, ds0, p0, q0, hargs, rfl, rfl, h0, r0⟩ := trodAll_cons hA
  obtain ⟨v1, vs1, d1, ds1, p1, q1, rfl, rfl, rfl, h1, r1⟩ := trodAll_cons r0
  obtain ⟨rfl, rfl, rfl⟩ := trodAll_nil r1
  obtain rfl : args = #[v0, v1] := by cases args; simp_all
  obtain ⟨rfl, rfl⟩ := trodVars_none hV
  obtain ⟨a0, rfl, rfl, rfl, w0⟩ := open_int Try.underlying22 (hval 0 22 v0 rfl rfl) h0
  obtain ⟨a1, rfl, rfl, rfl, w1⟩ := open_int Try.underlying3 (hval 1 3 v1 rfl rfl) h1
  clear hA0 hval0
  refine (walk a0 a1 W w0 w1).mono fun e W' ⟨he, bel⟩ => ?_
  subst he
  exact ⟨_, rfl, _, _, _, [], _, [], hW', trodAll_mk1 (shut_bool Try.underlying4 _), (trodAll_cons_mk (shut_int Try.underlying22 w0) (trodAll_cons_mk (shut_int Try.underlying3 w1) trodAll_mk0)), rfl, bel.frame _, fun h => by cases h⟩

theorem over : Rows.roundExactRow.holds Try.pinned (OpenSpec.ofChange Rows.roundExactSpec) :=
  OpenClaim.holds_of_wide 4 Try.f4 rfl rfl rfl rfl rfl rfl rfl ⟨rfl, rfl, rfl, rfl, rfl⟩ rfl rfl rfl rfl rfl (by kernel_rfl) Try.func4 (by kernel_rfl)
    (of_decide_eq_true (by kernel_rfl)) (by unfold Func.isWrapper; first | (rw [if_pos (by decide +kernel)]; kernel_rfl) | (rw [if_neg (by decide +kernel)]; exact ⟨rfl, rfl⟩))
    (fun os started H enc _ => lifted os started H enc)

/-- THE STATEMENT -/
theorem proved : Rows.RoundExactSaid :=
  over
#print axioms proved
end Go.Proofs.Ytbflkcpcbnkpbaa.roundExact
