/-
  The law MoreWholes returns true at every input (any pattern), and leaves its argument as it was. No conditions.
-/
import Derived.Test.YteohkpiecidicaaRows
import Derived.WalkKit
import Derived.ProofKit
import Derived.OpenShut
import Derived.Test.YteohkpiecidicaaMoreL
import Derived.Test.YteohkpiecidicaaRef05R
import Derived.Test.YteohkpiecidicaaMoreI
import Derived.Lib.SmallJoins
import Derived.Below
namespace Go.Proofs.Yteohkpiecidicaa.moreWholes
open Go.ChangeShapes Go.WideShapes Go.ChangeAt Go.RowKit
open Go.Joins (open_agg2 shut_agg2)
set_option linter.unusedVariables false

theorem own : ownKnob Try.prog.godebug = none := by kernel_rfl

set_option maxRecDepth 100000 in
set_option maxHeartbeats 2000000 in
theorem walk (a0 : Int) (w : World) (w0 : (Lit.int .u64 a0).wf = true) :
    Calls Try.prog 7 #[.int .u64 a0] w fun e w' => e = .returned (.bool true) ∧ Below w.heap.size w w' := by
  obtain ⟨h0, h1⟩ := bounds_u64 w0
  have h1' : a0 < 18446744073709551616 := by omega
  by_cases hf : mag a0 < 9218868437227405312
  · have FF : Hid (decide (a0 / 4503599627370496 % 2048 < 2047) = true) := by show _ = _; rw [fin_dec]; exact decide_eq_true hf
    have lv := V_len a0 hf
    obtain ⟨VV, hVV⟩ : ∃ v, V (mag a0) = v := ⟨_, rfl⟩
    obtain ⟨D, hD⟩ : ∃ D, V (mag a0) / 2 ^ uu = D := ⟨_, rfl⟩
    obtain ⟨lo, hlo⟩ : ∃ lo, lostB (V (mag a0)) uu = lo := ⟨_, rfl⟩
    obtain ⟨sa, hsa⟩ : ∃ s, sgn a0 = s := ⟨_, rfl⟩
    have TS : Hid (_ = _) := to_fin a0 hf D lo sa hD hlo hsa
    have SA : Hid (decide (9223372036854775808 ≤ a0) = sa) := hsa
    have HF : Hid (_ < _) := hf
    rw [hVV] at hD hlo lv
    have HV : Hid (_ = _) := hVV
    have HD : Hid (_ = _) := hD
    have HL : Hid (_ = _) := hlo
    have ld : (bl D).length ≤ 2100 := Nat.le_trans (len_mono D VV (by rw [← hD]; exact Nat.div_le_self _ _)) lv
    clear hf hVV hD hlo hsa
    go_enter Try.func7, Try.ntmps7
    go_wp2_with fail
    refine (rHead5 _).mono ?_
    rintro e w1 ⟨rfl, hb1⟩
    go_wp2_with fail
    refine (mTo _ _ h0 h1').mono ?_
    rintro e w2 ⟨rfl, hb2⟩
    obtain ⟨N, hN⟩ : ∃ N, (toS a0).1 = N := ⟨_, rfl⟩
    obtain ⟨F, hF⟩ : ∃ N, (toS a0).2 = N := ⟨_, rfl⟩
    rw [hN, hF]
    rw [TS.out] at hN hF
    have TP : Hid (_ ∧ _) := to_pick D sa lo N F hN hF
    have hbx := bstep hb1 hb2
    clear hb1 hb2 TS hN hF
    go_wp2_with (first | (go_at_call 25; refine (finite_any _ _ h0 h1').mono ?_; rintro e w' ⟨rfl, rfl⟩; rw [FF.out]) | fail)
    refine (q4Whole _ _ h0 h1' HF.out).mono ?_
    rintro e w3 ⟨v3, rfl, own3, hb3⟩
    rw [HV.out] at own3
    have hby := bstep hbx hb3
    clear hb3 hbx
    go_wp2_with fail
    refine (rDown _ _ _ _ own3.sees (bl_bin _) (by omega)).mono ?_
    rintro e w4 ⟨v4, rfl, own4, hb4⟩
    rw [show (1074 : Int).toNat = uu from rfl, val_bl] at *
    rw [HD.out] at own4
    rw [HL.out]
    have hbz := bstep hby hb4
    clear hb4 hby own3
    go_wp2_with fail
    refine (rUp _ [1] _ _ ((Own.one w4 w4.heap.size 1 (Nat.le_refl _)).sees) (Bin.mk (Or.inr rfl) Bin.nil) (by simp) (by omega)).mono ?_
    rintro e w5 ⟨v5, rfl, own5, hb5⟩
    have e5 : 2 ^ (63 : Int).toNat * val [1] = 9223372036854775808 := by rw [val_cons, val_nil]; decide
    rw [e5] at own5
    have hb5' : Below w4.heap.size w4 w5 := ((Below.refl _ _).alloc (Nat.le_refl _) _).trans (hb5.mono (by simp))
    replace own4 := own4.below hb5'
    have hbu := bstep hbz hb5'
    have l5 : (bl 9223372036854775808).length ≤ 100 := (bl_length_le _ _).2 (by decide)
    clear hb5 hb5' hbz e5
    go_wp2_with fail
    refine (rCmp _ _ _ _ _ own4.sees own5.sees (bl_bin _) (bl_bin _) (by omega) (by omega)).mono ?_
    rintro e w6 ⟨rfl, hb6⟩
    rw [val_bl, val_bl]
    replace own4 := own4.below hb6
    have hbv := bstep hbu hb6
    clear hb6 hbu own5 l5
    have ct := cmp_three D 9223372036854775808
    obtain ⟨C, hC⟩ : ∃ C, cmpI D 9223372036854775808 = C := ⟨_, rfl⟩
    rw [hC] at ct
    rw [hC]
    clear hC
    rcases ct with ⟨c1, rfl⟩ | ⟨c1, rfl⟩ | ⟨c1, rfl⟩
    · cases sa
      all_goals
        have wD : IntKind.i64.wrap (D : Int) = (D : Int) := by rw [IntKind.wrap_i64]; omega
        have wN : IntKind.i64.wrap (-(D : Int)) = -(D : Int) := by rw [IntKind.wrap_i64]; omega
        first | obtain rfl := TP.out.2.2.2.2.1 c1 rfl | obtain rfl := TP.out.2.2.2.1 c1 rfl
        cases lo
        all_goals
          first | obtain rfl := TP.out.2.2.2.2.2.1 (Or.inl c1) rfl | obtain rfl := TP.out.2.2.2.2.2.2 (Or.inl c1) rfl
          go_wp2_with (first | (go_at_call 24; refine (neg_any _ _ h0 h1').mono ?_; rintro e w' ⟨rfl, rfl⟩; rw [SA.out]) | fail)
          refine (rNum _ _ _ own4.sees (bl_bin _) (by omega)).mono ?_
          rintro e w' ⟨rfl, rfl⟩
          rw [val_bl, show (D : Int) % 18446744073709551616 = (D : Int) by omega]
          go_wp2_with (first | (go_at_call 24; refine (neg_any _ _ h0 h1').mono ?_; rintro e w' ⟨rfl, rfl⟩; rw [SA.out]))
          all_goals go_ret
          all_goals exact ⟨ret_eq (bool_eq (by simp)), hbv⟩
    · cases sa
      · obtain ⟨rfl, rfl⟩ := TP.out.2.1 c1 rfl
        go_wp2_with (first | (go_at_call 24; refine (neg_any _ _ h0 h1').mono ?_; rintro e w' ⟨rfl, rfl⟩; rw [SA.out]))
        go_ret
        exact ⟨ret_eq (bool_eq (by simp)), hbv⟩
      · obtain rfl := TP.out.2.2.1 c1 rfl
        have z1 : IntKind.i64.wrap 9223372036854775808 = -9223372036854775808 := by rw [IntKind.wrap_i64]; decide
        cases lo
        all_goals
          first | obtain rfl := TP.out.2.2.2.2.2.1 (Or.inr ⟨c1, rfl⟩) rfl | obtain rfl := TP.out.2.2.2.2.2.2 (Or.inr ⟨c1, rfl⟩) rfl
          go_wp2_with (first | (go_at_call 24; refine (neg_any _ _ h0 h1').mono ?_; rintro e w' ⟨rfl, rfl⟩; rw [SA.out]) | fail)
          refine (rNum _ _ _ own4.sees (bl_bin _) (by omega)).mono ?_
          rintro e w' ⟨rfl, rfl⟩
          rw [val_bl, show (D : Int) % 18446744073709551616 = 9223372036854775808 by omega]
          go_wp2_with (first | (go_at_call 24; refine (neg_any _ _ h0 h1').mono ?_; rintro e w' ⟨rfl, rfl⟩; rw [SA.out]))
          all_goals go_ret
          all_goals exact ⟨ret_eq (bool_eq (by simp)), hbv⟩
    · obtain ⟨rfl, rfl⟩ := TP.out.1 c1
      go_wp2_with (first | (go_at_call 24; refine (neg_any _ _ h0 h1').mono ?_; rintro e w' ⟨rfl, rfl⟩; rw [SA.out]))
      go_ret
      exact ⟨ret_eq (bool_eq (by simp)), hbv⟩
  · have FF : Hid (decide (a0 / 4503599627370496 % 2048 < 2047) = false) := by show _ = _; rw [fin_dec]; exact decide_eq_false hf
    have TS : Hid (toS a0 = (0, 16)) := by show _ = _; unfold toS; rw [if_pos (by omega)]
    clear hf
    go_enter Try.func7, Try.ntmps7
    go_wp2_with fail
    refine (rHead5 _).mono ?_
    rintro e w1 ⟨rfl, hb1⟩
    go_wp2_with fail
    refine (mTo _ _ h0 h1').mono ?_
    rintro e w2 ⟨rfl, hb2⟩
    rw [TS.out]
    have hbx := bstep hb1 hb2
    clear hb1 hb2 TS
    go_wp2_with (first | (go_at_call 25; refine (finite_any _ _ h0 h1').mono ?_; rintro e w' ⟨rfl, rfl⟩; rw [FF.out]))
    go_ret
    exact ⟨ret_eq (bool_eq (by simp)), hbx⟩

/-! ### THE ROW's STEP -/
set_option maxRecDepth 100000 in
theorem lifted (os : Os) (started : os.Started) (H : Type) (enc : TypeId × Value → H) :
    ReturnsInHanded {} Try.checked os 7 .any (Rows.moreWholesSpec.pre6 enc Try.prog Try.f7 Rows.moreWholesRow.domain false) (Rows.moreWholesSpec.post enc Try.prog Try.f7 false true false false) := by
  refine returnsInHanded_of_change (C := Try.checked) own started (by kernel_rfl) Try.func7
    (ChangeSpec.witness6 (enc := enc) (C := Try.checked) false ⟨#[], #[.int .u64 0], []⟩ 8 (by kernel_rfl) (by kernel_rfl) (by kernel_rfl) (by kernel_rfl)) ?_
  intro W base args ds gs before hval0 hW hcnd _
  have hval : ∀ (j : Nat) t v, Try.f7.params[j]? = some t → args[j]? = some v → Value.okWide Try.prog W .any base t v := hval0
  have hW' := hW
  obtain ⟨p, q, hA0, hV, rfl, hfz, hnd⟩ := hW
  have hA : DataW.TrodAll enc Try.prog W 0 (fun _ => true) true Try.f7.params.toList args.toList ds p := hA0
  rw [Try.params7] at hA hval
  obtain ⟨v0, vs0, d0, ds0, p0, q0, hargs, rfl, rfl, h0, r0⟩ := trodAll_cons hA
  obtain ⟨rfl, rfl, rfl⟩ := trodAll_nil r0
  obtain rfl : args = #[v0] := by cases args; simp_all
  obtain ⟨rfl, rfl⟩ := trodVars_none hV
  obtain ⟨a0, rfl, rfl, rfl, w0⟩ := open_int Try.underlying22 (hval 0 22 v0 rfl rfl) h0
  clear hA0 hval0
  refine (walk a0 W w0).mono fun e W' ⟨he, bel⟩ => ?_
  subst he
  exact ⟨_, rfl, _, _, _, [], _, [], hW', trodAll_mk1 (shut_bool Try.underlying4 _), (trodAll_cons_mk (shut_int Try.underlying22 w0) trodAll_mk0), rfl, bel.frame _, fun h => by cases h⟩

theorem over : Rows.moreWholesRow.holds Try.pinned (OpenSpec.ofChange Rows.moreWholesSpec) :=
  OpenClaim.holds_of_wide 7 Try.f7 rfl rfl rfl rfl rfl rfl rfl ⟨rfl, rfl, rfl, rfl, rfl⟩ rfl rfl rfl rfl rfl (by kernel_rfl) Try.func7 (by kernel_rfl)
    (of_decide_eq_true (by kernel_rfl)) (by unfold Func.isWrapper; first | (rw [if_pos (by decide +kernel)]; kernel_rfl) | (rw [if_neg (by decide +kernel)]; exact ⟨rfl, rfl⟩))
    (fun os started H enc _ => lifted os started H enc)

/-- THE STATEMENT -/
theorem proved : Rows.MoreWholesSaid :=
  over
#print axioms proved
end Go.Proofs.Yteohkpiecidicaa.moreWholes
