/-
  The law OrderCmps returns true at every input (any two patterns), and leaves its arguments as they were. No conditions.
-/
import Derived.Test.YteohkpiecidicaaRows
import Derived.WalkKit
import Derived.ProofKit
import Derived.OpenShut
import Derived.Test.YteohkpiecidicaaOrderV
import Derived.Lib.SmallJoins
import Derived.Below
namespace Go.Proofs.Yteohkpiecidicaa.orderCmps
open Go.ChangeShapes Go.WideShapes Go.ChangeAt Go.RowKit
open Go.Joins (open_agg2 shut_agg2)
set_option linter.unusedVariables false

theorem own : ownKnob Try.prog.godebug = none := by kernel_rfl

theorem val_key (a b : Int) (na : isNan a = false) (nb : isNan b = false) : valS a b = cmpS a b := by
  have e : cmpS a b = cmpZ (keyS a) (keyS b) := by unfold cmpS; rw [na, nb, if_neg (by simp)]
  rw [e]
  unfold valS
  by_cases hz : mag a = 0 ∧ mag b = 0
  · rw [if_pos hz]
    unfold keyS cmpZ
    rw [hz.1, hz.2]
    cases sgn a <;> cases sgn b <;> rfl
  · rw [if_neg hz]
    unfold keyS cmpZ
    generalize mag a = x at *
    generalize mag b = y at *
    cases sgn a <;> cases sgn b <;> simp only [Bool.and_self, Bool.and_false, Bool.and_true, Bool.false_eq_true, if_false, if_true]
    all_goals repeat' split
    all_goals omega
theorem val_zero (a b : Int) (hz : mag a = 0) (hs : sgn a ≠ sgn b) (hb : mag b ≠ 0) : valS a b = if sgn b then 1 else -1 := by
  unfold valS
  rw [if_neg (by omega)]
  revert hs
  cases sgn a <;> cases sgn b <;> simp
set_option maxRecDepth 100000 in
set_option maxHeartbeats 2000000 in
theorem walk (a0 : Int) (a1 : Int) (w : World) (w0 : (Lit.int .u64 a0).wf = true) (w1 : (Lit.int .u64 a1).wf = true) :
    Calls Try.prog 10 #[.int .u64 a0, .int .u64 a1] w fun e w' => e = .returned (.bool true) ∧ Below w.heap.size w w' := by
  obtain ⟨h0, h1⟩ := bounds_u64 w0
  obtain ⟨g0, g1⟩ := bounds_u64 w1
  have h1' : a0 < 18446744073709551616 := by omega
  have g1' : a1 < 18446744073709551616 := by omega
  obtain ⟨na, hna⟩ : ∃ x, isNan a0 = x := ⟨_, rfl⟩
  obtain ⟨nb, hnb⟩ : ∃ x, isNan a1 = x := ⟨_, rfl⟩
  have NA : Hid (_ = _) := hna
  have NB : Hid (_ = _) := hnb
  have NN : Hid ((!(isNan a0 || isNan a1)) = !(na || nb)) := by show _ = _; rw [hna, hnb]
  by_cases hn : (na || nb) = true
  · have CS : Hid (cmpS a0 a1 = 0) := by show _ = _; unfold cmpS; rw [hna, hnb, if_pos hn]
    have LS : Hid (lessS a0 a1 = false) := by show _ = _; unfold lessS; rw [hna, hnb, hn]; rfl
    have SS : Hid (sameS a0 a1 = false) := by show _ = _; unfold sameS; rw [hna, hnb, hn]; rfl
    clear hna hnb
    cases na
    all_goals
      cases nb
      all_goals first | (exfalso; simp at hn; done) | skip
    all_goals
      clear hn
      go_enter Try.func10, Try.ntmps10
      go_wp2_with (first | (go_at_call 41; refine (oHead _).mono ?_; rintro e w' ⟨rfl, rfl⟩) | (go_at_call 42; refine (oCmp _ _ _ h0 h1' g0 g1').mono ?_; rintro e w' ⟨rfl, rfl⟩; rw [CS.out, NN.out]) | (go_at_call 43; refine (q4Nan _ _ (by omega) (by omega)).mono ?_; rintro e w' ⟨rfl, rfl⟩; first | rw [NA.out] | rw [NB.out]) | (go_at_call 44; refine (oLess _ _ _ h0 h1' g0 g1').mono ?_; rintro e w' ⟨rfl, rfl⟩; rw [LS.out]) | (go_at_call 45; refine (oSame _ _ _ h0 h1' g0 g1').mono ?_; rintro e w' ⟨rfl, rfl⟩; rw [SS.out]))
      go_ret
      refine ⟨ret_eq (bool_eq ?_), Below.refl _ _⟩
      simp
  · have hn2 : na = false ∧ nb = false := by revert hn; cases na <;> cases nb <;> simp
    obtain ⟨rfl, rfl⟩ := hn2
    clear hn
    have vk := val_key a0 a1 hna hnb
    have vz := val_zero a0 a1
    have le := less_eq a0 a1
    have se := same_eq a0 a1
    rw [hna, hnb] at le se
    obtain ⟨t, ht⟩ : ∃ t, cmpS a0 a1 = t := ⟨_, rfl⟩
    rw [ht] at vk le se
    rw [vk] at vz
    have CS : Hid (_ = _) := ht
    have VK : Hid (_ = _) := vk
    have LS : Hid (lessS a0 a1 = decide (t < 0)) := by show _ = _; rw [le]; rfl
    have SS : Hid (sameS a0 a1 = (t == 0)) := by show _ = _; rw [se, Bool.eq_iff_iff]; simp
    have ih := fun h => inf_not_z a0 h
    obtain ⟨ia, hia⟩ : ∃ x, isInf a0 = x := ⟨_, rfl⟩
    obtain ⟨zb, hzb⟩ : ∃ x, isZ a1 = x := ⟨_, rfl⟩
    obtain ⟨sa, hsa⟩ : ∃ s, decide (9223372036854775808 ≤ a0) = s := ⟨_, rfl⟩
    obtain ⟨sb, hsb⟩ : ∃ s, decide (9223372036854775808 ≤ a1) = s := ⟨_, rfl⟩
    have IA : Hid (_ = _) := hia
    have ZB : Hid (_ = _) := hzb
    have SA : Hid (_ = _) := hsa
    have SB : Hid (_ = _) := hsb
    have L0 : Hid ((bl (V (mag a0))).length = 0 ↔ mag a0 = 0) := by
      show _ ↔ _
      rw [bl_nil_iff]
      have := V_le_iff (mag a0) 0
      rw [V_zero] at this
      omega
    have VZ : Hid (mag a0 = 0 → sa ≠ sb → zb = false → t = if sb then 1 else -1) := by
      show _ → _ → _ → _
      intro k1 k2 k3
      unfold sgn at vz
      rw [hsa, hsb] at vz
      refine vz k1 k2 ?_
      rw [k3] at hzb
      exact (z_not _).1 hzb
    have lx := V_lenx a0
    clear hna hnb ht vk vz le se hia hzb hsa hsb ih
    go_enter Try.func10, Try.ntmps10
    go_wp2_with (first | (go_at_call 41; refine (oHead _).mono ?_; rintro e w' ⟨rfl, rfl⟩) | (go_at_call 42; refine (oCmp _ _ _ h0 h1' g0 g1').mono ?_; rintro e w' ⟨rfl, rfl⟩; rw [CS.out, NN.out]) | (go_at_call 43; refine (q4Nan _ _ (by omega) (by omega)).mono ?_; rintro e w' ⟨rfl, rfl⟩; first | rw [NA.out] | rw [NB.out]) | fail)
    refine (oValue _ _ _ h0 h1' g0 g1' NA.out NB.out).mono ?_
    rintro e w1 ⟨rfl, hb1⟩
    rw [VK.out]
    go_wp2_with fail
    refine (abs_any _ _ h0 h1').mono ?_
    rintro e w' ⟨rfl, rfl⟩
    go_wp2_with fail
    refine (q4WholeX _ _ (by omega) (by omega)).mono ?_
    rintro e w2 ⟨v2, rfl, own2, hb2⟩
    rw [abs_mag] at own2
    have hbx := bstep hb1 hb2
    obtain ⟨b3, o3, c3, rfl, q31, q32, q33, q34⟩ := own2.sees
    clear q34 own2 hb1 hb2
    obtain ⟨LX, hLX⟩ : ∃ n, (bl (V (mag a0))).length = n := ⟨_, rfl⟩
    rw [hLX] at L0 lx q32
    rw [hLX]
    clear hLX
    cases ia
    all_goals
      cases sa
      all_goals
        cases sb
        all_goals
          cases zb
          all_goals
            go_wp2_with (first | (go_at_call 47; refine (q4Inf _ _ h0 h1').mono ?_; rintro e w' ⟨rfl, rfl⟩; rw [IA.out]) | (go_at_call 48; refine (q4Zero _ _ g0 g1').mono ?_; rintro e w' ⟨rfl, rfl⟩; rw [ZB.out]) | (go_at_call 24; refine (neg_any _ _ (by omega) (by omega)).mono ?_; rintro e w' ⟨rfl, rfl⟩; first | rw [SA.out] | rw [SB.out]) | (go_at_call 44; refine (oLess _ _ _ h0 h1' g0 g1').mono ?_; rintro e w' ⟨rfl, rfl⟩; rw [LS.out]) | (go_at_call 45; refine (oSame _ _ _ h0 h1' g0 g1').mono ?_; rintro e w' ⟨rfl, rfl⟩; rw [SS.out]))
            all_goals go_ret
            all_goals refine ⟨ret_eq (bool_eq ?_), hbx⟩
            all_goals (have k1 := L0.out; have k2 := VZ.out; clear CS VK LS SS NA NB NN; simp_all)

/-! ### THE ROW's STEP -/
set_option maxRecDepth 100000 in
theorem lifted (os : Os) (started : os.Started) (H : Type) (enc : TypeId × Value → H) :
    ReturnsInHanded {} Try.checked os 10 .any (Rows.orderCmpsSpec.pre6 enc Try.prog Try.f10 Rows.orderCmpsRow.domain false) (Rows.orderCmpsSpec.post enc Try.prog Try.f10 false true false false) := by
  refine returnsInHanded_of_change (C := Try.checked) own started (by kernel_rfl) Try.func10
    (ChangeSpec.witness6 (enc := enc) (C := Try.checked) false ⟨#[], #[.int .u64 0, .int .u64 0], []⟩ 8 (by kernel_rfl) (by kernel_rfl) (by kernel_rfl) (by kernel_rfl)) ?_
  intro W base args ds gs before hval0 hW hcnd _
  have hval : ∀ (j : Nat) t v, Try.f10.params[j]? = some t → args[j]? = some v → Value.okWide Try.prog W .any base t v := hval0
  have hW' := hW
  obtain ⟨p, q, hA0, hV, rfl, hfz, hnd⟩ := hW
  have hA : DataW.TrodAll enc Try.prog W 0 (fun _ => true) true Try.f10.params.toList args.toList ds p := hA0
  rw [Try.params10] at hA hval
  obtain ⟨v0, vs0, d0, ds0, p0, q0, hargs, rfl, rfl, h0, r0⟩ := trodAll_cons hA
  obtain ⟨v1, vs1, d1, ds1, p1, q1, rfl, rfl, rfl, h1, r1⟩ := trodAll_cons r0
  obtain ⟨rfl, rfl, rfl⟩ := trodAll_nil r1
  obtain rfl : args = #[v0, v1] := by cases args; simp_all
  obtain ⟨rfl, rfl⟩ := trodVars_none hV
  obtain ⟨a0, rfl, rfl, rfl, w0⟩ := open_int Try.underlying22 (hval 0 22 v0 rfl rfl) h0
  obtain ⟨a1, rfl, rfl, rfl, w1⟩ := open_int Try.underlying22 (hval 1 22 v1 rfl rfl) h1
  clear hA0 hval0
  refine (walk a0 a1 W w0 w1).mono fun e W' ⟨he, bel⟩ => ?_
  subst he
  exact ⟨_, rfl, _, _, _, [], _, [], hW', trodAll_mk1 (shut_bool Try.underlying4 _), (trodAll_cons_mk (shut_int Try.underlying22 w0) (trodAll_cons_mk (shut_int Try.underlying22 w1) trodAll_mk0)), rfl, bel.frame _, fun h => by cases h⟩

theorem over : Rows.orderCmpsRow.holds Try.pinned (OpenSpec.ofChange Rows.orderCmpsSpec) :=
  OpenClaim.holds_of_wide 10 Try.f10 rfl rfl rfl rfl rfl rfl rfl ⟨rfl, rfl, rfl, rfl, rfl⟩ rfl rfl rfl rfl rfl (by kernel_rfl) Try.func10 (by kernel_rfl)
    (of_decide_eq_true (by kernel_rfl)) (by unfold Func.isWrapper; first | (rw [if_pos (by decide +kernel)]; kernel_rfl) | (rw [if_neg (by decide +kernel)]; exact ⟨rfl, rfl⟩))
    (fun os started H enc _ => lifted os started H enc)

/-- THE STATEMENT -/
theorem proved : Rows.OrderCmpsSaid :=
  over
#print axioms proved
end Go.Proofs.Yteohkpiecidicaa.orderCmps
