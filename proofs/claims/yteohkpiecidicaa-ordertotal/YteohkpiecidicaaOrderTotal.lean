/-
  The law OrderTotal returns true at every input (any three patterns), and leaves its arguments as they were. No conditions.
-/
import Derived.Test.YteohkpiecidicaaRows
import Derived.WalkKit
import Derived.ProofKit
import Derived.OpenShut
import Derived.Test.YteohkpiecidicaaOrderC
import Derived.Lib.SmallJoins
import Derived.Below
namespace Go.Proofs.Yteohkpiecidicaa.orderTotal
open Go.ChangeShapes Go.WideShapes Go.ChangeAt Go.RowKit
open Go.Joins (open_agg2 shut_agg2)
set_option linter.unusedVariables false

theorem own : ownKnob Try.prog.godebug = none := by kernel_rfl

theorem tot_cases (a b : Int) : (totS a b = -1 ∧ totS b a = 1 ∧ place a < place b) ∨ (totS a b = 0 ∧ totS b a = 0 ∧ place a = place b) ∨ (totS a b = 1 ∧ totS b a = -1 ∧ place b < place a) := by
  unfold totS cmpZ
  repeat' split
  all_goals omega
theorem less_place (a b : Int) (h0 : 0 ≤ a) (h1 : a < 18446744073709551616) (g0 : 0 ≤ b) (g1 : b < 18446744073709551616) (h : lessS a b = true) : place a < place b := by
  unfold lessS at h
  simp only [Bool.and_eq_true, decide_eq_true_eq] at h
  obtain ⟨_, h⟩ := h
  unfold keyS sgn mag at h
  unfold place
  repeat' split
  all_goals simp_all
  all_goals omega
set_option maxRecDepth 100000 in
set_option maxHeartbeats 2000000 in
theorem walk (a0 : Int) (a1 : Int) (a2 : Int) (w : World) (w0 : (Lit.int .u64 a0).wf = true) (w1 : (Lit.int .u64 a1).wf = true) (w2 : (Lit.int .u64 a2).wf = true) :
    Calls Try.prog 11 #[.int .u64 a0, .int .u64 a1, .int .u64 a2] w fun e w' => e = .returned (.bool true) ∧ Below w.heap.size w w' := by
  obtain ⟨h0, h1⟩ := bounds_u64 w0
  obtain ⟨g0, g1⟩ := bounds_u64 w1
  obtain ⟨k0, k1⟩ := bounds_u64 w2
  have h1' : a0 < 18446744073709551616 := by omega
  have g1' : a1 < 18446744073709551616 := by omega
  have k1' : a2 < 18446744073709551616 := by omega
  have lp := less_place a0 a1 h0 h1' g0 g1'
  obtain ⟨l, hl⟩ : ∃ l, lessS a0 a1 = l := ⟨_, rfl⟩
  rw [hl] at lp
  have HL : Hid (_ = _) := hl
  clear hl
  obtain ⟨sa, hsa⟩ : ∃ s, decide (9223372036854775808 ≤ a0) = s := ⟨_, rfl⟩
  obtain ⟨sb, hsb⟩ : ∃ s, decide (9223372036854775808 ≤ a1) = s := ⟨_, rfl⟩
  have SA : Hid (_ = _) := hsa
  have SB : Hid (_ = _) := hsb
  have LP : Hid (_ → _) := lp
  clear hsa hsb lp
  rcases tot_cases a0 a1 with ⟨hx, hb, hp⟩ | ⟨hx, hb, hp⟩ | ⟨hx, hb, hp⟩
  · have HX : Hid (_ = _) := hx
    have HB : Hid (_ = _) := hb
    have HP : Hid (_ < _) := hp
    clear hx hb hp
    have TR : Hid (totS a1 a2 = -1 → totS a0 a2 = -1) := by
      show _ → _
      intro hy
      have := HP.out
      rcases tot_cases a0 a2 with ⟨z, _, q⟩ | ⟨z, _, q⟩ | ⟨z, _, q⟩
      · exact z
      · rcases tot_cases a1 a2 with ⟨y, _, r⟩ | ⟨y, _, r⟩ | ⟨y, _, r⟩ <;> omega
      · rcases tot_cases a1 a2 with ⟨y, _, r⟩ | ⟨y, _, r⟩ | ⟨y, _, r⟩ <;> omega
    have YC : Hid (totS a1 a2 = -1 ∨ totS a1 a2 = 0 ∨ totS a1 a2 = 1) := by
      show _ ∨ _ ∨ _
      rcases tot_cases a1 a2 with ⟨y, _, r⟩ | ⟨y, _, r⟩ | ⟨y, _, r⟩ <;> omega
    have NE : Hid (a0 ≠ a1) := by
      show _ ≠ _
      intro h
      have := HP.out
      rw [h] at this
      omega
    have ne := NE.out
    rcases YC.out with hy | hy | hy
    · have HZ : Hid (_ = _) := TR.out hy
      have HY : Hid (_ = _) := hy
      clear hy TR YC
      cases l
      all_goals
        cases sa
        all_goals
          cases sb
          all_goals
            go_enter Try.func11, Try.ntmps11
            go_wp2_with (first | (go_at_call 41; refine (oHead _).mono ?_; rintro e w' ⟨rfl, rfl⟩) | (go_at_call 49; refine (oTotal _ _ _ (by omega) (by omega) (by omega) (by omega)).mono ?_; rintro e w' ⟨rfl, rfl⟩; first | rw [HX.out] | rw [HB.out] | rw [HY.out] | rw [HZ.out]) | (go_at_call 44; refine (oLess _ _ _ (by omega) (by omega) (by omega) (by omega)).mono ?_; rintro e w' ⟨rfl, rfl⟩; rw [HL.out]) | (go_at_call 24; refine (neg_any _ _ (by omega) (by omega)).mono ?_; rintro e w' ⟨rfl, rfl⟩; first | rw [SA.out] | rw [SB.out]) | (go_at_call 30; refine (abs_any _ _ (by omega) (by omega)).mono ?_; rintro e w' ⟨rfl, rfl⟩))
            go_ret
            refine ⟨ret_eq (bool_eq ?_), Below.refl _ _⟩
            have := HP.out
            have := SA.out
            have := SB.out
            unfold place at *
            simp_all
            try omega
    all_goals
      have HY : Hid (_ = _) := hy
      clear hy TR YC
      cases l
      all_goals
        cases sa
        all_goals
          cases sb
          all_goals
            go_enter Try.func11, Try.ntmps11
            go_wp2_with (first | (go_at_call 41; refine (oHead _).mono ?_; rintro e w' ⟨rfl, rfl⟩) | (go_at_call 49; refine (oTotal _ _ _ (by omega) (by omega) (by omega) (by omega)).mono ?_; rintro e w' ⟨rfl, rfl⟩; first | rw [HX.out] | rw [HB.out] | rw [HY.out]) | (go_at_call 44; refine (oLess _ _ _ (by omega) (by omega) (by omega) (by omega)).mono ?_; rintro e w' ⟨rfl, rfl⟩; rw [HL.out]) | (go_at_call 24; refine (neg_any _ _ (by omega) (by omega)).mono ?_; rintro e w' ⟨rfl, rfl⟩; first | rw [SA.out] | rw [SB.out]) | (go_at_call 30; refine (abs_any _ _ (by omega) (by omega)).mono ?_; rintro e w' ⟨rfl, rfl⟩))
            go_ret
            refine ⟨ret_eq (bool_eq ?_), Below.refl _ _⟩
            have := HP.out
            have := SA.out
            have := SB.out
            unfold place at *
            simp_all
            try omega
  · have EQ : Hid (a0 = a1) := by
      show _ = _
      unfold place at hp
      repeat' split at hp
      all_goals omega
    have eq := EQ.out
    subst eq
    have HX : Hid (_ = _) := hx
    clear hx hb hp
    obtain rfl : l = false := by
      cases l
      · rfl
      · have := LP.out rfl; omega
    obtain rfl : sa = sb := by rw [← SA.out, ← SB.out]
    clear SB LP EQ
    cases sa
    all_goals
      go_enter Try.func11, Try.ntmps11
      go_wp2_with (first | (go_at_call 41; refine (oHead _).mono ?_; rintro e w' ⟨rfl, rfl⟩) | (go_at_call 49; refine (oTotal _ _ _ (by omega) (by omega) (by omega) (by omega)).mono ?_; rintro e w' ⟨rfl, rfl⟩; rw [HX.out]) | (go_at_call 44; refine (oLess _ _ _ (by omega) (by omega) (by omega) (by omega)).mono ?_; rintro e w' ⟨rfl, rfl⟩; rw [HL.out]) | (go_at_call 24; refine (neg_any _ _ (by omega) (by omega)).mono ?_; rintro e w' ⟨rfl, rfl⟩; rw [SA.out]) | (go_at_call 30; refine (abs_any _ _ (by omega) (by omega)).mono ?_; rintro e w' ⟨rfl, rfl⟩))
      go_ret
      refine ⟨ret_eq (bool_eq ?_), Below.refl _ _⟩
      simp
  · have HX : Hid (_ = _) := hx
    have HB : Hid (_ = _) := hb
    have HP : Hid (_ < _) := hp
    clear hx hb
    obtain rfl : l = false := by
      cases l
      · rfl
      · have := LP.out rfl; omega
    clear hp LP
    have NE : Hid (a0 ≠ a1) := by
      show _ ≠ _
      intro h
      have := HP.out
      rw [h] at this
      omega
    have ne := NE.out
    cases sa
    all_goals
      cases sb
      all_goals
        go_enter Try.func11, Try.ntmps11
        go_wp2_with (first | (go_at_call 41; refine (oHead _).mono ?_; rintro e w' ⟨rfl, rfl⟩) | (go_at_call 49; refine (oTotal _ _ _ (by omega) (by omega) (by omega) (by omega)).mono ?_; rintro e w' ⟨rfl, rfl⟩; first | rw [HX.out] | rw [HB.out]) | (go_at_call 44; refine (oLess _ _ _ (by omega) (by omega) (by omega) (by omega)).mono ?_; rintro e w' ⟨rfl, rfl⟩; rw [HL.out]) | (go_at_call 24; refine (neg_any _ _ (by omega) (by omega)).mono ?_; rintro e w' ⟨rfl, rfl⟩; first | rw [SA.out] | rw [SB.out]) | (go_at_call 30; refine (abs_any _ _ (by omega) (by omega)).mono ?_; rintro e w' ⟨rfl, rfl⟩))
        go_ret
        refine ⟨ret_eq (bool_eq ?_), Below.refl _ _⟩
        have := HP.out
        have := SA.out
        have := SB.out
        unfold place at *
        simp_all
        try omega

/-! ### THE ROW's STEP -/
set_option maxRecDepth 100000 in
theorem lifted (os : Os) (started : os.Started) (H : Type) (enc : TypeId × Value → H) :
    ReturnsInHanded {} Try.checked os 11 .any (Rows.orderTotalSpec.pre6 enc Try.prog Try.f11 Rows.orderTotalRow.domain false) (Rows.orderTotalSpec.post enc Try.prog Try.f11 false true false false) := by
  refine returnsInHanded_of_change (C := Try.checked) own started (by kernel_rfl) Try.func11
    (ChangeSpec.witness6 (enc := enc) (C := Try.checked) false ⟨#[], #[.int .u64 0, .int .u64 0, .int .u64 0], []⟩ 8 (by kernel_rfl) (by kernel_rfl) (by kernel_rfl) (by kernel_rfl)) ?_
  intro W base args ds gs before hval0 hW hcnd _
  have hval : ∀ (j : Nat) t v, Try.f11.params[j]? = some t → args[j]? = some v → Value.okWide Try.prog W .any base t v := hval0
  have hW' := hW
  obtain ⟨p, q, hA0, hV, rfl, hfz, hnd⟩ := hW
  have hA : DataW.TrodAll enc Try.prog W 0 (fun _ => true) true Try.f11.params.toList args.toList ds p := hA0
  rw [Try.params11] at hA hval
  obtain ⟨v0, vs0, d0, ds0, p0, q0, hargs, rfl, rfl, h0, r0⟩ := trodAll_cons hA
  obtain ⟨v1, vs1, d1, ds1, p1, q1, rfl, rfl, rfl, h1, r1⟩ := trodAll_cons r0
  obtain ⟨v2, vs2, d2, ds2, p2, q2, rfl, rfl, rfl, h2, r2⟩ := trodAll_cons r1
  obtain ⟨rfl, rfl, rfl⟩ := trodAll_nil r2
  obtain rfl : args = #[v0, v1, v2] := by cases args; simp_all
  obtain ⟨rfl, rfl⟩ := trodVars_none hV
  obtain ⟨a0, rfl, rfl, rfl, w0⟩ := open_int Try.underlying22 (hval 0 22 v0 rfl rfl) h0
  obtain ⟨a1, rfl, rfl, rfl, w1⟩ := open_int Try.underlying22 (hval 1 22 v1 rfl rfl) h1
  obtain ⟨a2, rfl, rfl, rfl, w2⟩ := open_int Try.underlying22 (hval 2 22 v2 rfl rfl) h2
  clear hA0 hval0
  refine (walk a0 a1 a2 W w0 w1 w2).mono fun e W' ⟨he, bel⟩ => ?_
  subst he
  exact ⟨_, rfl, _, _, _, [], _, [], hW', trodAll_mk1 (shut_bool Try.underlying4 _), (trodAll_cons_mk (shut_int Try.underlying22 w0) (trodAll_cons_mk (shut_int Try.underlying22 w1) (trodAll_cons_mk (shut_int Try.underlying22 w2) trodAll_mk0))), rfl, bel.frame _, fun h => by cases h⟩

theorem over : Rows.orderTotalRow.holds Try.pinned (OpenSpec.ofChange Rows.orderTotalSpec) :=
  OpenClaim.holds_of_wide 11 Try.f11 rfl rfl rfl rfl rfl rfl rfl ⟨rfl, rfl, rfl, rfl, rfl⟩ rfl rfl rfl rfl rfl (by kernel_rfl) Try.func11 (by kernel_rfl)
    (of_decide_eq_true (by kernel_rfl)) (by unfold Func.isWrapper; first | (rw [if_pos (by decide +kernel)]; kernel_rfl) | (rw [if_neg (by decide +kernel)]; exact ⟨rfl, rfl⟩))
    (fun os started H enc _ => lifted os started H enc)

/-- THE STATEMENT -/
theorem proved : Rows.OrderTotalSaid :=
  over
#print axioms proved
end Go.Proofs.Yteohkpiecidicaa.orderTotal
