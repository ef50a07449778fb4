/-
  The law WordNexts returns true at every input, and leaves its arguments as they were. No conditions.
-/
import Derived.Test.YtaplnhnimplkdaaRows
import Derived.WalkKit
import Derived.ProofKit
import Derived.OpenShut
import Derived.Test.YtaplnhnimplkdaaWordL
namespace Go.Proofs.Ytaplnhnimplkdaa.wordNexts
open Go.ChangeShapes Go.WideShapes Go.ChangeAt Go.RowKit
set_option linter.unusedVariables false      -- a walk need not use every 'w<i>' (that an integer argument fits its kind)

theorem own : ownKnob Try.prog.godebug = none := by kernel_rfl

theorem nexts_nan (b : Int) (h0 : 0 ≤ b) (h1 : b < 18446744073709551616) (hk : wKind b = 5) : wNext b = b ∧ wPrev b = b := by
  rw [wKind_nan] at hk
  rw [wNext_eq, wPrev_eq b h0 h1, if_pos (Or.inl hk), if_pos (Or.inl hk)]
  exact ⟨rfl, rfl⟩
theorem nexts_up (b : Int) (h0 : 0 ≤ b) (h1 : b < 18446744073709551616) (hk : ¬ wKind b = 5) (hp : ¬ b = 9218868437227405312) : wLess b (wNext b) = true := by
  rw [wKind_nan] at hk
  rw [wNext_eq]; unfold wLess; repeat' split
  all_goals (first | omega | (simp; done) | (simp; omega))
theorem nexts_down (b : Int) (h0 : 0 ≤ b) (h1 : b < 18446744073709551616) (hk : ¬ wKind b = 5) (hp : ¬ b = 18442240474082181120) : wLess (wPrev b) b = true := by
  rw [wKind_nan] at hk
  rw [wPrev_eq b h0 h1]; unfold wLess; repeat' split
  all_goals (first | omega | (simp; done) | (simp; omega))
theorem nexts_no_up (b c : Int) (h0 : 0 ≤ b) (h1 : b < 18446744073709551616) (g0 : 0 ≤ c) (g1 : c < 18446744073709551616) (hk : ¬ wKind b = 5) (hc : ¬ wKind c = 5) :
    ¬ (wLess b c = true ∧ wLess c (wNext b) = true) := by
  rw [wKind_nan] at hk hc
  rw [wNext_eq]; unfold wLess; repeat' split
  all_goals (first | omega | (simp; done) | (simp; omega))
theorem nexts_no_down (b c : Int) (h0 : 0 ≤ b) (h1 : b < 18446744073709551616) (g0 : 0 ≤ c) (g1 : c < 18446744073709551616) (hk : ¬ wKind b = 5) (hc : ¬ wKind c = 5) :
    ¬ (wLess (wPrev b) c = true ∧ wLess c b = true) := by
  rw [wKind_nan] at hk hc
  rw [wPrev_eq b h0 h1]; unfold wLess; repeat' split
  all_goals (first | omega | (simp; done) | (simp; omega))
theorem nexts_inf : wNext 9218868437227405312 = 9218868437227405312 ∧ wPrev 18442240474082181120 = 18442240474082181120 := by decide +kernel
--OPT set_option maxHeartbeats 1000000 in
set_option maxHeartbeats 1000000 in
theorem walk (a0 : Int) (a1 : Int) (w0 : (Lit.int .u64 a0).wf = true) (w1 : (Lit.int .u64 a1).wf = true) (w : World) :
    Calls Try.prog 6 #[.int .u64 a0, .int .u64 a1] w fun e w' => e = .returned (.bool true) ∧ Grown w w' := by
  obtain ⟨h0, h1⟩ := bounds_u64 w0
  obtain ⟨g0, g1⟩ := bounds_u64 w1
  have b1 := wNext_bd a0 h0 (by omega)
  have b2 : 0 ≤ wPrev a0 ∧ wPrev a0 < 18446744073709551616 := wFlip_bd _
  by_cases hk : wKind a0 = 5
  · obtain ⟨q1, q2⟩ := nexts_nan a0 h0 (by omega) hk
    have Q1 : Hid (_ = _) := q1
    have Q2 : Hid (_ = _) := q2
    clear q1 q2
    go_enter Try.func6, Try.ntmps6
    go_wp2_with fail
    refine (head_any _).mono ?_
    rintro e w' ⟨rfl, rfl⟩
    go_wp2_with fail
    refine (next_any _ _ h0 (by omega)).mono ?_
    rintro e w' ⟨rfl, rfl⟩
    go_wp2_with fail
    refine (prev_any _ _ h0 (by omega)).mono ?_
    rintro e w' ⟨rfl, rfl⟩
    go_wp2_with fail
    refine (kind_any _ _ h0 (by omega)).mono ?_
    rintro e w' ⟨rfl, rfl⟩
    rw [Q1.out, Q2.out]
    go_wp2
    all_goals go_ret
    all_goals exact ⟨ret_eq (bool_eq (by simp)), Grown.refl _⟩
  have u1 : ¬ a0 = 9218868437227405312 → wLess a0 (wNext a0) = true := nexts_up a0 h0 (by omega) hk
  have d1 : ¬ a0 = 18442240474082181120 → wLess (wPrev a0) a0 = true := nexts_down a0 h0 (by omega) hk
  have U2 : Hid (¬ wKind a1 = 5 → ¬ (wLess a0 a1 = true ∧ wLess a1 (wNext a0) = true)) := nexts_no_up a0 a1 h0 (by omega) g0 (by omega) hk
  have D2 : Hid (¬ wKind a1 = 5 → ¬ (wLess (wPrev a0) a1 = true ∧ wLess a1 a0 = true)) := nexts_no_down a0 a1 h0 (by omega) g0 (by omega) hk
  have I1 : Hid (a0 = 9218868437227405312 → wNext a0 = a0) := fun h => by rw [h]; exact nexts_inf.1
  have I2 : Hid (a0 = 18442240474082181120 → wPrev a0 = a0) := fun h => by rw [h]; exact nexts_inf.2
  have hk' : (wKind a0 == 5) = false := by simpa using hk
  clear hk
  by_cases hp : a0 = 9218868437227405312
  all_goals by_cases hn : a0 = 18442240474082181120
  · omega
  · have dd := d1 hn
    have e1 := I1.out hp
    have hp' : (a0 == 9218868437227405312) = true := by simpa using hp
    have hn' : (a0 == 18442240474082181120) = false := by simpa using hn
    clear d1 u1 hp
    by_cases hc : wKind a1 = 5
    · have hc' : (wKind a1 == 5) = true := by simpa using hc
      go_enter Try.func6, Try.ntmps6
      go_wp2_with (first | (go_at_call 15; refine (head_any _).mono ?_; rintro e w' ⟨rfl, rfl⟩) | (go_at_call 28; refine (next_any _ _ (by omega) (by omega)).mono ?_; rintro e w' ⟨rfl, rfl⟩) | (go_at_call 29; refine (prev_any _ _ (by omega) (by omega)).mono ?_; rintro e w' ⟨rfl, rfl⟩) | (go_at_call 22; refine (kind_any _ _ (by omega) (by omega)).mono ?_; rintro e w' ⟨rfl, rfl⟩) | (go_at_call 30; refine (less_any _ _ _ (by omega) (by omega) (by omega) (by omega)).mono ?_; rintro e w' ⟨rfl, rfl⟩))
      all_goals go_ret
      all_goals exact ⟨ret_eq (bool_eq rfl), Grown.refl _⟩
    · have hc' : (wKind a1 == 5) = false := by simpa using hc
      clear hc hn
      go_enter Try.func6, Try.ntmps6
      go_wp2_with (first | (go_at_call 15; refine (head_any _).mono ?_; rintro e w' ⟨rfl, rfl⟩) | (go_at_call 28; refine (next_any _ _ (by omega) (by omega)).mono ?_; rintro e w' ⟨rfl, rfl⟩) | (go_at_call 29; refine (prev_any _ _ (by omega) (by omega)).mono ?_; rintro e w' ⟨rfl, rfl⟩) | (go_at_call 22; refine (kind_any _ _ (by omega) (by omega)).mono ?_; rintro e w' ⟨rfl, rfl⟩) | (go_at_call 30; refine (less_any _ _ _ (by omega) (by omega) (by omega) (by omega)).mono ?_; rintro e w' ⟨rfl, rfl⟩))
      all_goals go_ret
      all_goals refine ⟨ret_eq (bool_eq ?_), Grown.refl _⟩
      all_goals (have U3 := U2.out; have D3 := D2.out; simp_all)
  · have uu := u1 hp
    have e1 := I2.out hn
    have hp' : (a0 == 9218868437227405312) = false := by simpa using hp
    have hn' : (a0 == 18442240474082181120) = true := by simpa using hn
    clear d1 u1 hn
    by_cases hc : wKind a1 = 5
    · have hc' : (wKind a1 == 5) = true := by simpa using hc
      go_enter Try.func6, Try.ntmps6
      go_wp2_with (first | (go_at_call 15; refine (head_any _).mono ?_; rintro e w' ⟨rfl, rfl⟩) | (go_at_call 28; refine (next_any _ _ (by omega) (by omega)).mono ?_; rintro e w' ⟨rfl, rfl⟩) | (go_at_call 29; refine (prev_any _ _ (by omega) (by omega)).mono ?_; rintro e w' ⟨rfl, rfl⟩) | (go_at_call 22; refine (kind_any _ _ (by omega) (by omega)).mono ?_; rintro e w' ⟨rfl, rfl⟩) | (go_at_call 30; refine (less_any _ _ _ (by omega) (by omega) (by omega) (by omega)).mono ?_; rintro e w' ⟨rfl, rfl⟩))
      all_goals go_ret
      all_goals exact ⟨ret_eq (bool_eq rfl), Grown.refl _⟩
    · have hc' : (wKind a1 == 5) = false := by simpa using hc
      clear hc hp
      go_enter Try.func6, Try.ntmps6
      go_wp2_with (first | (go_at_call 15; refine (head_any _).mono ?_; rintro e w' ⟨rfl, rfl⟩) | (go_at_call 28; refine (next_any _ _ (by omega) (by omega)).mono ?_; rintro e w' ⟨rfl, rfl⟩) | (go_at_call 29; refine (prev_any _ _ (by omega) (by omega)).mono ?_; rintro e w' ⟨rfl, rfl⟩) | (go_at_call 22; refine (kind_any _ _ (by omega) (by omega)).mono ?_; rintro e w' ⟨rfl, rfl⟩) | (go_at_call 30; refine (less_any _ _ _ (by omega) (by omega) (by omega) (by omega)).mono ?_; rintro e w' ⟨rfl, rfl⟩))
      all_goals go_ret
      all_goals refine ⟨ret_eq (bool_eq ?_), Grown.refl _⟩
      all_goals (have U3 := U2.out; have D3 := D2.out; simp_all)
  · have dd := d1 hn
    have uu := u1 hp
    have hp' : (a0 == 9218868437227405312) = false := by simpa using hp
    have hn' : (a0 == 18442240474082181120) = false := by simpa using hn
    clear d1 u1
    by_cases hc : wKind a1 = 5
    · have hc' : (wKind a1 == 5) = true := by simpa using hc
      go_enter Try.func6, Try.ntmps6
      go_wp2_with (first | (go_at_call 15; refine (head_any _).mono ?_; rintro e w' ⟨rfl, rfl⟩) | (go_at_call 28; refine (next_any _ _ (by omega) (by omega)).mono ?_; rintro e w' ⟨rfl, rfl⟩) | (go_at_call 29; refine (prev_any _ _ (by omega) (by omega)).mono ?_; rintro e w' ⟨rfl, rfl⟩) | (go_at_call 22; refine (kind_any _ _ (by omega) (by omega)).mono ?_; rintro e w' ⟨rfl, rfl⟩) | (go_at_call 30; refine (less_any _ _ _ (by omega) (by omega) (by omega) (by omega)).mono ?_; rintro e w' ⟨rfl, rfl⟩))
      all_goals go_ret
      all_goals exact ⟨ret_eq (bool_eq rfl), Grown.refl _⟩
    · have hc' : (wKind a1 == 5) = false := by simpa using hc
      clear hc hp hn
      go_enter Try.func6, Try.ntmps6
      go_wp2_with (first | (go_at_call 15; refine (head_any _).mono ?_; rintro e w' ⟨rfl, rfl⟩) | (go_at_call 28; refine (next_any _ _ (by omega) (by omega)).mono ?_; rintro e w' ⟨rfl, rfl⟩) | (go_at_call 29; refine (prev_any _ _ (by omega) (by omega)).mono ?_; rintro e w' ⟨rfl, rfl⟩) | (go_at_call 22; refine (kind_any _ _ (by omega) (by omega)).mono ?_; rintro e w' ⟨rfl, rfl⟩) | (go_at_call 30; refine (less_any _ _ _ (by omega) (by omega) (by omega) (by omega)).mono ?_; rintro e w' ⟨rfl, rfl⟩))
      all_goals go_ret
      all_goals refine ⟨ret_eq (bool_eq ?_), Grown.refl _⟩
      all_goals (have U3 := U2.out; have D3 := D2.out; simp_all)

/-! ### THE ROW's STEP: WRITTEN OUT: LEAVE IT -/
set_option maxRecDepth 100000 in
theorem lifted (os : Os) (started : os.Started) (H : Type) (enc : TypeId × Value → H) :
    ReturnsInHanded {} Try.checked os 6 .any (Rows.wordNextsSpec.pre6 enc Try.prog Try.f6 Rows.wordNextsRow.domain false) (Rows.wordNextsSpec.post enc Try.prog Try.f6 false true false false) := by
  refine returnsInHanded_of_change (C := Try.checked) own started (by kernel_rfl) Try.func6
    (ChangeSpec.witness6 (enc := enc) (C := Try.checked) false ⟨#[], #[.int .u64 0, .int .u64 0], []⟩ 8 (by kernel_rfl) (by kernel_rfl) (by kernel_rfl) (by kernel_rfl)) ?_
  intro W base args ds gs before hval0 hW hcnd _
  have hval : ∀ (j : Nat) t v, Try.f6.params[j]? = some t → args[j]? = some v → Value.okWide Try.prog W .any base t v := hval0
  have hW' := hW
  obtain ⟨p, q, hA0, hV, rfl, hfz, hnd⟩ := hW
  have hA : DataW.TrodAll enc Try.prog W 0 (fun _ => true) true Try.f6.params.toList args.toList ds p := hA0
  rw [Try.params6] at hA hval
  obtain ⟨v0, vs0, d0, ds0, p0, q0, hargs, rfl, rfl, h0, r0⟩ := trodAll_cons hA
  obtain ⟨v1, vs1, d1, ds1, p1, q1, rfl, rfl, rfl, h1, r1⟩ := trodAll_cons r0
  obtain ⟨rfl, rfl, rfl⟩ := trodAll_nil r1
  obtain rfl : args = #[v0, v1] := by cases args; simp_all
  obtain ⟨rfl, rfl⟩ := trodVars_none hV
  obtain ⟨a0, rfl, rfl, rfl, w0⟩ := open_int Try.underlying22 (hval 0 22 v0 rfl rfl) h0
  obtain ⟨a1, rfl, rfl, rfl, w1⟩ := open_int Try.underlying22 (hval 1 22 v1 rfl rfl) h1
  clear hA0 hval0
  simp only [List.append_nil] at hW'
  refine (walk a0 a1 w0 w1 W).mono fun e W' ⟨he, hg⟩ => ?_
  subst he
  exact ⟨_, rfl, post_of_same (pa := []) (pv := []) hW' (fun _ _ _ => (trodAll_cons_mk (shut_bool Try.underlying4 _) trodAll_mk0)) (fun sp _ => (trodAll_cons_mk (shut_int Try.underlying22 w0) (trodAll_cons_mk (shut_int Try.underlying22 w1) trodAll_mk0))) (fun _ _ => rfl) rfl
    (hg.frame _) hg.2.1 (ok_one (by kernel_rfl) rfl (okWide_bool_mk Try.underlying4 _))⟩

theorem over : Rows.wordNextsRow.holds Try.pinned (OpenSpec.ofChange Rows.wordNextsSpec) :=
  OpenClaim.holds_of_wide 6 Try.f6 rfl rfl rfl rfl rfl rfl rfl ⟨rfl, rfl, rfl, rfl, rfl⟩ rfl rfl rfl rfl rfl (by kernel_rfl) Try.func6 (by kernel_rfl)
    (of_decide_eq_true (by kernel_rfl)) (by unfold Func.isWrapper; first | (rw [if_pos (by decide +kernel)]; kernel_rfl) | (rw [if_neg (by decide +kernel)]; exact ⟨rfl, rfl⟩))
    (fun os started H enc _ => lifted os started H enc)

/-- ████ THE STATEMENT ████ -/
theorem proved : Rows.WordNextsSaid :=
  over
#print axioms proved
end Go.Proofs.Ytaplnhnimplkdaa.wordNexts
