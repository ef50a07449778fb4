/-
  The law WordBack returns true at every input, and leaves its arguments as they were. No conditions.
-/
import Derived.Test.YtaplnhnimplkdaaRows
import Derived.WalkKit
import Derived.ProofKit
import Derived.OpenShut
import Derived.Test.YtaplnhnimplkdaaWordL
namespace Go.Proofs.Ytaplnhnimplkdaa.wordBack
open Go.ChangeShapes Go.WideShapes Go.ChangeAt Go.RowKit
set_option linter.unusedVariables false      -- a walk need not use every 'w<i>' (that an integer argument fits its kind)

theorem own : ownKnob Try.prog.godebug = none := by kernel_rfl

/-- Up and down again, and down and up, is where one was, at a number that is neither zero nor infinite. -/
theorem back_fact (b : Int) (h0 : 0 ≤ b) (h1 : b < 18446744073709551616) (hk : ¬ wKind b = 5) (hz : ¬ b % 9223372036854775808 = 0) (hi : ¬ b % 9223372036854775808 = 9218868437227405312) :
    wPrev (wNext b) = b ∧ wNext (wPrev b) = b := by
  rw [wKind_nan] at hk
  have e1 : wNext b = if 9223372036854775808 ≤ b then b - 1 else b + 1 := by
    rw [wNext_eq]; repeat' split
    all_goals omega
  have e2 : wPrev b = if 9223372036854775808 ≤ b then b + 1 else b - 1 := by
    rw [wPrev_eq b h0 h1]; repeat' split
    all_goals omega
  constructor
  · rw [e1]; split
    · rw [wPrev_eq _ (by omega) (by omega)]; repeat' split
      all_goals omega
    · rw [wPrev_eq _ (by omega) (by omega)]; repeat' split
      all_goals omega
  · rw [e2, wNext_eq]; repeat' split
    all_goals omega
theorem walk (a0 : Int) (w0 : (Lit.int .u64 a0).wf = true) (w : World) :
    Calls Try.prog 8 #[.int .u64 a0] w fun e w' => e = .returned (.bool true) ∧ Grown w w' := by
  obtain ⟨h0, h1⟩ := bounds_u64 w0
  have b1 := wNext_bd a0 h0 (by omega)
  have b2 : 0 ≤ wPrev a0 ∧ wPrev a0 < 18446744073709551616 := wFlip_bd _
  have F : Hid (∀ (hk : ¬ wKind a0 = 5) (hz : ¬ a0 % 9223372036854775808 = 0) (hi : ¬ a0 % 9223372036854775808 = 9218868437227405312), wPrev (wNext a0) = a0 ∧ wNext (wPrev a0) = a0) := back_fact a0 h0 (by omega)
  by_cases hk : wKind a0 = 5
  · go_enter Try.func8, Try.ntmps8
    go_wp2_with fail
    refine (head_any _).mono ?_
    rintro e w' ⟨rfl, rfl⟩
    go_wp2_with fail
    refine (kind_any _ _ h0 (by omega)).mono ?_
    rintro e w' ⟨rfl, rfl⟩
    go_wp2
    all_goals go_ret
    all_goals exact ⟨ret_eq (bool_eq rfl), Grown.refl _⟩
  by_cases hz : a0 % 9223372036854775808 = 0
  · go_enter Try.func8, Try.ntmps8
    go_wp2_with fail
    refine (head_any _).mono ?_
    rintro e w' ⟨rfl, rfl⟩
    go_wp2_with (first | (go_at_call 22; refine (kind_any _ _ h0 (by omega)).mono ?_; rintro e w' ⟨rfl, rfl⟩) | (go_at_call 25; refine (abs_any _ _ h0 (by omega)).mono ?_; rintro e w' ⟨rfl, rfl⟩))
    all_goals go_ret
    all_goals exact ⟨ret_eq (bool_eq rfl), Grown.refl _⟩
  by_cases hi : a0 % 9223372036854775808 = 9218868437227405312
  · go_enter Try.func8, Try.ntmps8
    go_wp2_with fail
    refine (head_any _).mono ?_
    rintro e w' ⟨rfl, rfl⟩
    go_wp2_with (first | (go_at_call 22; refine (kind_any _ _ h0 (by omega)).mono ?_; rintro e w' ⟨rfl, rfl⟩) | (go_at_call 25; refine (abs_any _ _ h0 (by omega)).mono ?_; rintro e w' ⟨rfl, rfl⟩))
    all_goals go_ret
    all_goals exact ⟨ret_eq (bool_eq rfl), Grown.refl _⟩
  obtain ⟨q1, q2⟩ := F.out hk hz hi
  go_enter Try.func8, Try.ntmps8
  go_wp2_with fail
  refine (head_any _).mono ?_
  rintro e w' ⟨rfl, rfl⟩
  go_wp2_with (first | (go_at_call 22; refine (kind_any _ _ h0 (by omega)).mono ?_; rintro e w' ⟨rfl, rfl⟩) | (go_at_call 25; refine (abs_any _ _ h0 (by omega)).mono ?_; rintro e w' ⟨rfl, rfl⟩) | (go_at_call_of 28 (wPrev a0); refine (next_any _ _ b2.1 b2.2).mono ?_; rintro e w' ⟨rfl, rfl⟩) | (go_at_call 28; refine (next_any _ _ h0 (by omega)).mono ?_; rintro e w' ⟨rfl, rfl⟩) | (go_at_call_of 29 (wNext a0); refine (prev_any _ _ b1.1 b1.2).mono ?_; rintro e w' ⟨rfl, rfl⟩) | (go_at_call 29; refine (prev_any _ _ h0 (by omega)).mono ?_; rintro e w' ⟨rfl, rfl⟩))
  all_goals go_ret
  all_goals refine ⟨ret_eq (bool_eq ?_), Grown.refl _⟩
  all_goals (simp_all)

/-! ### THE ROW's STEP: WRITTEN OUT: LEAVE IT -/
set_option maxRecDepth 100000 in
theorem lifted (os : Os) (started : os.Started) (H : Type) (enc : TypeId × Value → H) :
    ReturnsInHanded {} Try.checked os 8 .any (Rows.wordBackSpec.pre6 enc Try.prog Try.f8 Rows.wordBackRow.domain false) (Rows.wordBackSpec.post enc Try.prog Try.f8 false true false false) := by
  refine returnsInHanded_of_change (C := Try.checked) own started (by kernel_rfl) Try.func8
    (ChangeSpec.witness6 (enc := enc) (C := Try.checked) false ⟨#[], #[.int .u64 0], []⟩ 8 (by kernel_rfl) (by kernel_rfl) (by kernel_rfl) (by kernel_rfl)) ?_
  intro W base args ds gs before hval0 hW hcnd _
  have hval : ∀ (j : Nat) t v, Try.f8.params[j]? = some t → args[j]? = some v → Value.okWide Try.prog W .any base t v := hval0
  have hW' := hW
  obtain ⟨p, q, hA0, hV, rfl, hfz, hnd⟩ := hW
  have hA : DataW.TrodAll enc Try.prog W 0 (fun _ => true) true Try.f8.params.toList args.toList ds p := hA0
  rw [Try.params8] at hA hval
  obtain ⟨v0, vs0, d0, ds0, p0, q0, hargs, rfl, rfl, h0, r0⟩ := trodAll_cons hA
  obtain ⟨rfl, rfl, rfl⟩ := trodAll_nil r0
  obtain rfl : args = #[v0] := by cases args; simp_all
  obtain ⟨rfl, rfl⟩ := trodVars_none hV
  obtain ⟨a0, rfl, rfl, rfl, w0⟩ := open_int Try.underlying22 (hval 0 22 v0 rfl rfl) h0
  clear hA0 hval0
  simp only [List.append_nil] at hW'
  refine (walk a0 w0 W).mono fun e W' ⟨he, hg⟩ => ?_
  subst he
  exact ⟨_, rfl, post_of_same (pa := []) (pv := []) hW' (fun _ _ _ => (trodAll_cons_mk (shut_bool Try.underlying4 _) trodAll_mk0)) (fun sp _ => (trodAll_cons_mk (shut_int Try.underlying22 w0) trodAll_mk0)) (fun _ _ => rfl) rfl
    (hg.frame _) hg.2.1 (ok_one (by kernel_rfl) rfl (okWide_bool_mk Try.underlying4 _))⟩

theorem over : Rows.wordBackRow.holds Try.pinned (OpenSpec.ofChange Rows.wordBackSpec) :=
  OpenClaim.holds_of_wide 8 Try.f8 rfl rfl rfl rfl rfl rfl rfl ⟨rfl, rfl, rfl, rfl, rfl⟩ rfl rfl rfl rfl rfl (by kernel_rfl) Try.func8 (by kernel_rfl)
    (of_decide_eq_true (by kernel_rfl)) (by unfold Func.isWrapper; first | (rw [if_pos (by decide +kernel)]; kernel_rfl) | (rw [if_neg (by decide +kernel)]; exact ⟨rfl, rfl⟩))
    (fun os started H enc _ => lifted os started H enc)

/-- ████ THE STATEMENT ████ -/
theorem proved : Rows.WordBackSaid :=
  over
#print axioms proved
end Go.Proofs.Ytaplnhnimplkdaa.wordBack
