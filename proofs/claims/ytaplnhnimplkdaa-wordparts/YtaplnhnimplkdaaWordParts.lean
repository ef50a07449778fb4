/-
  The law WordParts returns true at every input, and leaves its arguments as they were. No conditions.
-/
import Derived.Test.YtaplnhnimplkdaaRows
import Derived.WalkKit
import Derived.ProofKit
import Derived.OpenShut
import Derived.Test.YtaplnhnimplkdaaWordL
namespace Go.Proofs.Ytaplnhnimplkdaa.wordParts
open Go.ChangeShapes Go.WideShapes Go.ChangeAt Go.RowKit
set_option linter.unusedVariables false      -- a walk need not use every 'w<i>' (that an integer argument fits its kind)

theorem own : ownKnob Try.prog.godebug = none := by kernel_rfl

set_option maxHeartbeats 1000000 in
theorem walk (a0 : Int) (w0 : (Lit.int .u64 a0).wf = true) (w : World) :
    Calls Try.prog 3 #[.int .u64 a0] w fun e w' => e = .returned (.bool true) ∧ Grown w w' := by
  obtain ⟨h0, h1⟩ := bounds_u64 w0
  have F1 : Hid (decide (9223372036854775808 ≤ a0) = (a0 / 9223372036854775808 == 1)) := by
    show _ = _
    rw [Bool.eq_iff_iff]; simp only [decide_eq_true_eq, beq_iff_eq]; omega
  have F2 : Hid (wMake (a0 / 9223372036854775808 == 1) (a0 / 4503599627370496 % 2048) (a0 % 4503599627370496) = a0) := by
    show _ = _
    unfold wMake; simp only [beq_iff_eq]; split <;> omega
  have hk := wKind_bd a0
  by_cases c0 : a0 / 4503599627370496 % 2048 = 0
  · by_cases c1 : a0 % 4503599627370496 = 0
    · have K : Hid (wKind a0 = 1) := by show _ = _; unfold wKind; rw [if_pos c0, if_pos c1]
      have M : Hid (wMant a0 = 0) := by show _ = _; unfold wMant; rw [K.out]; simp
      have P : Hid (wPow a0 = 0) := by show _ = _; unfold wPow; rw [K.out]; simp
      go_enter Try.func3, Try.ntmps3
      go_wp2_with (first | (go_at_call 15; refine (head_any _).mono ?_; rintro e w' ⟨rfl, rfl⟩) | (go_at_call 16; refine (split_any _ _ (by omega) (by omega)).mono ?_; rintro e w' ⟨rfl, rfl⟩) | (go_at_call 17; refine (neg_any _ _ (by omega) (by omega)).mono ?_; rintro e w' ⟨rfl, rfl⟩) | (go_at_call 18; refine (exp_any _ _ (by omega) (by omega)).mono ?_; rintro e w' ⟨rfl, rfl⟩) | (go_at_call 19; refine (frac_any _ _ (by omega) (by omega)).mono ?_; rintro e w' ⟨rfl, rfl⟩) | (go_at_call 20; refine (make_any _ _ _ _ (by omega) (by omega)).mono ?_; rintro e w' ⟨rfl, rfl⟩) | (go_at_call 21; refine (parts_any _ _ (by omega) (by omega)).mono ?_; rintro e w' ⟨rfl, rfl⟩) | (go_at_call 22; refine (kind_any _ _ (by omega) (by omega)).mono ?_; rintro e w' ⟨rfl, rfl⟩) | (go_at_call 23; refine (finite_any _ _ (by omega) (by omega)).mono ?_; rintro e w' ⟨rfl, rfl⟩) | (go_at_call 24; refine (signals_any _ _ (by omega) (by omega)).mono ?_; rintro e w' ⟨rfl, rfl⟩))
      all_goals go_ret
      all_goals refine ⟨ret_eq (bool_eq ?_), Grown.refl _⟩
      all_goals (have f1 := F1.out; have f2 := F2.out; have k := K.out; have m := M.out; have p := P.out; first | omega | (simp_all; done) | (rw [Bool.eq_iff_iff]; simp_all; omega))
    · have K : Hid (wKind a0 = 2) := by show _ = _; unfold wKind; rw [if_pos c0, if_neg c1]
      have M : Hid (wMant a0 = a0 % 4503599627370496) := by show _ = _; unfold wMant; rw [K.out]; simp
      have P : Hid (wPow a0 = -1074) := by show _ = _; unfold wPow; rw [K.out]; simp
      go_enter Try.func3, Try.ntmps3
      go_wp2_with (first | (go_at_call 15; refine (head_any _).mono ?_; rintro e w' ⟨rfl, rfl⟩) | (go_at_call 16; refine (split_any _ _ (by omega) (by omega)).mono ?_; rintro e w' ⟨rfl, rfl⟩) | (go_at_call 17; refine (neg_any _ _ (by omega) (by omega)).mono ?_; rintro e w' ⟨rfl, rfl⟩) | (go_at_call 18; refine (exp_any _ _ (by omega) (by omega)).mono ?_; rintro e w' ⟨rfl, rfl⟩) | (go_at_call 19; refine (frac_any _ _ (by omega) (by omega)).mono ?_; rintro e w' ⟨rfl, rfl⟩) | (go_at_call 20; refine (make_any _ _ _ _ (by omega) (by omega)).mono ?_; rintro e w' ⟨rfl, rfl⟩) | (go_at_call 21; refine (parts_any _ _ (by omega) (by omega)).mono ?_; rintro e w' ⟨rfl, rfl⟩) | (go_at_call 22; refine (kind_any _ _ (by omega) (by omega)).mono ?_; rintro e w' ⟨rfl, rfl⟩) | (go_at_call 23; refine (finite_any _ _ (by omega) (by omega)).mono ?_; rintro e w' ⟨rfl, rfl⟩) | (go_at_call 24; refine (signals_any _ _ (by omega) (by omega)).mono ?_; rintro e w' ⟨rfl, rfl⟩))
      all_goals go_ret
      all_goals refine ⟨ret_eq (bool_eq ?_), Grown.refl _⟩
      all_goals (have f1 := F1.out; have f2 := F2.out; have k := K.out; have m := M.out; have p := P.out; first | omega | (simp_all; done) | (rw [Bool.eq_iff_iff]; simp_all; omega))
  · by_cases c2 : a0 / 4503599627370496 % 2048 = 2047
    · by_cases c3 : 0 < a0 % 4503599627370496
      · have K : Hid (wKind a0 = 5) := by show _ = _; unfold wKind; rw [if_neg c0, if_neg (by omega), if_neg (by omega)]
        have M : Hid (wMant a0 = 0) := by show _ = _; unfold wMant; rw [K.out]; simp
        have P : Hid (wPow a0 = 0) := by show _ = _; unfold wPow; rw [K.out]; simp
        go_enter Try.func3, Try.ntmps3
        go_wp2_with (first | (go_at_call 15; refine (head_any _).mono ?_; rintro e w' ⟨rfl, rfl⟩) | (go_at_call 16; refine (split_any _ _ (by omega) (by omega)).mono ?_; rintro e w' ⟨rfl, rfl⟩) | (go_at_call 17; refine (neg_any _ _ (by omega) (by omega)).mono ?_; rintro e w' ⟨rfl, rfl⟩) | (go_at_call 18; refine (exp_any _ _ (by omega) (by omega)).mono ?_; rintro e w' ⟨rfl, rfl⟩) | (go_at_call 19; refine (frac_any _ _ (by omega) (by omega)).mono ?_; rintro e w' ⟨rfl, rfl⟩) | (go_at_call 20; refine (make_any _ _ _ _ (by omega) (by omega)).mono ?_; rintro e w' ⟨rfl, rfl⟩) | (go_at_call 21; refine (parts_any _ _ (by omega) (by omega)).mono ?_; rintro e w' ⟨rfl, rfl⟩) | (go_at_call 22; refine (kind_any _ _ (by omega) (by omega)).mono ?_; rintro e w' ⟨rfl, rfl⟩) | (go_at_call 23; refine (finite_any _ _ (by omega) (by omega)).mono ?_; rintro e w' ⟨rfl, rfl⟩) | (go_at_call 24; refine (signals_any _ _ (by omega) (by omega)).mono ?_; rintro e w' ⟨rfl, rfl⟩))
        all_goals go_ret
        all_goals refine ⟨ret_eq (bool_eq ?_), Grown.refl _⟩
        all_goals (have f1 := F1.out; have f2 := F2.out; have k := K.out; have m := M.out; have p := P.out; first | omega | (simp_all; done) | (rw [Bool.eq_iff_iff]; simp_all; omega))
      · have K : Hid (wKind a0 = 4) := by show _ = _; unfold wKind; rw [if_neg c0, if_neg (by omega), if_pos (by omega)]
        have M : Hid (wMant a0 = 0) := by show _ = _; unfold wMant; rw [K.out]; simp
        have P : Hid (wPow a0 = 0) := by show _ = _; unfold wPow; rw [K.out]; simp
        go_enter Try.func3, Try.ntmps3
        go_wp2_with (first | (go_at_call 15; refine (head_any _).mono ?_; rintro e w' ⟨rfl, rfl⟩) | (go_at_call 16; refine (split_any _ _ (by omega) (by omega)).mono ?_; rintro e w' ⟨rfl, rfl⟩) | (go_at_call 17; refine (neg_any _ _ (by omega) (by omega)).mono ?_; rintro e w' ⟨rfl, rfl⟩) | (go_at_call 18; refine (exp_any _ _ (by omega) (by omega)).mono ?_; rintro e w' ⟨rfl, rfl⟩) | (go_at_call 19; refine (frac_any _ _ (by omega) (by omega)).mono ?_; rintro e w' ⟨rfl, rfl⟩) | (go_at_call 20; refine (make_any _ _ _ _ (by omega) (by omega)).mono ?_; rintro e w' ⟨rfl, rfl⟩) | (go_at_call 21; refine (parts_any _ _ (by omega) (by omega)).mono ?_; rintro e w' ⟨rfl, rfl⟩) | (go_at_call 22; refine (kind_any _ _ (by omega) (by omega)).mono ?_; rintro e w' ⟨rfl, rfl⟩) | (go_at_call 23; refine (finite_any _ _ (by omega) (by omega)).mono ?_; rintro e w' ⟨rfl, rfl⟩) | (go_at_call 24; refine (signals_any _ _ (by omega) (by omega)).mono ?_; rintro e w' ⟨rfl, rfl⟩))
        all_goals go_ret
        all_goals refine ⟨ret_eq (bool_eq ?_), Grown.refl _⟩
        all_goals (have f1 := F1.out; have f2 := F2.out; have k := K.out; have m := M.out; have p := P.out; first | omega | (simp_all; done) | (rw [Bool.eq_iff_iff]; simp_all; omega))
    · have K : Hid (wKind a0 = 3) := by show _ = _; unfold wKind; rw [if_neg c0, if_pos (by omega)]
      have M : Hid (wMant a0 = 4503599627370496 + a0 % 4503599627370496) := by show _ = _; unfold wMant; rw [K.out]; simp
      have P : Hid (wPow a0 = a0 / 4503599627370496 % 2048 - 1075) := by show _ = _; unfold wPow; rw [K.out]; simp
      go_enter Try.func3, Try.ntmps3
      go_wp2_with (first | (go_at_call 15; refine (head_any _).mono ?_; rintro e w' ⟨rfl, rfl⟩) | (go_at_call 16; refine (split_any _ _ (by omega) (by omega)).mono ?_; rintro e w' ⟨rfl, rfl⟩) | (go_at_call 17; refine (neg_any _ _ (by omega) (by omega)).mono ?_; rintro e w' ⟨rfl, rfl⟩) | (go_at_call 18; refine (exp_any _ _ (by omega) (by omega)).mono ?_; rintro e w' ⟨rfl, rfl⟩) | (go_at_call 19; refine (frac_any _ _ (by omega) (by omega)).mono ?_; rintro e w' ⟨rfl, rfl⟩) | (go_at_call 20; refine (make_any _ _ _ _ (by omega) (by omega)).mono ?_; rintro e w' ⟨rfl, rfl⟩) | (go_at_call 21; refine (parts_any _ _ (by omega) (by omega)).mono ?_; rintro e w' ⟨rfl, rfl⟩) | (go_at_call 22; refine (kind_any _ _ (by omega) (by omega)).mono ?_; rintro e w' ⟨rfl, rfl⟩) | (go_at_call 23; refine (finite_any _ _ (by omega) (by omega)).mono ?_; rintro e w' ⟨rfl, rfl⟩) | (go_at_call 24; refine (signals_any _ _ (by omega) (by omega)).mono ?_; rintro e w' ⟨rfl, rfl⟩))
      all_goals go_ret
      all_goals refine ⟨ret_eq (bool_eq ?_), Grown.refl _⟩
      all_goals (have f1 := F1.out; have f2 := F2.out; have k := K.out; have m := M.out; have p := P.out; first | omega | (simp_all; done) | (rw [Bool.eq_iff_iff]; simp_all; omega))

/-! ### THE ROW's STEP: WRITTEN OUT: LEAVE IT -/
set_option maxRecDepth 100000 in
theorem lifted (os : Os) (started : os.Started) (H : Type) (enc : TypeId × Value → H) :
    ReturnsInHanded {} Try.checked os 3 .any (Rows.wordPartsSpec.pre6 enc Try.prog Try.f3 Rows.wordPartsRow.domain false) (Rows.wordPartsSpec.post enc Try.prog Try.f3 false true false false) := by
  refine returnsInHanded_of_change (C := Try.checked) own started (by kernel_rfl) Try.func3
    (ChangeSpec.witness6 (enc := enc) (C := Try.checked) false ⟨#[], #[.int .u64 0], []⟩ 8 (by kernel_rfl) (by kernel_rfl) (by kernel_rfl) (by kernel_rfl)) ?_
  intro W base args ds gs before hval0 hW hcnd _
  have hval : ∀ (j : Nat) t v, Try.f3.params[j]? = some t → args[j]? = some v → Value.okWide Try.prog W .any base t v := hval0
  have hW' := hW
  obtain ⟨p, q, hA0, hV, rfl, hfz, hnd⟩ := hW
  have hA : DataW.TrodAll enc Try.prog W 0 (fun _ => true) true Try.f3.params.toList args.toList ds p := hA0
  rw [Try.params3] at hA hval
  obtain ⟨v0, vs0, d0, ds0, p0, q0, hargs, rfl, rfl, h0, r0⟩ := trodAll_cons hA
  obtain ⟨rfl, rfl, rfl⟩ := trodAll_nil r0
  obtain rfl : args = #[v0] := by cases args; simp_all
  obtain ⟨rfl, rfl⟩ := trodVars_none hV
  obtain ⟨a0, rfl, rfl, rfl, w0⟩ := open_int Try.underlying22 (hval 0 22 v0 rfl rfl) h0
  clear hA0 hval0
  simp only [List.append_nil] at hW'
  refine (walk a0 w0 W).mono fun e W' ⟨he, hg⟩ => ?_
  subst he
  exact ⟨_, rfl, post_of_same (pa := []) (pv := []) hW' (fun _ _ _ => (trodAll_cons_mk (shut_bool Try.underlying4 _) trodAll_mk0)) (fun sp _ => (trodAll_cons_mk (shut_int Try.underlying22 w0) trodAll_mk0)) (fun _ _ => rfl) rfl
    (hg.frame _) hg.2.1 (ok_one (by kernel_rfl) rfl (okWide_bool_mk Try.underlying4 _))⟩

theorem over : Rows.wordPartsRow.holds Try.pinned (OpenSpec.ofChange Rows.wordPartsSpec) :=
  OpenClaim.holds_of_wide 3 Try.f3 rfl rfl rfl rfl rfl rfl rfl ⟨rfl, rfl, rfl, rfl, rfl⟩ rfl rfl rfl rfl rfl (by kernel_rfl) Try.func3 (by kernel_rfl)
    (of_decide_eq_true (by kernel_rfl)) (by unfold Func.isWrapper; first | (rw [if_pos (by decide +kernel)]; kernel_rfl) | (rw [if_neg (by decide +kernel)]; exact ⟨rfl, rfl⟩))
    (fun os started H enc _ => lifted os started H enc)

/-- ████ THE STATEMENT ████ -/
theorem proved : Rows.WordPartsSaid :=
  over
#print axioms proved
end Go.Proofs.Ytaplnhnimplkdaa.wordParts
