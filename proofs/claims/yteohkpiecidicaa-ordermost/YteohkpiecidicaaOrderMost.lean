/-
  The law OrderMost returns true at every input (any two patterns), and leaves its arguments as they were. No conditions.
-/
import Derived.Test.YteohkpiecidicaaRows
import Derived.WalkKit
import Derived.ProofKit
import Derived.OpenShut
import Derived.Test.YteohkpiecidicaaOrderC
import Derived.Lib.SmallJoins
import Derived.Below
namespace Go.Proofs.Yteohkpiecidicaa.orderMost
open Go.ChangeShapes Go.WideShapes Go.ChangeAt Go.RowKit
open Go.Joins (open_agg2 shut_agg2)
set_option linter.unusedVariables false

theorem own : ownKnob Try.prog.godebug = none := by kernel_rfl

theorem most_end (a b : Int) (h0 : 0 ≤ a) (h1 : a < 18446744073709551616) (g0 : 0 ≤ b) (g1 : b < 18446744073709551616) :
    (totS a b < 0 → lessS b a = false ∧ totS a b ≤ 0) ∧ (¬ totS a b < 0 → lessS a b = false ∧ totS b a ≤ 0) := by
  have key : ∀ a b : Int, 0 ≤ a → a < 18446744073709551616 → 0 ≤ b → b < 18446744073709551616 → place a ≤ place b → lessS b a = false := by
    intro a b h0 h1 g0 g1 h
    unfold lessS
    rw [Bool.and_eq_false_iff]
    right
    rw [decide_eq_false_iff_not]
    unfold place at h
    unfold keyS sgn mag
    repeat' split at h
    all_goals repeat' split
    all_goals simp_all
    all_goals omega
  unfold totS cmpZ
  constructor
  · intro h
    repeat' split at h
    · exact ⟨key a b h0 h1 g0 g1 (by omega), by rw [if_pos (by assumption)]; omega⟩
    · omega
    · omega
  · intro h
    repeat' split at h
    · omega
    · exact ⟨key b a g0 g1 h0 h1 (by omega), by rw [if_pos (by assumption)]; omega⟩
    · exact ⟨key b a g0 g1 h0 h1 (by omega), by rw [if_neg (by assumption), if_neg (by assumption)]; omega⟩
set_option maxRecDepth 100000 in
set_option maxHeartbeats 2000000 in
theorem walk (a0 : Int) (a1 : Int) (w : World) (w0 : (Lit.int .u64 a0).wf = true) (w1 : (Lit.int .u64 a1).wf = true) :
    Calls Try.prog 12 #[.int .u64 a0, .int .u64 a1] w fun e w' => e = .returned (.bool true) ∧ Below w.heap.size w w' := by
  obtain ⟨h0, h1⟩ := bounds_u64 w0
  obtain ⟨g0, g1⟩ := bounds_u64 w1
  have h1' : a0 < 18446744073709551616 := by omega
  have g1' : a1 < 18446744073709551616 := by omega
  obtain ⟨e1, e2⟩ := most_end a0 a1 h0 h1' g0 g1'
  have E1 : Hid (_ → _) := e1
  have E2 : Hid (_ → _) := e2
  clear e1 e2
  obtain ⟨ka, hka⟩ : ∃ k, wKind a0 = k := ⟨_, rfl⟩
  obtain ⟨kb, hkb⟩ : ∃ k, wKind a1 = k := ⟨_, rfl⟩
  have KA : Hid (_ = _) := hka
  have KB : Hid (_ = _) := hkb
  obtain ⟨sa, hsa⟩ : ∃ k, decide (wKind a0 = 5 ∧ a0 / 2251799813685248 % 2 = 0) = k := ⟨_, rfl⟩
  obtain ⟨sb, hsb⟩ : ∃ k, decide (wKind a1 = 5 ∧ a1 / 2251799813685248 % 2 = 0) = k := ⟨_, rfl⟩
  have SA : Hid (_ = _) := hsa
  have SB : Hid (_ = _) := hsb
  have hm : maxS a0 a1 = if decide (ka = 5) || decide (kb = 5) then (9221120237041090560, if sa || sb then 16 else 0) else (if totS a0 a1 < 0 then a1 else a0, 0) := by
    unfold maxS nanF sigs
    rw [isNan_kind, isNan_kind, hka, hkb, ← hsa, ← hsb, hka, hkb]
  have hn : minS a0 a1 = if decide (ka = 5) || decide (kb = 5) then (9221120237041090560, if sa || sb then 16 else 0) else (if totS a0 a1 < 0 then a0 else a1, 0) := by
    unfold minS nanF sigs
    rw [isNan_kind, isNan_kind, hka, hkb, ← hsa, ← hsb, hka, hkb]
  have HM : Hid (_ = _) := hm
  have HN : Hid (_ = _) := hn
  clear hka hkb hsa hsb hm hn
  by_cases hnan : ka = 5 ∨ kb = 5
  · have X1 : Hid (maxS a0 a1 = (9221120237041090560, if sa || sb then 16 else 0)) := by
      show _ = _
      rw [HM.out, if_pos (by simpa using hnan)]
    have X2 : Hid (minS a0 a1 = (9221120237041090560, if sa || sb then 16 else 0)) := by
      show _ = _
      rw [HN.out, if_pos (by simpa using hnan)]
    clear HM HN
    by_cases ea : ka = 5
    all_goals
      by_cases eb : kb = 5
      all_goals
        first | (exfalso; omega) | skip
    all_goals
      (try subst ea)
      (try subst eb)
      clear hnan
      cases sa
      all_goals
        cases sb
        all_goals
          go_enter Try.func12, Try.ntmps12
          go_wp2_with (first | (go_at_call 41; refine (oHead _).mono ?_; rintro e w' ⟨rfl, rfl⟩) | (go_at_call 50; refine (oMax _ _ _ h0 h1' g0 g1').mono ?_; rintro e w' ⟨rfl, rfl⟩; rw [X1.out]) | (go_at_call 51; refine (oMin _ _ _ h0 h1' g0 g1').mono ?_; rintro e w' ⟨rfl, rfl⟩; rw [X2.out]) | (go_at_call 40; refine (kind_any _ _ (by omega) (by omega)).mono ?_; rintro e w' ⟨rfl, rfl⟩; first | rw [KA.out] | rw [KB.out]) | (go_at_call 52; refine (signals_any _ _ (by omega) (by omega)).mono ?_; rintro e w' ⟨rfl, rfl⟩; first | rw [SA.out] | rw [SB.out]))
          go_ret
          refine ⟨ret_eq (bool_eq ?_), Below.refl _ _⟩
          simp
  · by_cases ht : totS a0 a1 < 0
    · have X1 : Hid (maxS a0 a1 = (a1, 0)) := by
        show _ = _
        rw [HM.out, if_neg (by simpa using hnan), if_pos ht]
      have X2 : Hid (minS a0 a1 = (a0, 0)) := by
        show _ = _
        rw [HN.out, if_neg (by simpa using hnan), if_pos ht]
      obtain ⟨q1, q2⟩ := E1.out ht
      have Q1 : Hid (_ = _) := q1
      have ea : (ka == 5) = false := by rw [beq_eq_false_iff_ne]; omega
      have eb : (kb == 5) = false := by rw [beq_eq_false_iff_ne]; omega
      have ne : a0 ≠ a1 := by intro h; rw [h] at ht; unfold totS cmpZ at ht; simp at ht
      have ne' : a1 ≠ a0 := fun h => ne h.symm
      clear HM HN E1 E2 ht hnan q1
      obtain ⟨t, hT⟩ : ∃ t, totS a0 a1 = t := ⟨_, rfl⟩
      rw [hT] at q2
      have HT : Hid (_ = _) := hT
      clear hT
      go_enter Try.func12, Try.ntmps12
      go_wp2_with (first | (go_at_call 41; refine (oHead _).mono ?_; rintro e w' ⟨rfl, rfl⟩) | (go_at_call 50; refine (oMax _ _ _ h0 h1' g0 g1').mono ?_; rintro e w' ⟨rfl, rfl⟩; rw [X1.out]) | (go_at_call 51; refine (oMin _ _ _ h0 h1' g0 g1').mono ?_; rintro e w' ⟨rfl, rfl⟩; rw [X2.out]) | (go_at_call 40; refine (kind_any _ _ (by omega) (by omega)).mono ?_; rintro e w' ⟨rfl, rfl⟩; first | rw [KA.out] | rw [KB.out]) | (go_at_call 44; refine (oLess _ _ _ (by omega) (by omega) (by omega) (by omega)).mono ?_; rintro e w' ⟨rfl, rfl⟩; rw [Q1.out]) | (go_at_call 49; refine (oTotal _ _ _ (by omega) (by omega) (by omega) (by omega)).mono ?_; rintro e w' ⟨rfl, rfl⟩; rw [HT.out]))
      all_goals go_ret
      all_goals refine ⟨ret_eq (bool_eq ?_), Below.refl _ _⟩
      all_goals simp_all
    · have X1 : Hid (maxS a0 a1 = (a0, 0)) := by
        show _ = _
        rw [HM.out, if_neg (by simpa using hnan), if_neg ht]
      have X2 : Hid (minS a0 a1 = (a1, 0)) := by
        show _ = _
        rw [HN.out, if_neg (by simpa using hnan), if_neg ht]
      obtain ⟨q1, q2⟩ := E2.out ht
      have Q1 : Hid (_ = _) := q1
      have ea : (ka == 5) = false := by rw [beq_eq_false_iff_ne]; omega
      have eb : (kb == 5) = false := by rw [beq_eq_false_iff_ne]; omega
      clear HM HN E1 E2 ht hnan q1
      obtain ⟨t, hT⟩ : ∃ t, totS a1 a0 = t := ⟨_, rfl⟩
      rw [hT] at q2
      have HT : Hid (_ = _) := hT
      clear hT
      by_cases ne : a0 = a1
      · subst ne
        go_enter Try.func12, Try.ntmps12
        go_wp2_with (first | (go_at_call 41; refine (oHead _).mono ?_; rintro e w' ⟨rfl, rfl⟩) | (go_at_call 50; refine (oMax _ _ _ h0 h1' g0 g1').mono ?_; rintro e w' ⟨rfl, rfl⟩; rw [X1.out]) | (go_at_call 51; refine (oMin _ _ _ h0 h1' g0 g1').mono ?_; rintro e w' ⟨rfl, rfl⟩; rw [X2.out]) | (go_at_call 40; refine (kind_any _ _ (by omega) (by omega)).mono ?_; rintro e w' ⟨rfl, rfl⟩; rw [KA.out]) | (go_at_call 44; refine (oLess _ _ _ (by omega) (by omega) (by omega) (by omega)).mono ?_; rintro e w' ⟨rfl, rfl⟩; rw [Q1.out]) | (go_at_call 49; refine (oTotal _ _ _ (by omega) (by omega) (by omega) (by omega)).mono ?_; rintro e w' ⟨rfl, rfl⟩; rw [HT.out]))
        all_goals go_ret
        all_goals refine ⟨ret_eq (bool_eq ?_), Below.refl _ _⟩
        all_goals simp_all
      · have ne' : a1 ≠ a0 := fun h => ne h.symm
        go_enter Try.func12, Try.ntmps12
        go_wp2_with (first | (go_at_call 41; refine (oHead _).mono ?_; rintro e w' ⟨rfl, rfl⟩) | (go_at_call 50; refine (oMax _ _ _ h0 h1' g0 g1').mono ?_; rintro e w' ⟨rfl, rfl⟩; rw [X1.out]) | (go_at_call 51; refine (oMin _ _ _ h0 h1' g0 g1').mono ?_; rintro e w' ⟨rfl, rfl⟩; rw [X2.out]) | (go_at_call 40; refine (kind_any _ _ (by omega) (by omega)).mono ?_; rintro e w' ⟨rfl, rfl⟩; first | rw [KA.out] | rw [KB.out]) | (go_at_call 44; refine (oLess _ _ _ (by omega) (by omega) (by omega) (by omega)).mono ?_; rintro e w' ⟨rfl, rfl⟩; rw [Q1.out]) | (go_at_call 49; refine (oTotal _ _ _ (by omega) (by omega) (by omega) (by omega)).mono ?_; rintro e w' ⟨rfl, rfl⟩; rw [HT.out]))
        all_goals go_ret
        all_goals refine ⟨ret_eq (bool_eq ?_), Below.refl _ _⟩
        all_goals simp_all

/-! ### THE ROW's STEP -/
set_option maxRecDepth 100000 in
theorem lifted (os : Os) (started : os.Started) (H : Type) (enc : TypeId × Value → H) :
    ReturnsInHanded {} Try.checked os 12 .any (Rows.orderMostSpec.pre6 enc Try.prog Try.f12 Rows.orderMostRow.domain false) (Rows.orderMostSpec.post enc Try.prog Try.f12 false true false false) := by
  refine returnsInHanded_of_change (C := Try.checked) own started (by kernel_rfl) Try.func12
    (ChangeSpec.witness6 (enc := enc) (C := Try.checked) false ⟨#[], #[.int .u64 0, .int .u64 0], []⟩ 8 (by kernel_rfl) (by kernel_rfl) (by kernel_rfl) (by kernel_rfl)) ?_
  intro W base args ds gs before hval0 hW hcnd _
  have hval : ∀ (j : Nat) t v, Try.f12.params[j]? = some t → args[j]? = some v → Value.okWide Try.prog W .any base t v := hval0
  have hW' := hW
  obtain ⟨p, q, hA0, hV, rfl, hfz, hnd⟩ := hW
  have hA : DataW.TrodAll enc Try.prog W 0 (fun _ => true) true Try.f12.params.toList args.toList ds p := hA0
  rw [Try.params12] at hA hval
  obtain ⟨v0, vs0, d0, ds0, p0, q0, hargs, rfl, rfl, h0, r0⟩ := trodAll_cons hA
  obtain ⟨v1, vs1, d1, ds1, p1, q1, rfl, rfl, rfl, h1, r1⟩ := trodAll_cons r0
  obtain ⟨rfl, rfl, rfl⟩ := trodAll_nil r1
  obtain rfl : args = #[v0, v1] := by cases args; simp_all
  obtain ⟨rfl, rfl⟩ := trodVars_none hV
  obtain ⟨a0, rfl, rfl, rfl, w0⟩ := open_int Try.underlying22 (hval 0 22 v0 rfl rfl) h0
  obtain ⟨a1, rfl, rfl, rfl, w1⟩ := open_int Try.underlying22 (hval 1 22 v1 rfl rfl) h1
  clear hA0 hval0
  refine (walk a0 a1 W w0 w1).mono fun e W' ⟨he, bel⟩ => ?_
  subst he
  exact ⟨_, rfl, _, _, _, [], _, [], hW', trodAll_mk1 (shut_bool Try.underlying4 _), (trodAll_cons_mk (shut_int Try.underlying22 w0) (trodAll_cons_mk (shut_int Try.underlying22 w1) trodAll_mk0)), rfl, bel.frame _, fun h => by cases h⟩

theorem over : Rows.orderMostRow.holds Try.pinned (OpenSpec.ofChange Rows.orderMostSpec) :=
  OpenClaim.holds_of_wide 12 Try.f12 rfl rfl rfl rfl rfl rfl rfl ⟨rfl, rfl, rfl, rfl, rfl⟩ rfl rfl rfl rfl rfl (by kernel_rfl) Try.func12 (by kernel_rfl)
    (of_decide_eq_true (by kernel_rfl)) (by unfold Func.isWrapper; first | (rw [if_pos (by decide +kernel)]; kernel_rfl) | (rw [if_neg (by decide +kernel)]; exact ⟨rfl, rfl⟩))
    (fun os started H enc _ => lifted os started H enc)

/-- THE STATEMENT -/
theorem proved : Rows.OrderMostSaid :=
  over
#print axioms proved
end Go.Proofs.Yteohkpiecidicaa.orderMost
