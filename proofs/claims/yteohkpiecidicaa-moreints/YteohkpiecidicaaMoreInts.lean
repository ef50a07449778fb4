/-
  The law MoreInts returns true at every input (any int64), and leaves its argument as it was. No conditions.
-/
import Derived.Test.YteohkpiecidicaaRows
import Derived.WalkKit
import Derived.ProofKit
import Derived.OpenShut
import Derived.Test.YteohkpiecidicaaMoreL
import Derived.Test.YteohkpiecidicaaRef04C
import Derived.Test.YteohkpiecidicaaMoreI
import Derived.Lib.SmallJoins
import Derived.Below
namespace Go.Proofs.Yteohkpiecidicaa.moreInts
open Go.ChangeShapes Go.WideShapes Go.ChangeAt Go.RowKit
open Go.Joins (open_agg2 shut_agg2)
set_option linter.unusedVariables false

theorem own : ownKnob Try.prog.godebug = none := by kernel_rfl

theorem from_to (n : Int) (lo : Bool) (ne : Bool) (hne : decide (n < 0) = ne) (P D : Nat) (hP : P ≤ 4890909195324358656) (hm0 : V P % 2 ^ uu = 0) (hD : V P / 2 ^ uu = D) (hD2 : D ≤ 9223372036854775808) (h63 : D = 9223372036854775808 → P = 4890909195324358656) (hex : lo = false → D = n.natAbs) (n0 : -9223372036854775808 ≤ n) (n1 : n ≤ 9223372036854775807) :
    (lo = false → toS (sgnB ne + (P : Int)) = (n, 0)) ∧ ((toS (sgnB ne + (P : Int))).2 = 0 ∨ ((toS (sgnB ne + (P : Int))).2 = 16 ∧ (toS (sgnB ne + (P : Int))).1 = 0 ∧ P = 4890909195324358656)) := by
  obtain ⟨s1, s2, s3, s4⟩ := sgn_mag ne P (by omega)
  have hl : lostB (V P) uu = false := by unfold lostB; rw [hm0]; simp
  have tf := to_fin (sgnB ne + (P : Int)) (by omega) D false ne (by rw [s1]; exact hD) (by rw [s1]; exact hl) s2
  obtain ⟨t1, t2, t3, t4, t5, t6, t7⟩ := to_pick D ne false (toS (sgnB ne + (P : Int))).1 (toS (sgnB ne + (P : Int))).2 (by rw [tf]) (by rw [tf])
  generalize toS (sgnB ne + (P : Int)) = T at *
  obtain ⟨N, F⟩ := T
  simp only at t1 t2 t3 t4 t5 t6 t7 ⊢
  refine ⟨fun h => ?_, ?_⟩
  · have hd := hex h
    cases ne
    · rw [decide_eq_false_iff_not] at hne
      rw [t5 (by omega) rfl, t7 (by first | omega | (rcases Nat.lt_or_ge D 9223372036854775808 with q | q; exact Or.inl q; exact Or.inr ⟨by omega, by first | rfl | trivial⟩)) (by first | rfl | trivial)]
      congr 1
      omega
    · rw [decide_eq_true_eq] at hne
      rw [t7 (by first | omega | (rcases Nat.lt_or_ge D 9223372036854775808 with q | q; exact Or.inl q; exact Or.inr ⟨by omega, by first | rfl | trivial⟩)) (by first | rfl | trivial)]
      congr 1
      by_cases g : D = 9223372036854775808
      · rw [t3 g rfl]; omega
      · rw [t4 (by omega) rfl]; omega
  · by_cases g : D = 9223372036854775808
    · cases ne
      · obtain ⟨u1, u2⟩ := t2 g rfl
        right; exact ⟨u2, u1, h63 g⟩
      · left; exact t7 (Or.inr ⟨g, by first | rfl | trivial⟩) (by first | rfl | trivial)
    · left; exact t7 (Or.inl (by omega)) (by first | rfl | trivial)
set_option maxRecDepth 100000 in
set_option maxHeartbeats 2000000 in
theorem walk (a0 : Int) (w : World) (w0 : (Lit.int .i64 a0).wf = true) :
    Calls Try.prog 6 #[.int .i64 a0] w fun e w' => e = .returned (.bool true) ∧ Below w.heap.size w w' := by
  obtain ⟨n0, n1⟩ := bounds_i64 w0
  obtain ⟨lo, f1, f2, f3, f4, f5, f6, f7⟩ := from_math a0.natAbs (by omega)
  obtain ⟨ne, hne⟩ : ∃ b, decide (a0 < 0) = b := ⟨_, rfl⟩
  obtain ⟨P, hP⟩ : ∃ P, numP a0.natAbs 0 = P := ⟨_, rfl⟩
  rw [hP] at f1 f3 f4 f5 f6 f7
  obtain ⟨D, hD⟩ : ∃ D, V P / 2 ^ uu = D := ⟨_, rfl⟩
  rw [hD] at f5 f6 f7
  obtain ⟨g1, g2⟩ := from_to a0 lo ne hne P D f1 f4 hD f5 f6 f7 n0 n1
  obtain ⟨s1, s2, s3, s4⟩ := sgn_mag ne P (by omega)
  have FS : Hid (fromS a0 = (sgnB ne + (P : Int), if lo then 1 else 0)) := by
    show _ = _
    unfold fromS
    rw [hne, hP, f2]
    cases lo <;> rfl
  obtain ⟨b, hb⟩ : ∃ b, sgnB ne + (P : Int) = b := ⟨_, rfl⟩
  rw [hb] at g1 g2 s1 s2 s3 s4 FS
  obtain ⟨m, hm⟩ : ∃ m : Nat, a0.natAbs = m := ⟨_, rfl⟩
  rw [hm] at f3 f7
  have hfin : mag b < 9218868437227405312 := by omega
  have lv := V_len b hfin
  rw [s1] at lv
  have AB : Hid (b % 9223372036854775808 = (P : Int)) := by show _ = _; unfold mag at s1; omega
  have FF : Hid (decide (b / 4503599627370496 % 2048 < 2047) = true) := by show _ = _; rw [fin_dec]; exact decide_eq_true hfin
  have SB : Hid (decide (9223372036854775808 ≤ b) = ne) := s2
  have MG : Hid (mag b = P) := s1
  have HFI : Hid (_ < _) := hfin
  have F3 : Hid (_ ↔ _) := f3
  have lm : (bl m).length ≤ 64 := (bl_length_le m 64).2 (by omega)
  have lm2 : (bl (2 ^ uu * m)).length ≤ 2100 := by
    have := up_len (bl m) uu (bl_bin _)
    rw [val_bl] at this
    have hu := uu_nat
    omega
  obtain ⟨N, hN⟩ : ∃ N, (toS b).1 = N := ⟨_, rfl⟩
  obtain ⟨F, hF⟩ : ∃ N, (toS b).2 = N := ⟨_, rfl⟩
  have G1 : Hid (lo = false → N = a0 ∧ F = 0) := by
    show _ → _
    intro h
    rw [← hN, ← hF, g1 h]
    exact ⟨rfl, rfl⟩
  rw [hN, hF] at g2
  have HN : Hid (_ = _) := hN
  have HF : Hid (_ = _) := hF
  have G2 : Hid (_ ∨ _) := g2
  clear f1 f2 f3 f4 f5 f6 f7 hP hD g1 g2 s1 s2 hb hfin hN hF
  have en : ∃ M : Int, 0 ≤ M ∧ M < 18446744073709551616 ∧ M.toNat = m ∧ ((a0 < 0 ∧ ne = true ∧ ∃ U, IntKind.u64.wrap a0 = U ∧ IntKind.u64.wrap (-U) = M) ∨ (0 ≤ a0 ∧ ne = false ∧ M = a0)) := by
    simp only [IntKind.wrap_u64]
    refine ⟨(m : Int), by omega, by omega, by omega, ?_⟩
    cases ne
    · right; rw [decide_eq_false_iff_not] at hne; refine ⟨by omega, rfl, ?_⟩; omega
    · left; rw [decide_eq_true_eq] at hne; refine ⟨hne, rfl, _, rfl, ?_⟩; omega
  obtain ⟨M, M0, M1, hMm, en⟩ := en
  have HMM : Hid (_ = _) := hMm
  clear hMm
  clear hne hm
  go_enter Try.func6, Try.ntmps6
  go_wp2_with fail
  refine (rHead5 _).mono ?_
  rintro e w1 ⟨rfl, hb1⟩
  go_wp2_with fail
  refine (mFrom _ _ (by omega) (by omega)).mono ?_
  rintro e w2 ⟨rfl, hb2⟩
  rw [FS.out]
  have hbx := bstep hb1 hb2
  clear hb1 hb2 FS
  rcases en with ⟨e0, rfl, U, e1, e2⟩ | ⟨e0, rfl, rfl⟩
  all_goals
    cases lo
    all_goals
      go_wp2_with fail
      refine (rOf _ _ M0 M1).mono ?_
      rintro e w3 ⟨v3, rfl, own3, hb3⟩
      rw [HMM.out] at own3
      have hby := bstep hbx hb3
      go_wp2_with (first | (go_at_call 24; refine (neg_any _ _ s3 s4).mono ?_; rintro e w' ⟨rfl, rfl⟩; rw [SB.out]) | (go_at_call 25; refine (finite_any _ _ s3 s4).mono ?_; rintro e w' ⟨rfl, rfl⟩; rw [FF.out]) | fail)
      refine (q4Whole _ _ s3 s4 HFI.out).mono ?_
      rintro e w4 ⟨v4, rfl, own4, hb4⟩
      rw [MG.out] at own4
      replace own3 := own3.below hb4
      have hbz := bstep hby hb4
      go_wp2_with fail
      refine (rUp _ _ _ _ own3.sees (bl_bin _) (by omega) (by omega)).mono ?_
      rintro e w5 ⟨v5, rfl, own5, hb5⟩
      rw [val_bl, show (1074 : Int).toNat = uu from rfl] at own5
      replace own4 := own4.below hb5
      have hbu := bstep hbz hb5
      clear hbx hby hbz hb3 hb4 hb5 own3
      go_wp2_with fail
      refine (rCmp _ _ _ _ _ own4.sees own5.sees (bl_bin _) (bl_bin _) (by omega) (by omega)).mono ?_
      rintro e w6 ⟨rfl, hb6⟩
      rw [val_bl, val_bl]
      have hbv := bstep hbu hb6
      clear hb6 hbu own4 own5
      have ct := cmp_three (V P) (2 ^ uu * m)
      obtain ⟨C, hC⟩ : ∃ C, cmpI (V P) (2 ^ uu * m) = C := ⟨_, rfl⟩
      rw [hC] at ct
      rw [hC]
      have CE : Hid (C = 0 ↔ V P = m * 2 ^ uu) := by
        show _ ↔ _
        rw [Nat.mul_comm m]
        omega
      clear hC ct
    · obtain rfl := CE.out.2 (F3.out.2 (by first | rfl | trivial))
      obtain ⟨rfl, rfl⟩ := G1.out (by first | rfl | trivial)
      go_wp2_with fail
      refine (mTo _ _ s3 s4).mono ?_
      rintro e w7 ⟨rfl, hb7⟩
      rw [HN.out, HF.out]
      have hbq := bstep hbv hb7
      go_wp2
      go_ret
      exact ⟨ret_eq (bool_eq (by simp)), hbq⟩
    · have c0 : (C == 0) = false := by
        rw [beq_eq_false_iff_ne]
        intro h
        exact absurd (F3.out.1 (CE.out.1 h)) (by simp)
      go_wp2_with fail
      refine (mTo _ _ s3 s4).mono ?_
      rintro e w7 ⟨rfl, hb7⟩
      rw [HN.out, HF.out]
      have hbq := bstep hbv hb7
      rcases G2.out with rfl | ⟨rfl, rfl, rfl⟩
      all_goals
        go_wp2_with (first | (go_at_call 30; refine (abs_any _ _ s3 s4).mono ?_; rintro e w' ⟨rfl, rfl⟩; rw [AB.out]))
        go_ret
        exact ⟨ret_eq (bool_eq (by simp)), hbq⟩

/-! ### THE ROW's STEP -/
set_option maxRecDepth 100000 in
theorem lifted (os : Os) (started : os.Started) (H : Type) (enc : TypeId × Value → H) :
    ReturnsInHanded {} Try.checked os 6 .any (Rows.moreIntsSpec.pre6 enc Try.prog Try.f6 Rows.moreIntsRow.domain false) (Rows.moreIntsSpec.post enc Try.prog Try.f6 false true false false) := by
  refine returnsInHanded_of_change (C := Try.checked) own started (by kernel_rfl) Try.func6
    (ChangeSpec.witness6 (enc := enc) (C := Try.checked) false ⟨#[], #[.int .i64 0], []⟩ 8 (by kernel_rfl) (by kernel_rfl) (by kernel_rfl) (by kernel_rfl)) ?_
  intro W base args ds gs before hval0 hW hcnd _
  have hval : ∀ (j : Nat) t v, Try.f6.params[j]? = some t → args[j]? = some v → Value.okWide Try.prog W .any base t v := hval0
  have hW' := hW
  obtain ⟨p, q, hA0, hV, rfl, hfz, hnd⟩ := hW
  have hA : DataW.TrodAll enc Try.prog W 0 (fun _ => true) true Try.f6.params.toList args.toList ds p := hA0
  rw [Try.params6] at hA hval
  obtain ⟨v0, vs0, d0, ds0, p0, q0, hargs, rfl, rfl, h0, r0⟩ := trodAll_cons hA
  obtain ⟨rfl, rfl, rfl⟩ := trodAll_nil r0
  obtain rfl : args = #[v0] := by cases args; simp_all
  obtain ⟨rfl, rfl⟩ := trodVars_none hV
  obtain ⟨a0, rfl, rfl, rfl, w0⟩ := open_int Try.underlying2 (hval 0 2 v0 rfl rfl) h0
  clear hA0 hval0
  refine (walk a0 W w0).mono fun e W' ⟨he, bel⟩ => ?_
  subst he
  exact ⟨_, rfl, _, _, _, [], _, [], hW', trodAll_mk1 (shut_bool Try.underlying4 _), (trodAll_cons_mk (shut_int Try.underlying2 w0) trodAll_mk0), rfl, bel.frame _, fun h => by cases h⟩

theorem over : Rows.moreIntsRow.holds Try.pinned (OpenSpec.ofChange Rows.moreIntsSpec) :=
  OpenClaim.holds_of_wide 6 Try.f6 rfl rfl rfl rfl rfl rfl rfl ⟨rfl, rfl, rfl, rfl, rfl⟩ rfl rfl rfl rfl rfl (by kernel_rfl) Try.func6 (by kernel_rfl)
    (of_decide_eq_true (by kernel_rfl)) (by unfold Func.isWrapper; first | (rw [if_pos (by decide +kernel)]; kernel_rfl) | (rw [if_neg (by decide +kernel)]; exact ⟨rfl, rfl⟩))
    (fun os started H enc _ => lifted os started H enc)

/-- THE STATEMENT -/
theorem proved : Rows.MoreIntsSaid :=
  over
#print axioms proved
end Go.Proofs.Yteohkpiecidicaa.moreInts
