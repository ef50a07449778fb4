/-
  The law MoreOnce returns true at every input (any two patterns), and leaves its arguments as they were. No conditions.
-/
import Derived.Test.YteohkpiecidicaaRows
import Derived.WalkKit
import Derived.ProofKit
import Derived.OpenShut
import Derived.Test.YteohkpiecidicaaMoreL
import Derived.Test.YteohkpiecidicaaMoreG
import Derived.Test.YteohkpiecidicaaRootN
import Derived.Lib.SmallJoins
import Derived.Below
namespace Go.Proofs.Yteohkpiecidicaa.moreOnce
open Go.ChangeShapes Go.WideShapes Go.ChangeAt Go.RowKit
open Go.Joins (open_agg2 shut_agg2)
set_option linter.unusedVariables false

theorem own : ownKnob Try.prog.godebug = none := by kernel_rfl

theorem make_zero (n : Bool) : wMake n 0 0 = sgnB n := by cases n <;> decide
theorem exp_big (a : Int) (h0 : 0 ≤ a) (h1 : a < 9223372036854775808) (h : ¬ a / 4503599627370496 % 2048 < 100) : 100 * 4503599627370496 ≤ mag a := by
  unfold mag
  omega
set_option maxRecDepth 100000 in
set_option maxHeartbeats 2000000 in
theorem walk (a0 : Int) (a1 : Int) (w : World) (w0 : (Lit.int .u64 a0).wf = true) (w1 : (Lit.int .u64 a1).wf = true) :
    Calls Try.prog 8 #[.int .u64 a0, .int .u64 a1] w fun e w' => e = .returned (.bool true) ∧ Below w.heap.size w w' := by
  obtain ⟨h0, h1⟩ := bounds_u64 w0
  obtain ⟨g0, g1⟩ := bounds_u64 w1
  have h1' : a0 < 18446744073709551616 := by omega
  have g1' : a1 < 18446744073709551616 := by omega
  obtain ⟨sa, hsa⟩ : ∃ s, sgn a0 = s := ⟨_, rfl⟩
  obtain ⟨sb, hsb⟩ : ∃ s, sgn a1 = s := ⟨_, rfl⟩
  obtain ⟨n, hn⟩ : ∃ n, (sa != sb) = n := ⟨_, rfl⟩
  have FO : Hid (_ = _) := fma_one a0 a1 h0 h1' g0 g1'
  have FZ : Hid (_ = _) := fma_none a0 a1 n (by rw [hsa, hsb]; exact hn)
  have SA : Hid (decide (9223372036854775808 ≤ a0) = sa) := hsa
  have SB : Hid (decide (9223372036854775808 ≤ a1) = sb) := hsb
  have SN : Hid ((!(sa == sb)) = n) := hn
  have MZ : Hid (∀ n, wMake n 0 0 = sgnB n) := make_zero
  have sn := sgnB_le n
  obtain ⟨sn0, sn1⟩ := sn
  obtain ⟨A, hA⟩ : ∃ A, addS a0 a1 = A := ⟨_, rfl⟩
  obtain ⟨M, hM⟩ : ∃ A, mulS a0 a1 = A := ⟨_, rfl⟩
  rw [hA] at FO
  rw [hM] at FZ
  obtain ⟨X, F⟩ := A
  obtain ⟨Y, G⟩ := M
  have HA : Hid (_ = _) := hA
  have HM : Hid (_ = _) := hM
  obtain ⟨fa, hfa⟩ : ∃ b, decide (mag a0 < 9218868437227405312) = b := ⟨_, rfl⟩
  have FA : Hid (decide (a0 / 4503599627370496 % 2048 < 2047) = fa) := by show _ = _; rw [fin_dec]; exact hfa
  obtain ⟨E, hE⟩ : ∃ E, a0 / 4503599627370496 % 2048 = E := ⟨_, rfl⟩
  have HE : Hid (_ = _) := hE
  have fb := wFlip_bd a0
  obtain ⟨fb0, fb1⟩ := fb
  obtain ⟨r, hr⟩ : ∃ r, (sqrtS a0).1 = r := ⟨_, rfl⟩
  have RT : Hid (sa = false → fa = true → ¬ E < 100 → 0 ≤ r ∧ r < 18446744073709551616 ∧ wPrev r = r - 1 ∧ wNext r = r + 1 ∧ 0 ≤ r - 1 ∧ r + 1 < 18446744073709551616 ∧ sgn (fmaS (r - 1) (r - 1) (wFlip a0)).1 = true ∧ sgn (fmaS (r + 1) (r + 1) (wFlip a0)).1 = false ∧ mag (fmaS (r + 1) (r + 1) (wFlip a0)).1 ≠ 0) := by
    show _ → _ → _ → _
    intro q1 q2 q3
    rw [q1] at hsa
    rw [q2, decide_eq_true_eq] at hfa
    rw [← hE] at q3
    refine root_tells a0 h0 h1' hsa hfa (exp_big a0 h0 ?_ q3) r hr
    unfold sgn at hsa
    rw [decide_eq_false_iff_not] at hsa
    omega
  have HR : Hid (_ = _) := hr
  clear hsa hsb hn hA hM hfa hE hr
  go_enter Try.func8, Try.ntmps8
  go_wp2_with fail
  refine (rHead5 _).mono ?_
  rintro e w1 ⟨rfl, hb1⟩
  go_wp2_with fail
  refine (mFma _ _ _ _ h0 h1' (by omega) (by omega) g0 g1').mono ?_
  rintro e w2 ⟨rfl, hb2⟩
  rw [FO.out]
  have hbx := bstep hb1 hb2
  clear hb1 hb2
  go_wp2_with fail
  refine (pAdd _ _ _ h0 h1' g0 g1').mono ?_
  rintro e w3 ⟨rfl, hb3⟩
  rw [HA.out]
  have hby := bstep hbx hb3
  clear hb3 hbx
  go_wp2_with (first | (go_at_call_of 24 a0; refine (neg_any _ _ h0 h1').mono ?_; rintro e w' ⟨rfl, rfl⟩; rw [SA.out]) | (go_at_call_of 24 a1; refine (neg_any _ _ g0 g1').mono ?_; rintro e w' ⟨rfl, rfl⟩; rw [SB.out]) | fail)
  rw [SN.out]
  refine (make_any _ _ _ _ (by omega) (by omega)).mono ?_
  rintro e w' ⟨rfl, rfl⟩
  rw [MZ.out]
  go_wp2_with fail
  refine (mFma _ _ _ _ h0 h1' g0 g1' (by omega) (by omega)).mono ?_
  rintro e w4 ⟨rfl, hb4⟩
  rw [FZ.out]
  have hbz := bstep hby hb4
  clear hb4 hby
  go_wp2_with fail
  refine (pMul _ _ _ h0 h1' g0 g1').mono ?_
  rintro e w5 ⟨rfl, hb5⟩
  rw [HM.out]
  have hbu := bstep hbz hb5
  clear hb5 hbz
  by_cases ok : sa = false ∧ fa = true ∧ ¬ E < 100
  · obtain ⟨r0, r1, r2, r3, r4, r5, r6, r7, r8⟩ := RT.out ok.1 ok.2.1 (by have := ok.2.2; omega)
    have R2 : Hid (_ = _) := r2
    have R3 : Hid (_ = _) := r3
    obtain ⟨l0, l1, l2, l3⟩ := fmaS_bd (r - 1) (r - 1) (wFlip a0) r4 (by omega) r4 (by omega) fb0 fb1
    obtain ⟨u0, u1, u2, u3⟩ := fmaS_bd (r + 1) (r + 1) (wFlip a0) (by omega) r5 (by omega) r5 fb0 fb1
    obtain ⟨L, hL⟩ : ∃ L, fmaS (r - 1) (r - 1) (wFlip a0) = L := ⟨_, rfl⟩
    obtain ⟨U, hU⟩ : ∃ L, fmaS (r + 1) (r + 1) (wFlip a0) = L := ⟨_, rfl⟩
    rw [hL] at r6 l0 l1 l2 l3
    rw [hU] at r7 r8 u0 u1 u2 u3
    obtain ⟨L1, L2⟩ := L
    obtain ⟨U1, U2⟩ := U
    simp only at r6 r7 r8 l0 l1 l2 l3 u0 u1 u2 u3
    have HL : Hid (_ = _) := hL
    have HU : Hid (_ = _) := hU
    have NL : Hid (decide (9223372036854775808 ≤ L1) = true) := r6
    have NU : Hid (decide (9223372036854775808 ≤ U1) = false) := r7
    have r9 : ¬ U1 % 9223372036854775808 = 0 := by unfold mag at r8; omega
    obtain ⟨Q, hQ⟩ : ∃ Q, U1 % 9223372036854775808 = Q := ⟨_, rfl⟩
    rw [hQ] at r9
    have HQ : Hid (_ = _) := hQ
    have r10 : (Q == 0) = false := by rw [beq_eq_false_iff_ne]; exact r9
    have rp0 : 0 ≤ r + 1 := by omega
    have rp1 : r - 1 < 18446744073709551616 := by omega
    obtain ⟨rfl, rfl, ok3⟩ := ok
    clear r2 r3 r6 r7 r8 hL hU hQ RT
    go_wp2_with (first | (go_at_call 24; refine (neg_any _ _ h0 h1').mono ?_; rintro e w' ⟨rfl, rfl⟩; rw [SA.out]) | (go_at_call 25; refine (finite_any _ _ h0 h1').mono ?_; rintro e w' ⟨rfl, rfl⟩; rw [FA.out]) | (go_at_call 36; refine (exp_any _ _ h0 h1').mono ?_; rintro e w' ⟨rfl, rfl⟩; rw [HE.out]) | fail)
    refine (mSqrt _ _ h0 h1').mono ?_
    rintro e w6 ⟨rfl, hb6⟩
    rw [HR.out]
    have hbv := bstep hbu hb6
    clear hb6 hbu
    go_wp2_with (first | (go_at_call 37; refine (prev_any _ _ r0 r1).mono ?_; rintro e w' ⟨rfl, rfl⟩; rw [R2.out]) | (go_at_call 38; refine (flip_any _ _ h0 h1').mono ?_; rintro e w' ⟨rfl, rfl⟩) | fail)
    refine (mFma _ _ _ _ r4 rp1 r4 rp1 fb0 fb1).mono ?_
    rintro e w7 ⟨rfl, hb7⟩
    rw [HL.out]
    have hbp := bstep hbv hb7
    clear hb7 hbv
    go_wp2_with (first | (go_at_call 39; refine (next_any _ _ r0 r1).mono ?_; rintro e w' ⟨rfl, rfl⟩; rw [R3.out]) | (go_at_call 38; refine (flip_any _ _ h0 h1').mono ?_; rintro e w' ⟨rfl, rfl⟩) | fail)
    refine (mFma _ _ _ _ rp0 r5 rp0 r5 fb0 fb1).mono ?_
    rintro e w8 ⟨rfl, hb8⟩
    rw [HU.out]
    have hbq := bstep hbp hb8
    clear hb8 hbp
    go_wp2_with (first | (go_at_call_of 24 L1; refine (neg_any _ _ l0 l1).mono ?_; rintro e w' ⟨rfl, rfl⟩; rw [NL.out]) | (go_at_call_of 24 U1; refine (neg_any _ _ u0 u1).mono ?_; rintro e w' ⟨rfl, rfl⟩; rw [NU.out]) | (go_at_call 30; refine (abs_any _ _ u0 u1).mono ?_; rintro e w' ⟨rfl, rfl⟩; rw [HQ.out]))
    all_goals go_ret
    all_goals exact ⟨ret_eq (bool_eq (by simp [r9])), hbq⟩
  · have ok2 : sa = true ∨ (sa = false ∧ fa = false) ∨ (sa = false ∧ fa = true ∧ E < 100) := by
      cases sa
      · right
        cases fa
        · left; exact ⟨rfl, rfl⟩
        · right
          refine ⟨rfl, rfl, ?_⟩
          by_cases q : E < 100
          · exact q
          · exact absurd ⟨rfl, rfl, q⟩ ok
      · left; rfl
    clear ok RT
    rcases ok2 with rfl | ⟨rfl, rfl⟩ | ⟨rfl, rfl, ok3⟩
    all_goals
      go_wp2_with (first | (go_at_call 24; refine (neg_any _ _ h0 h1').mono ?_; rintro e w' ⟨rfl, rfl⟩; rw [SA.out]) | (go_at_call 25; refine (finite_any _ _ h0 h1').mono ?_; rintro e w' ⟨rfl, rfl⟩; rw [FA.out]) | (go_at_call 36; refine (exp_any _ _ h0 h1').mono ?_; rintro e w' ⟨rfl, rfl⟩; rw [HE.out]))
      go_ret
      exact ⟨ret_eq rfl, hbu⟩

/-! ### THE ROW's STEP -/
set_option maxRecDepth 100000 in
theorem lifted (os : Os) (started : os.Started) (H : Type) (enc : TypeId × Value → H) :
    ReturnsInHanded {} Try.checked os 8 .any (Rows.moreOnceSpec.pre6 enc Try.prog Try.f8 Rows.moreOnceRow.domain false) (Rows.moreOnceSpec.post enc Try.prog Try.f8 false true false false) := by
  refine returnsInHanded_of_change (C := Try.checked) own started (by kernel_rfl) Try.func8
    (ChangeSpec.witness6 (enc := enc) (C := Try.checked) false ⟨#[], #[.int .u64 0, .int .u64 0], []⟩ 8 (by kernel_rfl) (by kernel_rfl) (by kernel_rfl) (by kernel_rfl)) ?_
  intro W base args ds gs before hval0 hW hcnd _
  have hval : ∀ (j : Nat) t v, Try.f8.params[j]? = some t → args[j]? = some v → Value.okWide Try.prog W .any base t v := hval0
  have hW' := hW
  obtain ⟨p, q, hA0, hV, rfl, hfz, hnd⟩ := hW
  have hA : DataW.TrodAll enc Try.prog W 0 (fun _ => true) true Try.f8.params.toList args.toList ds p := hA0
  rw [Try.params8] at hA hval
  obtain ⟨v0, vs0, d0, ds0, p0, q0, hargs, rfl, rfl, h0, r0⟩ := trodAll_cons hA
  obtain ⟨v1, vs1, d1, ds1, p1, q1, rfl, rfl, rfl, h1, r1⟩ := trodAll_cons r0
  obtain ⟨rfl, rfl, rfl⟩ := trodAll_nil r1
  obtain rfl : args = #[v0, v1] := by cases args; simp_all
  obtain ⟨rfl, rfl⟩ := trodVars_none hV
  obtain ⟨a0, rfl, rfl, rfl, w0⟩ := open_int Try.underlying22 (hval 0 22 v0 rfl rfl) h0
  obtain ⟨a1, rfl, rfl, rfl, w1⟩ := open_int Try.underlying22 (hval 1 22 v1 rfl rfl) h1
  clear hA0 hval0
  refine (walk a0 a1 W w0 w1).mono fun e W' ⟨he, bel⟩ => ?_
  subst he
  exact ⟨_, rfl, _, _, _, [], _, [], hW', trodAll_mk1 (shut_bool Try.underlying4 _), (trodAll_cons_mk (shut_int Try.underlying22 w0) (trodAll_cons_mk (shut_int Try.underlying22 w1) trodAll_mk0)), rfl, bel.frame _, fun h => by cases h⟩

theorem over : Rows.moreOnceRow.holds Try.pinned (OpenSpec.ofChange Rows.moreOnceSpec) :=
  OpenClaim.holds_of_wide 8 Try.f8 rfl rfl rfl rfl rfl rfl rfl ⟨rfl, rfl, rfl, rfl, rfl⟩ rfl rfl rfl rfl rfl (by kernel_rfl) Try.func8 (by kernel_rfl)
    (of_decide_eq_true (by kernel_rfl)) (by unfold Func.isWrapper; first | (rw [if_pos (by decide +kernel)]; kernel_rfl) | (rw [if_neg (by decide +kernel)]; exact ⟨rfl, rfl⟩))
    (fun os started H enc _ => lifted os started H enc)

/-- THE STATEMENT -/
theorem proved : Rows.MoreOnceSaid :=
  over
#print axioms proved
end Go.Proofs.Yteohkpiecidicaa.moreOnce
