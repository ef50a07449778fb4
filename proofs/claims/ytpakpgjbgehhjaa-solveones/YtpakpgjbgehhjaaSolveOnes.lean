/-
  The law SolveOnes returns true at every input (any slices, either triangle), and leaves its arguments as they were. No conditions.
-/
import Derived.Test.YtpakpgjbgehhjaaRows
import Derived.WalkKit
import Derived.ProofKit
import Derived.OpenShut
import Derived.Test.YtpakpgjbgehhjaaGrAE
import Derived.Test.YtpakpgjbgehhjaaGrAH
import Derived.Test.YtpakpgjbgehhjaaGrQ
import Derived.Test.YtpakpgjbgehhjaaGrU
import Derived.Test.YtpakpgjbgehhjaaGrZ
import Derived.ShutString
import Derived.ChangeOld
import Derived.Below
namespace Go.Proofs.Ytpakpgjbgehhjaa.solveOnes
open Go.ChangeShapes Go.WideShapes Go.ChangeAt Go.RowKit
open Go.ChangeMaps (open_string shut_string)
set_option linter.unusedVariables false

theorem own : ownKnob Try.prog.godebug = none := by kernel_rfl
theorem laidOut : laidOutB Try.prog = true := by kernel_rfl

/-- WHAT THE WALK IS TOLD OF A SLICE OF INTEGERS THAT CAME IN: it is nil; or it leads to a row of 'cap' cells, the numbers 'zs' (the first 'len' are its elements, the rest its spare room), each fitting its kind. -/
def IsRow (k : IntKind) (w : World) (a : Option Addr) (len cap : Nat) (zs : List Int) : Prop :=
  (a = none ∧ len = 0 ∧ cap = 0 ∧ zs = []) ∨
  ∃ x, a = some x ∧ len ≤ cap ∧ cap ≤ maxLen ∧ zs.length = cap ∧ (∀ i, i < zs.length → w.cell? (x.add i) = some (.int k (zs.getD i 0))) ∧ ∀ n ∈ zs, (Lit.int k n).wf = true

set_option linter.unusedSimpArgs false
theorem row_of (w : World) (a : Option Addr) (len cap : Nat) (zs : List Int) (h : IsRow .u64 w a len cap zs) : URow w a len cap (fun i => zs.getD i 0) := by
  rcases h with ⟨rfl, rfl, rfl, rfl⟩ | ⟨x, rfl, h1, h2, h3, h4, h5⟩
  · exact ⟨Nat.le_refl _, Nat.zero_le _, fun i => by simp, fun h => absurd h (Nat.lt_irrefl 0)⟩
  · refine ⟨h1, h2, fun i => ?_, fun hp => ?_⟩
    · show 0 ≤ zs.getD i 0 ∧ zs.getD i 0 < 18446744073709551616
      rcases Nat.lt_or_ge i zs.length with g | g
      · have hm : zs.getD i 0 ∈ zs := by
          rw [List.getD_eq_getElem?_getD, List.getElem?_eq_getElem g]
          exact List.getElem_mem g
        obtain ⟨q1, q2⟩ := bounds_u64 (h5 _ hm)
        exact ⟨q1, by omega⟩
      · rw [List.getD_eq_getElem?_getD, List.getElem?_eq_none g]
        simp
    · obtain ⟨b, o, s⟩ := x
      have hs : s = none := by simpa [Addr.add] using World.cell?_spot (h4 0 (by omega))
      subst hs
      have hb : b < w.heap.size := by
        have := World.block_lt_of_cell? _ _ (h4 0 (by omega))
        simpa [Addr.add] using this
      refine ⟨b, o, rfl, hb, fun i hi => ?_⟩
      have := h4 i (by omega)
      rw [add_plain] at this
      exact this
theorem irow_of (w : World) (a : Option Addr) (len cap : Nat) (zs : List Int) (h : IsRow .i64 w a len cap zs) : IRow w a len cap (fun i => zs.getD i 0) := by
  rcases h with ⟨rfl, rfl, rfl, rfl⟩ | ⟨x, rfl, h1, h2, h3, h4, h5⟩
  · exact ⟨Nat.le_refl _, Nat.zero_le _, fun i => by simp, fun h => absurd h (Nat.lt_irrefl 0)⟩
  · refine ⟨h1, h2, fun i => ?_, fun hp => ?_⟩
    · show -9223372036854775808 ≤ zs.getD i 0 ∧ zs.getD i 0 < 9223372036854775808
      rcases Nat.lt_or_ge i zs.length with g | g
      · have hm : zs.getD i 0 ∈ zs := by
          rw [List.getD_eq_getElem?_getD, List.getElem?_eq_getElem g]
          exact List.getElem_mem g
        obtain ⟨q1, q2⟩ := bounds_i64 (h5 _ hm)
        exact ⟨by omega, by omega⟩
      · rw [List.getD_eq_getElem?_getD, List.getElem?_eq_none g]
        simp
    · obtain ⟨b, o, s⟩ := x
      have hs : s = none := by simpa [Addr.add] using World.cell?_spot (h4 0 (by omega))
      subst hs
      have hb : b < w.heap.size := by
        have := World.block_lt_of_cell? _ _ (h4 0 (by omega))
        simpa [Addr.add] using this
      refine ⟨b, o, rfl, hb, fun i hi => ?_⟩
      have := h4 i (by omega)
      rw [add_plain] at this
      exact this
set_option maxRecDepth 100000 in
set_option maxHeartbeats 8000000 in
theorem walk (a0 : Option Addr) (len0 cap0 : Nat) (z0 : List Int) (a1 : Option Addr) (len1 cap1 : Nat) (z1 : List Int) (a2 : Bool) (w : World) (w0 : IsRow .u64 w a0 len0 cap0 z0) (w1 : IsRow .i64 w a1 len1 cap1 z1) :
    Calls Try.prog 10 #[.slice a0 len0 cap0, .slice a1 len1 cap1, .bool a2] w fun e w' => e = .returned (.bool true) ∧ Below w.heap.size w w' := by
  have hr := row_of w a0 len0 cap0 z0 w0
  have hp := irow_of w a1 len1 cap1 z1 w1
  generalize (fun i => z0.getD i 0) = X at hr
  generalize (fun i => z1.getD i 0) = P at hp
  clear w0 w1
  obtain ⟨lx, cx⟩ := hr.lenB
  obtain ⟨ly, cy⟩ := hp.lenB
  have HR : Hid (URow _ _ _ _ _) := hr
  have HP : Hid (IRow _ _ _ _ _) := hp
  have XR : Hid (∀ i, 0 ≤ X i ∧ X i < 18446744073709551616) := hr.2.2.1
  have PR : Hid (∀ i, -9223372036854775808 ≤ P i ∧ P i < 9223372036854775808) := hp.2.2.1
  clear hr hp
  by_cases hl : 12 < len0
  · have hl2 : (12 : Int) < (len0 : Int) := by omega
    have hdl : decide ((12 : Int) < (len0 : Int)) = true := decide_eq_true hl2
    go_enter Try.func10, Try.ntmps10
    go_wp2_with fail
    refine (lHead12 _).mono ?_
    rintro e w1 ⟨rfl, hb1⟩
    go_wp2
    go_ret
    exact ⟨ret_eq rfl, hb1⟩
  have hl2 : ¬ (12 : Int) < (len0 : Int) := by omega
  have hdl : decide ((12 : Int) < (len0 : Int)) = false := decide_eq_false hl2
  by_cases hm : 12 < len1
  · have hm2 : (12 : Int) < (len1 : Int) := by omega
    have hdm : decide ((12 : Int) < (len1 : Int)) = true := decide_eq_true hm2
    go_enter Try.func10, Try.ntmps10
    go_wp2_with fail
    refine (lHead12 _).mono ?_
    rintro e w1 ⟨rfl, hb1⟩
    go_wp2
    go_ret
    exact ⟨ret_eq rfl, hb1⟩
  have hm2 : ¬ (12 : Int) < (len1 : Int) := by omega
  have hdm : decide ((12 : Int) < (len1 : Int)) = false := decide_eq_false hm2
  have hNN : len0 * len0 ≤ 144 := Nat.mul_le_mul (show len0 ≤ 12 by omega) (show len0 ≤ 12 by omega)
  have hNB : len0 ≤ 12 := by omega
  obtain ⟨N, hN⟩ : ∃ N, N = len0 := ⟨_, rfl⟩
  subst hN
  obtain ⟨D, hD⟩ : ∃ D, N * N = D := ⟨_, rfl⟩
  have HND : Hid (N * N = D) := hD
  rw [hD] at hNN
  clear hD
  have TM : Hid (Rgt (N : Int) (N : Int) (N : Int) D) := by show Rgt _ _ _ _; rw [← HND.out]; exact tight N N (by omega) (by omega)
  obtain ⟨q, hq⟩ : ∃ q : Nat → Nat, q = fun i => if 0 < len1 then (P (i % len1) % 64 + 990).toNat else 1022 := ⟨_, rfl⟩
  have HQ : Hid (∀ i, q i = if 0 < len1 then (P (i % len1) % 64 + 990).toNat else 1022) := by rw [hq]; exact fun _ => rfl
  have QB : Hid (∀ i, 990 ≤ q i ∧ q i ≤ 1053) := fun i => by rw [HQ.out]; split <;> omega
  clear hq
  go_enter Try.func10, Try.ntmps10
  go_wp2_with fail
  refine (lHead12 _).mono ?_
  rintro e w1 ⟨rfl, hb1⟩
  have BW : Hid (Below w.heap.size w w1) := hb1
  have UX : Hid (URow w1 a0 N cap0 X) := HR.out.below hb1
  clear hb1 HR
  go_wp2_with fail
  refine (mOne N _ (by omega)).mono ?_
  rintro e w1_ ⟨gI, xs1, rfl, _, hR_, hO_, hb1_⟩
  rw [HND.out]
  have UI_ : URow w1_ (some ⟨gI, 0, none⟩) D D (fun j => xs1[j]?.getD 0) := hR_.rowZ (by rw [hO_.1]; exact HND.out) (by omega) hO_.2.1
  have GI : Hid (dgn (fun j => xs1[j]?.getD 0) (fun _ => 4607182418800017408) N) := DgI.dgn hO_
  clear hR_ hO_
  generalize (fun j : Nat => xs1[j]?.getD 0) = zI at UI_ GI
  replace BW : Hid (Below _ _ _) := bstep BW.out hb1_
  replace UX : Hid (URow _ _ _ _ _) := UX.out.below hb1_
  clear hb1_
  have UI : Hid (URow w1_ (some ⟨gI, 0, none⟩) D D zI) := UI_
  clear UI_
  have DZI : Hid (∀ i, i < N → zI (i * N + i) % 9223372036854775808 ≠ 0) := fun i hi => by rw [GI.out i i hi hi, if_pos rfl]; show (4607182418800017408 : Int) % 9223372036854775808 ≠ 0; decide
  go_wp2_with fail
  refine (sTrsv a2 false (.pointer none) none 0 N N _ D D zI _ _ X _ (IsCalc.nil _ _) TM.out UI.out (Apt.nil _ _) UX.out (Apt.nil _ _) (fun _ => DZI.out)).mono ?_
  rintro e w2_ ⟨ga, rfl, hga_, hU_, _, hB_⟩
  have hb2_ := hB_.nil
  replace BW : Hid (Below _ _ _) := bstep BW.out hb2_
  replace UX : Hid (URow _ _ _ _ _) := UX.out.below hb2_
  replace UI : Hid (URow _ _ _ _ _) := UI.out.below hb2_
  clear hb2_
  have UA : Hid (URow w2_ (some ⟨ga, 0, none⟩) N N (svX a2 false zI N N X N)) := hU_
  clear hU_
  clear UI
  have LA : Hid (ga < w2_.heap.size ∨ N = 0) := by
    show _ ∨ _
    rcases Nat.eq_zero_or_pos N with g | g
    · exact .inr g
    · exact .inl (UA.out.cellg 0 g).1
  clear hga_
  go_wp2_with fail
  refine (mNew N N _ (by omega) (by omega) (by rw [HND.out]; omega)).mono ?_
  rintro e w3_ ⟨rfl, _, hR_, hb3_⟩
  obtain ⟨gM, hgM⟩ : ∃ g, g = w2_.heap.size + 1 := ⟨_, rfl⟩
  rw [HND.out] at hR_ ⊢
  rw [← hgM] at hR_ ⊢
  have OM_ : Hid (w.heap.size ≤ gM) := by show _ ≤ _; have := Below.size BW.out; omega
  have AM_X : Hid (Apt (some gM) a0 N) := UX.out.apt (fun k e => by injection e with e; omega)
  have AM_A : Hid (Apt (some gM) (some ⟨ga, 0, none⟩) N) := UA.out.apt (fun k e => by injection e with e; omega)
  clear hgM LA
  replace BW : Hid (Below _ _ _) := bstep BW.out hb3_
  replace UX : Hid (URow _ _ _ _ _) := UX.out.below hb3_
  replace UA : Hid (URow _ _ _ _ _) := UA.out.below hb3_
  clear hb3_
  have RM : Hid (RowU w3_ gM (List.replicate D 0)) := hR_
  clear hR_
  go_upto_region 8 with fail
  have m_ := MBox.made w3_ (N : Int) (N : Int) (N : Int) (.slice (some ⟨gM, 0, none⟩) D D)
  have b_ : Below w3_.heap.size w3_ (w3_.alloc (.cells #[.int .i64 (N : Int), .int .i64 (N : Int), .int .i64 (N : Int), .slice (some ⟨gM, 0, none⟩) D D] 26)) := (Below.refl _ _).alloc (Nat.le_refl _) _
  obtain ⟨k_M, hk_M⟩ : ∃ k, k = w3_.heap.size := ⟨_, rfl⟩
  have L_M : Hid (w.heap.size ≤ k_M) := by rw [hk_M]; exact BW.out.size
  have NM_ : Hid (gM ≠ k_M) := by have := RM.out.lt; show _ ≠ _; omega
  rw [← hk_M] at m_ ⊢
  generalize (w3_.alloc (.cells #[.int .i64 (N : Int), .int .i64 (N : Int), .int .i64 (N : Int), .slice (some ⟨gM, 0, none⟩) D D] 26)) = w4_ at m_ b_ ⊢
  replace BW : Hid (Below _ _ _) := bstep BW.out b_
  replace UX : Hid (URow _ _ _ _ _) := UX.out.below b_
  replace UA : Hid (URow _ _ _ _ _) := UA.out.below b_
  replace RM : Hid (RowU _ _ _) := RM.out.below b_
  have M : Hid (MBox w4_ k_M (N : Int) (N : Int) (N : Int) (.slice (some ⟨gM, 0, none⟩) D D)) := m_
  clear m_ b_ hk_M
  have IM : Hid (DgI (List.replicate D 0) (fun i => twP (q i)) N 0) := by show DgI _ _ _ _; rw [← HND.out]; exact DgI.new _ _
  have OK : Hid (∀ k, k < 0 → OkX (X k)) := fun k h => absurd h (Nat.not_lt_zero k)
  go_wp2_with fail
  go_loopw [11] (fun s11_ wr => ∃ (i : Nat) (xs : List Int), s11_ = .int .i64 (i : Int) ∧ i ≤ N ∧ Hid (Below w.heap.size w wr) ∧ Hid (URow wr a0 N cap0 X) ∧ Hid (URow wr (some ⟨ga, 0, none⟩) N N (svX a2 false zI N N X N)) ∧ Hid (MBox wr k_M (N : Int) (N : Int) (N : Int) (.slice (some ⟨gM, 0, none⟩) D D)) ∧ Hid (RowU wr gM xs) ∧ Hid (DgI xs (fun i => twP (q i)) N i) ∧ Hid (∀ k, k < i → OkX (X k))) (fun s11_ _ => N - (intOf s11_).toNat)
  case atStart => exact ⟨0, _, rfl, Nat.zero_le _, BW, UX, UA, M, RM, IM, OK⟩
  case round =>
    clear BW UX UA M RM IM OK
    obtain ⟨i, xs, rfl, hi_, BW, UX, UA, M, RM, IM, OK⟩ := hrel
    obtain ⟨w5_, rfl⟩ : ∃ x, x = wr := ⟨wr, rfl⟩
    by_cases hlt : (i : Int) < (N : Int)
    · as_aux_lemma =>
        obtain ⟨E, hE⟩ : ∃ e : Int, e + 1022 = (q i : Int) := ⟨(q i : Int) - 1022, by omega⟩
        have hE0 : -32 ≤ E := by have := QB.out i; omega
        have hE1 : E ≤ 31 := by have := QB.out i; omega
        have HE : Hid (E + 1022 = (q i : Int)) := hE
        have HEP : Hid (0 < len1 → E = P (i % len1) % 64 - 32) := fun h => by have := HQ.out i; rw [if_pos h] at this; show E = _; omega
        have HEN : Hid (¬ 0 < len1 → E = 0) := fun h => by have := HQ.out i; rw [if_neg h] at this; show E = _; omega
        clear hE
        go_upto_if 50 with fail
        go_cut [12] from 43 to 100 (fun t wx => t = .int .i64 E ∧ wx = w5_)
        case first =>
          by_cases hp : 0 < len1
          · obtain ⟨b, o, rfl, hb, hcell⟩ := HP.out.2.2.2 hp
            obtain ⟨Q0, hQ, hQl, hq1, hq2⟩ := rem_facts i len1 hp
            have hw8 : i % len1 = Q0 := hQ.symm
            have hw9 : ¬ len1 = 0 := by omega
            have hw3 : (0 : Int) < (len1 : Int) := by omega
            have hw4 : ¬ (len1 : Int) = 0 := by omega
            have hw5 := rem_run (i : Int) (len1 : Int) (Q0 : Int) (by omega) hw3 hq2
            have hQi : (Q0 : Int) < (len1 : Int) := by omega
            have hl0 : ((len1 : Int) == 0) = false := by rw [beq_eq_false_iff_ne]; omega
            have u1 := (Below.cell (p := ⟨b, o + Q0, none⟩) BW.out hb).trans (hcell Q0 hQl)
            obtain ⟨r0_, r1_⟩ := PR.out Q0
            have hEP := HEP.out hp
            rw [← hQ] at hEP
            obtain ⟨u, hu⟩ : ∃ u, P Q0 = u := ⟨_, rfl⟩
            rw [hu] at u1 r0_ r1_ hEP
            have an := and_63 u
            obtain ⟨r, hr⟩ : ∃ r : Nat, (r : Int) = u % 64 := ⟨(u % 64).toNat, by omega⟩
            rw [← hr] at an hEP
            have hw7 : (r : Int) - 32 = E := hEP.symm
            have hw6 : IntKind.i64.wrap E = E := by rw [IntKind.wrap_i64]; omega
            clear hcell hQ hu hr hEP HEP HEN
            go_wp2
            go_meet
            exact ⟨rfl, rfl⟩
          · have hE2 := HEN.out hp
            obtain rfl : len1 = 0 := by omega
            subst hE2
            clear HEP HEN
            go_wp2
            go_meet
            exact ⟨rfl, rfl⟩
        case rest =>
          obtain ⟨rfl, hwc⟩ := hcut
          have hwc2 := hwc.symm
          clear hwc
          subst hwc2
          clear HEP HEN
          obtain ⟨t0_, t1_, _⟩ := twP_rng (q i) (by have := QB.out i; omega)
          obtain ⟨tp, htp⟩ : ∃ t, twP (q i) = t := ⟨_, rfl⟩
          have HTP : Hid (_ = _) := htp
          rw [htp] at t0_ t1_
          clear htp
          go_wp2_with fail
          refine (dTwo1 E _ hE0 hE1).mono ?_
          rintro e w6_ ⟨v1, rfl, ht_, hb6_⟩
          replace BW : Hid (Below _ _ _) := bstep BW.out hb6_
          replace UX : Hid (URow _ _ _ _ _) := UX.out.below hb6_
          replace UA : Hid (URow _ _ _ _ _) := UA.out.below hb6_
          replace M : Hid (MBox _ _ _ _ _ _) := M.out.below hb6_
          replace RM : Hid (RowU _ _ _) := RM.out.below hb6_
          clear hb6_
          go_wp2_with fail
          refine (nearT E (q i) _ HE.out hE0 hE1 v1 _ ht_).mono ?_
          rintro e w8_ ⟨f1, rfl, hb8_⟩
          rw [HTP.out]
          clear ht_
          replace BW : Hid (Below _ _ _) := bstep BW.out hb8_
          replace UX : Hid (URow _ _ _ _ _) := UX.out.below hb8_
          replace UA : Hid (URow _ _ _ _ _) := UA.out.below hb8_
          replace M : Hid (MBox _ _ _ _ _ _) := M.out.below hb8_
          replace RM : Hid (RowU _ _ _) := RM.out.below hb8_
          clear hb8_
          obtain ⟨M_0, M_1, M_2, M_3, M_4⟩ := M.out
          go_wp2_with fail
          refine (mSet (N : Int) (N : Int) (N : Int) gM D D xs (i : Int) (i : Int) tp _ TM.out RM.out (by rw [IM.out.1]; exact HND.out) (Nat.le_refl _) (by omega) (by omega)).mono ?_
          rintro e wS ⟨rfl, hR_, bs_⟩
          rw [show ((i : Int) * (N : Int) + (i : Int)).toNat = i * N + i by rw [show (i : Int) * (N : Int) + (i : Int) = ((i * N + i : Nat) : Int) by push_cast; rfl]; exact Int.toNat_natCast _] at hR_
          clear M_0 M_1 M_2 M_3 M_4
          replace BW : Hid (Below _ _ _) := Bes.old BW.out bs_ OM_.out
          replace UX : Hid (URow _ _ _ _ _) := UX.out.bes bs_ AM_X.out
          replace UA : Hid (URow _ _ _ _ _) := UA.out.bes bs_ AM_A.out
          replace M : Hid (MBox _ _ _ _ _ _) := M.out.bes bs_ (ne_some NM_.out)
          clear RM
          have RM : Hid (RowU wS gM (xs.set (i * N + i) tp)) := hR_
          clear hR_ bs_
          have IM2 : Hid (DgI (xs.set (i * N + i) tp) (fun i => twP (q i)) N (i + 1)) := IM.out.set (by omega) tp HTP.out.symm t0_ t1_
          clear IM
          obtain ⟨x0, x1⟩ := XR.out i
          obtain ⟨b, o, rfl, hb, hcell⟩ := UX.out.2.2.2 (by omega)
          have u1 := hcell i (by omega)
          clear hcell
          obtain ⟨x, hx⟩ : ∃ x, X i = x := ⟨_, rfl⟩
          have HX1 : Hid (_ = _) := hx
          rw [hx] at u1 x0 x1
          clear hx
          have OKZ : Hid (x % 9223372036854775808 = 0 → OkX x) := okX_zero x
          have OKM : Hid (¬ x / 4503599627370496 % 2048 < 100 → ¬ 1900 < x / 4503599627370496 % 2048 → OkX x) := okX_mid x x0 x1
          obtain ⟨ex, hex⟩ : ∃ e, x / 4503599627370496 % 2048 = e := ⟨_, rfl⟩
          have HEX : Hid (_ = _) := hex
          obtain ⟨ab, hab⟩ : ∃ a, x % 9223372036854775808 = a := ⟨_, rfl⟩
          have HAB : Hid (_ = _) := hab
          rw [hex] at OKM
          rw [hab] at OKZ
          clear hex hab
          go_wp2_with fail
          refine (finite_any x _ x0 x1).mono ?_
          rintro e w' ⟨rfl, hw⟩
          have hw2 := hw.symm
          clear hw
          subst hw2
          rw [HEX.out]
          by_cases hf : ex < 2047
          · rw [decide_eq_true hf]
            go_wp2_with fail
            refine (abs_any x _ x0 x1).mono ?_
            rintro e w' ⟨rfl, hw⟩
            have hw2 := hw.symm
            clear hw
            subst hw2
            rw [HAB.out]
            by_cases h0 : ab = 0
            · skip
              have OK2 : Hid (∀ k, k < i + 1 → OkX (X k)) := fun k hk => by
                rcases Nat.lt_or_ge k i with g | g
                · exact OK.out k g
                · rw [show k = i by omega, HX1.out]; exact OKZ.out h0
              clear OK
              subst h0
              go_wp2
              go_roundw
              case rel => exact ⟨i + 1, _, by go_num, by omega, BW, UX, UA, M, RM, IM2, OK2⟩
              case measure => simp [intOf]; omega
            · skip
              have hb0 : (ab == 0) = false := by rw [beq_eq_false_iff_ne]; exact h0
              go_wp2_with fail
              refine (exp_any x _ x0 x1).mono ?_
              rintro e w' ⟨rfl, hw⟩
              have hw2 := hw.symm
              clear hw
              subst hw2
              rw [HEX.out]
              by_cases h1 : ex < 100
              · skip
                have hd1 : decide (ex < 100) = true := decide_eq_true h1
                go_wp2
                go_ret
                exact ⟨ret_eq rfl, BW.out⟩
              · skip
                have hd1 : decide (ex < 100) = false := decide_eq_false h1
                go_wp2_with fail
                refine (exp_any x _ x0 x1).mono ?_
                rintro e w' ⟨rfl, hw⟩
                have hw2 := hw.symm
                clear hw
                subst hw2
                rw [HEX.out]
                by_cases h2 : 1900 < ex
                · skip
                  have hd2 : decide (1900 < ex) = true := decide_eq_true h2
                  go_wp2
                  go_ret
                  exact ⟨ret_eq rfl, BW.out⟩
                · skip
                  have hd2 : decide (1900 < ex) = false := decide_eq_false h2
                  have OK2 : Hid (∀ k, k < i + 1 → OkX (X k)) := fun k hk => by
                    rcases Nat.lt_or_ge k i with g | g
                    · exact OK.out k g
                    · rw [show k = i by omega, HX1.out]; exact OKM.out (by omega) (by omega)
                  clear OK
                  go_wp2
                  go_roundw
                  case rel => exact ⟨i + 1, _, by go_num, by omega, BW, UX, UA, M, RM, IM2, OK2⟩
                  case measure => simp [intOf]; omega
          · rw [decide_eq_false hf]
            go_wp2
            go_ret
            exact ⟨ret_eq rfl, BW.out⟩
    · obtain rfl : N = i := by omega
      have UM_ : URow w5_ (some ⟨gM, 0, none⟩) D D (fun j => xs[j]?.getD 0) := RM.out.rowZ (by rw [IM.out.1]; exact HND.out) (by omega) IM.out.2.1
      have GM : Hid (dgn (fun j => xs[j]?.getD 0) (fun i => twP (q i)) N) := IM.out.dgn
      generalize (fun j : Nat => xs[j]?.getD 0) = zM at UM_ GM
      have UM : Hid (URow w5_ (some ⟨gM, 0, none⟩) D D zM) := UM_
      clear IM RM UM_
      have DZM : Hid (∀ i, i < N → zM (i * N + i) % 9223372036854775808 ≠ 0) := fun i hi => by
        rw [GM.out i i hi hi, if_pos rfl]
        exact twP_mod (q i) (Nat.le_trans (QB.out i).2 (by decide))
      obtain ⟨M_0, M_1, M_2, M_3, M_4⟩ := M.out
      go_wp2_with fail
      refine (sTrmv a2 false (.pointer none) none 0 N N _ D D zM _ _ X _ (IsCalc.nil _ _) TM.out UM.out (Apt.nil _ _) UX.out (Apt.nil _ _)).mono ?_
      rintro e w6_ ⟨gb, rfl, _, hU_, _, hB_⟩
      have hb6_ := hB_.nil
      clear M_0 M_1 M_2 M_3 M_4
      replace BW : Hid (Below _ _ _) := bstep BW.out hb6_
      replace UX : Hid (URow _ _ _ _ _) := UX.out.below hb6_
      replace UA : Hid (URow _ _ _ _ _) := UA.out.below hb6_
      replace M : Hid (MBox _ _ _ _ _ _) := M.out.below hb6_
      replace UM : Hid (URow _ _ _ _ _) := UM.out.below hb6_
      clear hb6_
      have UB : Hid (URow w6_ (some ⟨gb, 0, none⟩) N N (tmV a2 false zM N N X)) := hU_
      clear hU_
      obtain ⟨M_0, M_1, M_2, M_3, M_4⟩ := M.out
      go_wp2_with fail
      refine (sTrsv a2 false (.pointer none) none 0 N N _ D D zM _ _ _ _ (IsCalc.nil _ _) TM.out UM.out (Apt.nil _ _) UB.out (Apt.nil _ _) (fun _ => DZM.out)).mono ?_
      rintro e w7_ ⟨gz, rfl, _, hU_, _, hB_⟩
      have hb7_ := hB_.nil
      clear M_0 M_1 M_2 M_3 M_4
      replace BW : Hid (Below _ _ _) := bstep BW.out hb7_
      replace UX : Hid (URow _ _ _ _ _) := UX.out.below hb7_
      replace UA : Hid (URow _ _ _ _ _) := UA.out.below hb7_
      replace M : Hid (MBox _ _ _ _ _ _) := M.out.below hb7_
      replace UM : Hid (URow _ _ _ _ _) := UM.out.below hb7_
      replace UB : Hid (URow _ _ _ _ _) := UB.out.below hb7_
      clear hb7_
      have UZ : Hid (URow w7_ (some ⟨gz, 0, none⟩) N N (svX a2 false zM N N (tmV a2 false zM N N X) N)) := hU_
      clear hU_
      have LZ : Hid (∀ k, k < N → Like (X k) (svX a2 false zM N N (tmV a2 false zM N N X) N k)) := fun k hk => pows_back a2 zM X q N GM.out (fun i _ => QB.out i) (fun k hk => ⟨(XR.out k).1, (XR.out k).2, OK.out k hk⟩) k hk
      have LA : Hid (∀ k, k < N → Like (X k) (svX a2 false zI N N X N k)) := fun k hk => one_back a2 zI X N GI.out (fun k hk => ⟨(XR.out k).1, (XR.out k).2, (OK.out k hk).fin⟩) k hk
      obtain ⟨Z, hZ⟩ : ∃ y, svX a2 false zM N N (tmV a2 false zM N N X) N = y := ⟨_, rfl⟩
      rw [hZ] at LZ UZ
      obtain ⟨A, hA⟩ : ∃ y, svX a2 false zI N N X N = y := ⟨_, rfl⟩
      rw [hA] at LA UA
      clear hZ hA
      clear UM UB M
      go_wp2_with fail
      go_loopw [127] (fun s127_ wr => ∃ (i : Nat) , s127_ = .int .i64 (i : Int) ∧ i ≤ N ∧ Hid (Below w.heap.size w wr) ∧ Hid (URow wr a0 N cap0 X) ∧ Hid (URow wr (some ⟨ga, 0, none⟩) N N A) ∧ Hid (URow wr (some ⟨gz, 0, none⟩) N N Z)) (fun s127_ _ => N - (intOf s127_).toNat)
      case atStart => exact ⟨0, rfl, Nat.zero_le _, BW, UX, UA, UZ⟩
      case round =>
        clear BW UX UA UZ
        obtain ⟨i, rfl, hi_, BW, UX, UA, UZ⟩ := hrel
        obtain ⟨w8_, rfl⟩ : ∃ x, x = wr := ⟨wr, rfl⟩
        by_cases hlt : (i : Int) < (N : Int)
        · skip
          obtain ⟨l1_, q1⟩ := UA.out.cellg i (by omega)
          obtain ⟨l2_, q2⟩ := UZ.out.cellg i (by omega)
          obtain ⟨b, o, rfl, hb, hcell⟩ := UX.out.2.2.2 (by omega)
          have q3 := hcell i (by omega)
          clear hcell
          obtain ⟨x0, x1⟩ := XR.out i
          have la := LA.out i (by omega)
          have lz := LZ.out i (by omega)
          obtain ⟨x, hx⟩ : ∃ v, X i = v := ⟨_, rfl⟩
          obtain ⟨a, ha⟩ : ∃ v, A i = v := ⟨_, rfl⟩
          obtain ⟨z, hz⟩ : ∃ v, Z i = v := ⟨_, rfl⟩
          rw [hx] at q3 x0 x1 la lz
          rw [ha] at q1 la
          rw [hz] at q2 lz
          clear hx ha hz
          have ka : a = x ∨ (¬ a = x ∧ (a == x) = false ∧ (a != x) = true ∧ x % 9223372036854775808 = 0) := by
            by_cases g : a = x
            · exact .inl g
            · rcases la with e | ⟨m, _⟩
              · exact absurd e g
              · exact .inr ⟨g, by rw [beq_eq_false_iff_ne]; exact g, by rw [bne_iff_ne]; exact g, zero_pat x m⟩
          have kz : z = x ∨ (¬ z = x ∧ (z == x) = false ∧ (z != x) = true ∧ x % 9223372036854775808 = 0) := by
            by_cases g : z = x
            · exact .inl g
            · rcases lz with e | ⟨m, _⟩
              · exact absurd e g
              · exact .inr ⟨g, by rw [beq_eq_false_iff_ne]; exact g, by rw [bne_iff_ne]; exact g, zero_pat x m⟩
          clear la lz
          go_wp2_with fail
          rcases ka with rfl | ⟨na, na2, na3, xa⟩ <;> rcases kz with rfl | ⟨nz, nz2, nz3, xz⟩
          · skip
            refine wp_region_noPanic ?_
            refine wp_region_held_drew (S := (fun w' => (w'.cell? ⟨ga, i, none⟩ = some (.int .u64 z)) ∧ (w'.cell? ⟨gz, i, none⟩ = some (.int .u64 z)) ∧ (w'.cell? ⟨b, o + i, none⟩ = some (.int .u64 z)))) (by kernel_rfl) ⟨q1, q2, q3⟩ (fun hHeld => ?_)
            refine wpAnyH_take (i := 0) (oi := ({ dst := some 130, op := Op.move (Operand.tmp 8), type := _, pos := _, after := _, guard := none } : Oper)) (v := ?_) rfl (by kernel_rfl) (by kernel_rfl) (by kernel_rfl) (fun _ _ _ h => h) (Or.inl ⟨by rfl, ?_⟩) (by assumption) ?_
            rotate_left
            · intro w' hSw; (try dsimp only at hSw); go_simp <;> (try with_reducible rfl)
            (try simp only [Act.put, List.setIfInBounds_toArray, List.set_cons_zero, List.set_cons_succ])
            refine wpAnyH_take (i := 1) (oi := ({ dst := some 131, op := Op.move (Operand.tmp 19), type := _, pos := _, after := _, guard := none } : Oper)) (v := ?_) rfl (by kernel_rfl) (by kernel_rfl) (by kernel_rfl) (fun _ _ _ h => h) (Or.inl ⟨by rfl, ?_⟩) (by assumption) ?_
            rotate_left
            · intro w' hSw; (try dsimp only at hSw); go_simp <;> (try with_reducible rfl)
            (try simp only [Act.put, List.setIfInBounds_toArray, List.set_cons_zero, List.set_cons_succ])
            refine wpAnyH_take (i := 2) (oi := ({ dst := some 132, op := Op.indexAddr _ (Operand.tmp 130) (Operand.tmp 131), type := _, pos := _, after := _, guard := none } : Oper)) (v := ?_) rfl (by kernel_rfl) (by kernel_rfl) (by kernel_rfl) (fun _ _ _ h => h) (Or.inl ⟨by rfl, ?_⟩) (by assumption) ?_
            rotate_left
            · intro w' hSw; (try dsimp only at hSw); go_simp <;> (try with_reducible rfl)
            (try simp only [Act.put, List.setIfInBounds_toArray, List.set_cons_zero, List.set_cons_succ])
            refine wpAnyH_take (i := 3) (oi := ({ dst := some 133, op := Op.load _ (Operand.tmp 132), type := _, pos := _, after := _, guard := none } : Oper)) (v := ?_) rfl (by kernel_rfl) (by kernel_rfl) (by kernel_rfl) (fun _ _ _ h => h) (Or.inl ⟨by rfl, ?_⟩) (by assumption) ?_
            rotate_left
            · intro w' hSw; (try dsimp only at hSw); go_simp <;> (try with_reducible rfl)
            (try simp only [Act.put, List.setIfInBounds_toArray, List.set_cons_zero, List.set_cons_succ])
            refine wpAnyH_take (i := 4) (oi := ({ dst := some 134, op := Op.move (Operand.tmp 0), type := _, pos := _, after := _, guard := none } : Oper)) (v := ?_) rfl (by kernel_rfl) (by kernel_rfl) (by kernel_rfl) (fun _ _ _ h => h) (Or.inl ⟨by rfl, ?_⟩) (by assumption) ?_
            rotate_left
            · intro w' hSw; (try dsimp only at hSw); go_simp <;> (try with_reducible rfl)
            (try simp only [Act.put, List.setIfInBounds_toArray, List.set_cons_zero, List.set_cons_succ])
            refine wpAnyH_take (i := 5) (oi := ({ dst := some 135, op := Op.move (Operand.tmp 19), type := _, pos := _, after := _, guard := none } : Oper)) (v := ?_) rfl (by kernel_rfl) (by kernel_rfl) (by kernel_rfl) (fun _ _ _ h => h) (Or.inl ⟨by rfl, ?_⟩) (by assumption) ?_
            rotate_left
            · intro w' hSw; (try dsimp only at hSw); go_simp <;> (try with_reducible rfl)
            (try simp only [Act.put, List.setIfInBounds_toArray, List.set_cons_zero, List.set_cons_succ])
            refine wpAnyH_take (i := 6) (oi := ({ dst := some 136, op := Op.indexAddr _ (Operand.tmp 134) (Operand.tmp 135), type := _, pos := _, after := _, guard := none } : Oper)) (v := ?_) rfl (by kernel_rfl) (by kernel_rfl) (by kernel_rfl) (fun _ _ _ h => h) (Or.inl ⟨by rfl, ?_⟩) (by assumption) ?_
            rotate_left
            · intro w' hSw; (try dsimp only at hSw); go_simp <;> (try with_reducible rfl)
            (try simp only [Act.put, List.setIfInBounds_toArray, List.set_cons_zero, List.set_cons_succ])
            refine wpAnyH_take (i := 7) (oi := ({ dst := some 137, op := Op.load _ (Operand.tmp 136), type := _, pos := _, after := _, guard := none } : Oper)) (v := ?_) rfl (by kernel_rfl) (by kernel_rfl) (by kernel_rfl) (fun _ _ _ h => h) (Or.inl ⟨by rfl, ?_⟩) (by assumption) ?_
            rotate_left
            · intro w' hSw; (try dsimp only at hSw); go_simp <;> (try with_reducible rfl)
            (try simp only [Act.put, List.setIfInBounds_toArray, List.set_cons_zero, List.set_cons_succ])
            refine wpAnyH_take (i := 8) (oi := ({ dst := some 138, op := Op.binOp BinOp.neq _ (Operand.tmp 133) (Operand.tmp 137) _, type := _, pos := _, after := _, guard := none } : Oper)) (v := ?_) rfl (by kernel_rfl) (by kernel_rfl) (by kernel_rfl) (fun _ _ _ h => h) (Or.inl ⟨by rfl, ?_⟩) (by assumption) ?_
            rotate_left
            · intro w' hSw; (try dsimp only at hSw); go_simp <;> (try with_reducible rfl)
            (try simp only [Act.put, List.setIfInBounds_toArray, List.set_cons_zero, List.set_cons_succ])
            refine wpAnyH_take (i := 9) (oi := ({ dst := some 139, op := Op.move (Operand.tmp 138), type := _, pos := _, after := _, guard := none } : Oper)) (v := ?_) rfl (by kernel_rfl) (by kernel_rfl) (by kernel_rfl) (fun _ _ _ h => h) (Or.inl ⟨by rfl, ?_⟩) (by assumption) ?_
            rotate_left
            · intro w' hSw; (try dsimp only at hSw); go_simp <;> (try with_reducible rfl)
            (try simp only [Act.put, List.setIfInBounds_toArray, List.set_cons_zero, List.set_cons_succ])
            refine wpAnyH_take (i := 10) (oi := ({ dst := some 140, op := Op.move (Operand.tmp 0), type := _, pos := _, after := _, guard := some (9, true) } : Oper)) (v := undef) rfl (by kernel_rfl) (by kernel_rfl) (by kernel_rfl) (fun _ _ _ h => h) (Or.inr ⟨by kernel_rfl, rfl⟩) (by assumption) ?_
            (try simp only [Act.put, List.setIfInBounds_toArray, List.set_cons_zero, List.set_cons_succ])
            refine wpAnyH_take (i := 11) (oi := ({ dst := some 141, op := Op.move (Operand.tmp 19), type := _, pos := _, after := _, guard := some (9, true) } : Oper)) (v := undef) rfl (by kernel_rfl) (by kernel_rfl) (by kernel_rfl) (fun _ _ _ h => h) (Or.inr ⟨by kernel_rfl, rfl⟩) (by assumption) ?_
            (try simp only [Act.put, List.setIfInBounds_toArray, List.set_cons_zero, List.set_cons_succ])
            refine wpAnyH_take (i := 12) (oi := ({ dst := some 142, op := Op.indexAddr _ (Operand.tmp 140) (Operand.tmp 141), type := _, pos := _, after := _, guard := some (9, true) } : Oper)) (v := undef) rfl (by kernel_rfl) (by kernel_rfl) (by kernel_rfl) (fun _ _ _ h => h) (Or.inr ⟨by kernel_rfl, rfl⟩) (by assumption) ?_
            (try simp only [Act.put, List.setIfInBounds_toArray, List.set_cons_zero, List.set_cons_succ])
            refine wpAnyH_take (i := 13) (oi := ({ dst := some 143, op := Op.load _ (Operand.tmp 142), type := _, pos := _, after := _, guard := some (9, true) } : Oper)) (v := undef) rfl (by kernel_rfl) (by kernel_rfl) (by kernel_rfl) (fun _ _ _ h => h) (Or.inr ⟨by kernel_rfl, rfl⟩) (by assumption) ?_
            (try simp only [Act.put, List.setIfInBounds_toArray, List.set_cons_zero, List.set_cons_succ])
            refine wpAnyH_take (i := 14) (oi := ({ dst := some 144, op := Op.call { callee := Callee.value (Operand.func _), args := #[Operand.tmp 143], argTypes := _ }, type := _, pos := _, after := _, guard := some (9, true) } : Oper)) (v := undef) rfl (by kernel_rfl) (by kernel_rfl) (by kernel_rfl) (fun _ _ _ h => h) (Or.inr ⟨by kernel_rfl, rfl⟩) (by assumption) ?_
            (try simp only [Act.put, List.setIfInBounds_toArray, List.set_cons_zero, List.set_cons_succ])
            refine wpAnyH_take (i := 15) (oi := ({ dst := some 145, op := Op.binOp BinOp.neq _ (Operand.tmp 144) (Operand.const (Value.int IntKind.u64 0)) _, type := _, pos := _, after := _, guard := some (9, true) } : Oper)) (v := undef) rfl (by kernel_rfl) (by kernel_rfl) (by kernel_rfl) (fun _ _ _ h => h) (Or.inr ⟨by kernel_rfl, rfl⟩) (by assumption) ?_
            (try simp only [Act.put, List.setIfInBounds_toArray, List.set_cons_zero, List.set_cons_succ])
            refine wpAnyH_take (i := 16) (oi := ({ dst := some 146, op := Op.pick (Operand.tmp 139) (Operand.tmp 145) (Operand.const (Value.bool false)), type := _, pos := _, after := _, guard := none } : Oper)) (v := ?_) rfl (by kernel_rfl) (by kernel_rfl) (by kernel_rfl) (fun _ _ _ h => h) (Or.inl ⟨by rfl, ?_⟩) (by assumption) ?_
            rotate_left
            · intro w' hSw; (try dsimp only at hSw); go_simp <;> (try with_reducible rfl)
            (try simp only [Act.put, List.setIfInBounds_toArray, List.set_cons_zero, List.set_cons_succ])
            refine wpAnyH_take (i := 17) (oi := ({ dst := some 147, op := Op.move (Operand.tmp 146), type := _, pos := _, after := _, guard := none } : Oper)) (v := ?_) rfl (by kernel_rfl) (by kernel_rfl) (by kernel_rfl) (fun _ _ _ h => h) (Or.inl ⟨by rfl, ?_⟩) (by assumption) ?_
            rotate_left
            · intro w' hSw; (try dsimp only at hSw); go_simp <;> (try with_reducible rfl)
            (try simp only [Act.put, List.setIfInBounds_toArray, List.set_cons_zero, List.set_cons_succ])
            refine wpAnyH_take (i := 18) (oi := ({ dst := some 148, op := Op.move (Operand.tmp 17), type := _, pos := _, after := _, guard := some (17, false) } : Oper)) (v := ?_) rfl (by kernel_rfl) (by kernel_rfl) (by kernel_rfl) (fun _ _ _ h => h) (Or.inl ⟨by rfl, ?_⟩) (by assumption) ?_
            rotate_left
            · intro w' hSw; (try dsimp only at hSw); go_simp <;> (try with_reducible rfl)
            (try simp only [Act.put, List.setIfInBounds_toArray, List.set_cons_zero, List.set_cons_succ])
            refine wpAnyH_take (i := 19) (oi := ({ dst := some 149, op := Op.move (Operand.tmp 19), type := _, pos := _, after := _, guard := some (17, false) } : Oper)) (v := ?_) rfl (by kernel_rfl) (by kernel_rfl) (by kernel_rfl) (fun _ _ _ h => h) (Or.inl ⟨by rfl, ?_⟩) (by assumption) ?_
            rotate_left
            · intro w' hSw; (try dsimp only at hSw); go_simp <;> (try with_reducible rfl)
            (try simp only [Act.put, List.setIfInBounds_toArray, List.set_cons_zero, List.set_cons_succ])
            refine wpAnyH_take (i := 20) (oi := ({ dst := some 150, op := Op.indexAddr _ (Operand.tmp 148) (Operand.tmp 149), type := _, pos := _, after := _, guard := some (17, false) } : Oper)) (v := ?_) rfl (by kernel_rfl) (by kernel_rfl) (by kernel_rfl) (fun _ _ _ h => h) (Or.inl ⟨by rfl, ?_⟩) (by assumption) ?_
            rotate_left
            · intro w' hSw; (try dsimp only at hSw); go_simp <;> (try with_reducible rfl)
            (try simp only [Act.put, List.setIfInBounds_toArray, List.set_cons_zero, List.set_cons_succ])
            refine wpAnyH_take (i := 21) (oi := ({ dst := some 151, op := Op.load _ (Operand.tmp 150), type := _, pos := _, after := _, guard := some (17, false) } : Oper)) (v := ?_) rfl (by kernel_rfl) (by kernel_rfl) (by kernel_rfl) (fun _ _ _ h => h) (Or.inl ⟨by rfl, ?_⟩) (by assumption) ?_
            rotate_left
            · intro w' hSw; (try dsimp only at hSw); go_simp <;> (try with_reducible rfl)
            (try simp only [Act.put, List.setIfInBounds_toArray, List.set_cons_zero, List.set_cons_succ])
            refine wpAnyH_take (i := 22) (oi := ({ dst := some 152, op := Op.move (Operand.tmp 0), type := _, pos := _, after := _, guard := some (17, false) } : Oper)) (v := ?_) rfl (by kernel_rfl) (by kernel_rfl) (by kernel_rfl) (fun _ _ _ h => h) (Or.inl ⟨by rfl, ?_⟩) (by assumption) ?_
            rotate_left
            · intro w' hSw; (try dsimp only at hSw); go_simp <;> (try with_reducible rfl)
            (try simp only [Act.put, List.setIfInBounds_toArray, List.set_cons_zero, List.set_cons_succ])
            refine wpAnyH_take (i := 23) (oi := ({ dst := some 153, op := Op.move (Operand.tmp 19), type := _, pos := _, after := _, guard := some (17, false) } : Oper)) (v := ?_) rfl (by kernel_rfl) (by kernel_rfl) (by kernel_rfl) (fun _ _ _ h => h) (Or.inl ⟨by rfl, ?_⟩) (by assumption) ?_
            rotate_left
            · intro w' hSw; (try dsimp only at hSw); go_simp <;> (try with_reducible rfl)
            (try simp only [Act.put, List.setIfInBounds_toArray, List.set_cons_zero, List.set_cons_succ])
            refine wpAnyH_take (i := 24) (oi := ({ dst := some 154, op := Op.indexAddr _ (Operand.tmp 152) (Operand.tmp 153), type := _, pos := _, after := _, guard := some (17, false) } : Oper)) (v := ?_) rfl (by kernel_rfl) (by kernel_rfl) (by kernel_rfl) (fun _ _ _ h => h) (Or.inl ⟨by rfl, ?_⟩) (by assumption) ?_
            rotate_left
            · intro w' hSw; (try dsimp only at hSw); go_simp <;> (try with_reducible rfl)
            (try simp only [Act.put, List.setIfInBounds_toArray, List.set_cons_zero, List.set_cons_succ])
            refine wpAnyH_take (i := 25) (oi := ({ dst := some 155, op := Op.load _ (Operand.tmp 154), type := _, pos := _, after := _, guard := some (17, false) } : Oper)) (v := ?_) rfl (by kernel_rfl) (by kernel_rfl) (by kernel_rfl) (fun _ _ _ h => h) (Or.inl ⟨by rfl, ?_⟩) (by assumption) ?_
            rotate_left
            · intro w' hSw; (try dsimp only at hSw); go_simp <;> (try with_reducible rfl)
            (try simp only [Act.put, List.setIfInBounds_toArray, List.set_cons_zero, List.set_cons_succ])
            refine wpAnyH_take (i := 26) (oi := ({ dst := some 156, op := Op.binOp BinOp.neq _ (Operand.tmp 151) (Operand.tmp 155) _, type := _, pos := _, after := _, guard := some (17, false) } : Oper)) (v := ?_) rfl (by kernel_rfl) (by kernel_rfl) (by kernel_rfl) (fun _ _ _ h => h) (Or.inl ⟨by rfl, ?_⟩) (by assumption) ?_
            rotate_left
            · intro w' hSw; (try dsimp only at hSw); go_simp <;> (try with_reducible rfl)
            (try simp only [Act.put, List.setIfInBounds_toArray, List.set_cons_zero, List.set_cons_succ])
            refine wpAnyH_take (i := 27) (oi := ({ dst := some 157, op := Op.move (Operand.tmp 156), type := _, pos := _, after := _, guard := some (17, false) } : Oper)) (v := ?_) rfl (by kernel_rfl) (by kernel_rfl) (by kernel_rfl) (fun _ _ _ h => h) (Or.inl ⟨by rfl, ?_⟩) (by assumption) ?_
            rotate_left
            · intro w' hSw; (try dsimp only at hSw); go_simp <;> (try with_reducible rfl)
            (try simp only [Act.put, List.setIfInBounds_toArray, List.set_cons_zero, List.set_cons_succ])
            refine wpAnyH_take (i := 28) (oi := ({ dst := some 158, op := Op.move (Operand.tmp 0), type := _, pos := _, after := _, guard := some (27, true) } : Oper)) (v := undef) rfl (by kernel_rfl) (by kernel_rfl) (by kernel_rfl) (fun _ _ _ h => h) (Or.inr ⟨by kernel_rfl, rfl⟩) (by assumption) ?_
            (try simp only [Act.put, List.setIfInBounds_toArray, List.set_cons_zero, List.set_cons_succ])
            refine wpAnyH_take (i := 29) (oi := ({ dst := some 159, op := Op.move (Operand.tmp 19), type := _, pos := _, after := _, guard := some (27, true) } : Oper)) (v := undef) rfl (by kernel_rfl) (by kernel_rfl) (by kernel_rfl) (fun _ _ _ h => h) (Or.inr ⟨by kernel_rfl, rfl⟩) (by assumption) ?_
            (try simp only [Act.put, List.setIfInBounds_toArray, List.set_cons_zero, List.set_cons_succ])
            refine wpAnyH_take (i := 30) (oi := ({ dst := some 160, op := Op.indexAddr _ (Operand.tmp 158) (Operand.tmp 159), type := _, pos := _, after := _, guard := some (27, true) } : Oper)) (v := undef) rfl (by kernel_rfl) (by kernel_rfl) (by kernel_rfl) (fun _ _ _ h => h) (Or.inr ⟨by kernel_rfl, rfl⟩) (by assumption) ?_
            (try simp only [Act.put, List.setIfInBounds_toArray, List.set_cons_zero, List.set_cons_succ])
            refine wpAnyH_take (i := 31) (oi := ({ dst := some 161, op := Op.load _ (Operand.tmp 160), type := _, pos := _, after := _, guard := some (27, true) } : Oper)) (v := undef) rfl (by kernel_rfl) (by kernel_rfl) (by kernel_rfl) (fun _ _ _ h => h) (Or.inr ⟨by kernel_rfl, rfl⟩) (by assumption) ?_
            (try simp only [Act.put, List.setIfInBounds_toArray, List.set_cons_zero, List.set_cons_succ])
            refine wpAnyH_take (i := 32) (oi := ({ dst := some 162, op := Op.call { callee := Callee.value (Operand.func _), args := #[Operand.tmp 161], argTypes := _ }, type := _, pos := _, after := _, guard := some (27, true) } : Oper)) (v := undef) rfl (by kernel_rfl) (by kernel_rfl) (by kernel_rfl) (fun _ _ _ h => h) (Or.inr ⟨by kernel_rfl, rfl⟩) (by assumption) ?_
            (try simp only [Act.put, List.setIfInBounds_toArray, List.set_cons_zero, List.set_cons_succ])
            refine wpAnyH_take (i := 33) (oi := ({ dst := some 163, op := Op.binOp BinOp.neq _ (Operand.tmp 162) (Operand.const (Value.int IntKind.u64 0)) _, type := _, pos := _, after := _, guard := some (27, true) } : Oper)) (v := undef) rfl (by kernel_rfl) (by kernel_rfl) (by kernel_rfl) (fun _ _ _ h => h) (Or.inr ⟨by kernel_rfl, rfl⟩) (by assumption) ?_
            (try simp only [Act.put, List.setIfInBounds_toArray, List.set_cons_zero, List.set_cons_succ])
            refine wpAnyH_take (i := 34) (oi := ({ dst := some 164, op := Op.pick (Operand.tmp 157) (Operand.tmp 163) (Operand.const (Value.bool false)), type := _, pos := _, after := _, guard := some (17, false) } : Oper)) (v := ?_) rfl (by kernel_rfl) (by kernel_rfl) (by kernel_rfl) (fun _ _ _ h => h) (Or.inl ⟨by rfl, ?_⟩) (by assumption) ?_
            rotate_left
            · intro w' hSw; (try dsimp only at hSw); go_simp <;> (try with_reducible rfl)
            (try simp only [Act.put, List.setIfInBounds_toArray, List.set_cons_zero, List.set_cons_succ])
            refine wpAnyH_take (i := 35) (oi := ({ dst := some 165, op := Op.pick (Operand.tmp 147) (Operand.const (Value.bool true)) (Operand.tmp 164), type := _, pos := _, after := _, guard := none } : Oper)) (v := ?_) rfl (by kernel_rfl) (by kernel_rfl) (by kernel_rfl) (fun _ _ _ h => h) (Or.inl ⟨by rfl, ?_⟩) (by assumption) ?_
            rotate_left
            · intro w' hSw; (try dsimp only at hSw); go_simp <;> (try with_reducible rfl)
            (try simp only [Act.put, List.setIfInBounds_toArray, List.set_cons_zero, List.set_cons_succ])
            refine wpAnyH_done (by kernel_rfl) ?_ _
            refine NoPanic.normal ?_
            have hb_ : Below w8_.heap.size w8_ w8_.drew := (Below.refl _ _).drew
            generalize w8_.drew = w200_ at hb_ ⊢
            replace BW : Hid (Below _ _ _) := bstep BW.out hb_
            replace UX : Hid (URow _ _ _ _ _) := UX.out.below hb_
            replace UA : Hid (URow _ _ _ _ _) := UA.out.below hb_
            replace UZ : Hid (URow _ _ _ _ _) := UZ.out.below hb_
            clear hb_ hHeld
            go_wp2
            go_roundw
            case rel => exact ⟨i + 1, by go_num, by omega, BW, UX, UA, UZ⟩
            case measure => simp [intOf]; omega
          · skip
            refine wp_region_noPanic ?_
            refine wp_region_held_drew (S := (fun w' => (w'.cell? ⟨ga, i, none⟩ = some (.int .u64 a)) ∧ (w'.cell? ⟨gz, i, none⟩ = some (.int .u64 z)) ∧ (w'.cell? ⟨b, o + i, none⟩ = some (.int .u64 a)))) (by kernel_rfl) ⟨q1, q2, q3⟩ (fun hHeld => ?_)
            refine wpAnyH_take (i := 0) (oi := ({ dst := some 130, op := Op.move (Operand.tmp 8), type := _, pos := _, after := _, guard := none } : Oper)) (v := ?_) rfl (by kernel_rfl) (by kernel_rfl) (by kernel_rfl) (fun _ _ _ h => h) (Or.inl ⟨by rfl, ?_⟩) (by assumption) ?_
            rotate_left
            · intro w' hSw; (try dsimp only at hSw); go_simp <;> (try with_reducible rfl)
            (try simp only [Act.put, List.setIfInBounds_toArray, List.set_cons_zero, List.set_cons_succ])
            refine wpAnyH_take (i := 1) (oi := ({ dst := some 131, op := Op.move (Operand.tmp 19), type := _, pos := _, after := _, guard := none } : Oper)) (v := ?_) rfl (by kernel_rfl) (by kernel_rfl) (by kernel_rfl) (fun _ _ _ h => h) (Or.inl ⟨by rfl, ?_⟩) (by assumption) ?_
            rotate_left
            · intro w' hSw; (try dsimp only at hSw); go_simp <;> (try with_reducible rfl)
            (try simp only [Act.put, List.setIfInBounds_toArray, List.set_cons_zero, List.set_cons_succ])
            refine wpAnyH_take (i := 2) (oi := ({ dst := some 132, op := Op.indexAddr _ (Operand.tmp 130) (Operand.tmp 131), type := _, pos := _, after := _, guard := none } : Oper)) (v := ?_) rfl (by kernel_rfl) (by kernel_rfl) (by kernel_rfl) (fun _ _ _ h => h) (Or.inl ⟨by rfl, ?_⟩) (by assumption) ?_
            rotate_left
            · intro w' hSw; (try dsimp only at hSw); go_simp <;> (try with_reducible rfl)
            (try simp only [Act.put, List.setIfInBounds_toArray, List.set_cons_zero, List.set_cons_succ])
            refine wpAnyH_take (i := 3) (oi := ({ dst := some 133, op := Op.load _ (Operand.tmp 132), type := _, pos := _, after := _, guard := none } : Oper)) (v := ?_) rfl (by kernel_rfl) (by kernel_rfl) (by kernel_rfl) (fun _ _ _ h => h) (Or.inl ⟨by rfl, ?_⟩) (by assumption) ?_
            rotate_left
            · intro w' hSw; (try dsimp only at hSw); go_simp <;> (try with_reducible rfl)
            (try simp only [Act.put, List.setIfInBounds_toArray, List.set_cons_zero, List.set_cons_succ])
            refine wpAnyH_take (i := 4) (oi := ({ dst := some 134, op := Op.move (Operand.tmp 0), type := _, pos := _, after := _, guard := none } : Oper)) (v := ?_) rfl (by kernel_rfl) (by kernel_rfl) (by kernel_rfl) (fun _ _ _ h => h) (Or.inl ⟨by rfl, ?_⟩) (by assumption) ?_
            rotate_left
            · intro w' hSw; (try dsimp only at hSw); go_simp <;> (try with_reducible rfl)
            (try simp only [Act.put, List.setIfInBounds_toArray, List.set_cons_zero, List.set_cons_succ])
            refine wpAnyH_take (i := 5) (oi := ({ dst := some 135, op := Op.move (Operand.tmp 19), type := _, pos := _, after := _, guard := none } : Oper)) (v := ?_) rfl (by kernel_rfl) (by kernel_rfl) (by kernel_rfl) (fun _ _ _ h => h) (Or.inl ⟨by rfl, ?_⟩) (by assumption) ?_
            rotate_left
            · intro w' hSw; (try dsimp only at hSw); go_simp <;> (try with_reducible rfl)
            (try simp only [Act.put, List.setIfInBounds_toArray, List.set_cons_zero, List.set_cons_succ])
            refine wpAnyH_take (i := 6) (oi := ({ dst := some 136, op := Op.indexAddr _ (Operand.tmp 134) (Operand.tmp 135), type := _, pos := _, after := _, guard := none } : Oper)) (v := ?_) rfl (by kernel_rfl) (by kernel_rfl) (by kernel_rfl) (fun _ _ _ h => h) (Or.inl ⟨by rfl, ?_⟩) (by assumption) ?_
            rotate_left
            · intro w' hSw; (try dsimp only at hSw); go_simp <;> (try with_reducible rfl)
            (try simp only [Act.put, List.setIfInBounds_toArray, List.set_cons_zero, List.set_cons_succ])
            refine wpAnyH_take (i := 7) (oi := ({ dst := some 137, op := Op.load _ (Operand.tmp 136), type := _, pos := _, after := _, guard := none } : Oper)) (v := ?_) rfl (by kernel_rfl) (by kernel_rfl) (by kernel_rfl) (fun _ _ _ h => h) (Or.inl ⟨by rfl, ?_⟩) (by assumption) ?_
            rotate_left
            · intro w' hSw; (try dsimp only at hSw); go_simp <;> (try with_reducible rfl)
            (try simp only [Act.put, List.setIfInBounds_toArray, List.set_cons_zero, List.set_cons_succ])
            refine wpAnyH_take (i := 8) (oi := ({ dst := some 138, op := Op.binOp BinOp.neq _ (Operand.tmp 133) (Operand.tmp 137) _, type := _, pos := _, after := _, guard := none } : Oper)) (v := ?_) rfl (by kernel_rfl) (by kernel_rfl) (by kernel_rfl) (fun _ _ _ h => h) (Or.inl ⟨by rfl, ?_⟩) (by assumption) ?_
            rotate_left
            · intro w' hSw; (try dsimp only at hSw); go_simp <;> (try with_reducible rfl)
            (try simp only [Act.put, List.setIfInBounds_toArray, List.set_cons_zero, List.set_cons_succ])
            refine wpAnyH_take (i := 9) (oi := ({ dst := some 139, op := Op.move (Operand.tmp 138), type := _, pos := _, after := _, guard := none } : Oper)) (v := ?_) rfl (by kernel_rfl) (by kernel_rfl) (by kernel_rfl) (fun _ _ _ h => h) (Or.inl ⟨by rfl, ?_⟩) (by assumption) ?_
            rotate_left
            · intro w' hSw; (try dsimp only at hSw); go_simp <;> (try with_reducible rfl)
            (try simp only [Act.put, List.setIfInBounds_toArray, List.set_cons_zero, List.set_cons_succ])
            refine wpAnyH_take (i := 10) (oi := ({ dst := some 140, op := Op.move (Operand.tmp 0), type := _, pos := _, after := _, guard := some (9, true) } : Oper)) (v := undef) rfl (by kernel_rfl) (by kernel_rfl) (by kernel_rfl) (fun _ _ _ h => h) (Or.inr ⟨by kernel_rfl, rfl⟩) (by assumption) ?_
            (try simp only [Act.put, List.setIfInBounds_toArray, List.set_cons_zero, List.set_cons_succ])
            refine wpAnyH_take (i := 11) (oi := ({ dst := some 141, op := Op.move (Operand.tmp 19), type := _, pos := _, after := _, guard := some (9, true) } : Oper)) (v := undef) rfl (by kernel_rfl) (by kernel_rfl) (by kernel_rfl) (fun _ _ _ h => h) (Or.inr ⟨by kernel_rfl, rfl⟩) (by assumption) ?_
            (try simp only [Act.put, List.setIfInBounds_toArray, List.set_cons_zero, List.set_cons_succ])
            refine wpAnyH_take (i := 12) (oi := ({ dst := some 142, op := Op.indexAddr _ (Operand.tmp 140) (Operand.tmp 141), type := _, pos := _, after := _, guard := some (9, true) } : Oper)) (v := undef) rfl (by kernel_rfl) (by kernel_rfl) (by kernel_rfl) (fun _ _ _ h => h) (Or.inr ⟨by kernel_rfl, rfl⟩) (by assumption) ?_
            (try simp only [Act.put, List.setIfInBounds_toArray, List.set_cons_zero, List.set_cons_succ])
            refine wpAnyH_take (i := 13) (oi := ({ dst := some 143, op := Op.load _ (Operand.tmp 142), type := _, pos := _, after := _, guard := some (9, true) } : Oper)) (v := undef) rfl (by kernel_rfl) (by kernel_rfl) (by kernel_rfl) (fun _ _ _ h => h) (Or.inr ⟨by kernel_rfl, rfl⟩) (by assumption) ?_
            (try simp only [Act.put, List.setIfInBounds_toArray, List.set_cons_zero, List.set_cons_succ])
            refine wpAnyH_take (i := 14) (oi := ({ dst := some 144, op := Op.call { callee := Callee.value (Operand.func _), args := #[Operand.tmp 143], argTypes := _ }, type := _, pos := _, after := _, guard := some (9, true) } : Oper)) (v := undef) rfl (by kernel_rfl) (by kernel_rfl) (by kernel_rfl) (fun _ _ _ h => h) (Or.inr ⟨by kernel_rfl, rfl⟩) (by assumption) ?_
            (try simp only [Act.put, List.setIfInBounds_toArray, List.set_cons_zero, List.set_cons_succ])
            refine wpAnyH_take (i := 15) (oi := ({ dst := some 145, op := Op.binOp BinOp.neq _ (Operand.tmp 144) (Operand.const (Value.int IntKind.u64 0)) _, type := _, pos := _, after := _, guard := some (9, true) } : Oper)) (v := undef) rfl (by kernel_rfl) (by kernel_rfl) (by kernel_rfl) (fun _ _ _ h => h) (Or.inr ⟨by kernel_rfl, rfl⟩) (by assumption) ?_
            (try simp only [Act.put, List.setIfInBounds_toArray, List.set_cons_zero, List.set_cons_succ])
            refine wpAnyH_take (i := 16) (oi := ({ dst := some 146, op := Op.pick (Operand.tmp 139) (Operand.tmp 145) (Operand.const (Value.bool false)), type := _, pos := _, after := _, guard := none } : Oper)) (v := ?_) rfl (by kernel_rfl) (by kernel_rfl) (by kernel_rfl) (fun _ _ _ h => h) (Or.inl ⟨by rfl, ?_⟩) (by assumption) ?_
            rotate_left
            · intro w' hSw; (try dsimp only at hSw); go_simp <;> (try with_reducible rfl)
            (try simp only [Act.put, List.setIfInBounds_toArray, List.set_cons_zero, List.set_cons_succ])
            refine wpAnyH_take (i := 17) (oi := ({ dst := some 147, op := Op.move (Operand.tmp 146), type := _, pos := _, after := _, guard := none } : Oper)) (v := ?_) rfl (by kernel_rfl) (by kernel_rfl) (by kernel_rfl) (fun _ _ _ h => h) (Or.inl ⟨by rfl, ?_⟩) (by assumption) ?_
            rotate_left
            · intro w' hSw; (try dsimp only at hSw); go_simp <;> (try with_reducible rfl)
            (try simp only [Act.put, List.setIfInBounds_toArray, List.set_cons_zero, List.set_cons_succ])
            refine wpAnyH_take (i := 18) (oi := ({ dst := some 148, op := Op.move (Operand.tmp 17), type := _, pos := _, after := _, guard := some (17, false) } : Oper)) (v := ?_) rfl (by kernel_rfl) (by kernel_rfl) (by kernel_rfl) (fun _ _ _ h => h) (Or.inl ⟨by rfl, ?_⟩) (by assumption) ?_
            rotate_left
            · intro w' hSw; (try dsimp only at hSw); go_simp <;> (try with_reducible rfl)
            (try simp only [Act.put, List.setIfInBounds_toArray, List.set_cons_zero, List.set_cons_succ])
            refine wpAnyH_take (i := 19) (oi := ({ dst := some 149, op := Op.move (Operand.tmp 19), type := _, pos := _, after := _, guard := some (17, false) } : Oper)) (v := ?_) rfl (by kernel_rfl) (by kernel_rfl) (by kernel_rfl) (fun _ _ _ h => h) (Or.inl ⟨by rfl, ?_⟩) (by assumption) ?_
            rotate_left
            · intro w' hSw; (try dsimp only at hSw); go_simp <;> (try with_reducible rfl)
            (try simp only [Act.put, List.setIfInBounds_toArray, List.set_cons_zero, List.set_cons_succ])
            refine wpAnyH_take (i := 20) (oi := ({ dst := some 150, op := Op.indexAddr _ (Operand.tmp 148) (Operand.tmp 149), type := _, pos := _, after := _, guard := some (17, false) } : Oper)) (v := ?_) rfl (by kernel_rfl) (by kernel_rfl) (by kernel_rfl) (fun _ _ _ h => h) (Or.inl ⟨by rfl, ?_⟩) (by assumption) ?_
            rotate_left
            · intro w' hSw; (try dsimp only at hSw); go_simp <;> (try with_reducible rfl)
            (try simp only [Act.put, List.setIfInBounds_toArray, List.set_cons_zero, List.set_cons_succ])
            refine wpAnyH_take (i := 21) (oi := ({ dst := some 151, op := Op.load _ (Operand.tmp 150), type := _, pos := _, after := _, guard := some (17, false) } : Oper)) (v := ?_) rfl (by kernel_rfl) (by kernel_rfl) (by kernel_rfl) (fun _ _ _ h => h) (Or.inl ⟨by rfl, ?_⟩) (by assumption) ?_
            rotate_left
            · intro w' hSw; (try dsimp only at hSw); go_simp <;> (try with_reducible rfl)
            (try simp only [Act.put, List.setIfInBounds_toArray, List.set_cons_zero, List.set_cons_succ])
            refine wpAnyH_take (i := 22) (oi := ({ dst := some 152, op := Op.move (Operand.tmp 0), type := _, pos := _, after := _, guard := some (17, false) } : Oper)) (v := ?_) rfl (by kernel_rfl) (by kernel_rfl) (by kernel_rfl) (fun _ _ _ h => h) (Or.inl ⟨by rfl, ?_⟩) (by assumption) ?_
            rotate_left
            · intro w' hSw; (try dsimp only at hSw); go_simp <;> (try with_reducible rfl)
            (try simp only [Act.put, List.setIfInBounds_toArray, List.set_cons_zero, List.set_cons_succ])
            refine wpAnyH_take (i := 23) (oi := ({ dst := some 153, op := Op.move (Operand.tmp 19), type := _, pos := _, after := _, guard := some (17, false) } : Oper)) (v := ?_) rfl (by kernel_rfl) (by kernel_rfl) (by kernel_rfl) (fun _ _ _ h => h) (Or.inl ⟨by rfl, ?_⟩) (by assumption) ?_
            rotate_left
            · intro w' hSw; (try dsimp only at hSw); go_simp <;> (try with_reducible rfl)
            (try simp only [Act.put, List.setIfInBounds_toArray, List.set_cons_zero, List.set_cons_succ])
            refine wpAnyH_take (i := 24) (oi := ({ dst := some 154, op := Op.indexAddr _ (Operand.tmp 152) (Operand.tmp 153), type := _, pos := _, after := _, guard := some (17, false) } : Oper)) (v := ?_) rfl (by kernel_rfl) (by kernel_rfl) (by kernel_rfl) (fun _ _ _ h => h) (Or.inl ⟨by rfl, ?_⟩) (by assumption) ?_
            rotate_left
            · intro w' hSw; (try dsimp only at hSw); go_simp <;> (try with_reducible rfl)
            (try simp only [Act.put, List.setIfInBounds_toArray, List.set_cons_zero, List.set_cons_succ])
            refine wpAnyH_take (i := 25) (oi := ({ dst := some 155, op := Op.load _ (Operand.tmp 154), type := _, pos := _, after := _, guard := some (17, false) } : Oper)) (v := ?_) rfl (by kernel_rfl) (by kernel_rfl) (by kernel_rfl) (fun _ _ _ h => h) (Or.inl ⟨by rfl, ?_⟩) (by assumption) ?_
            rotate_left
            · intro w' hSw; (try dsimp only at hSw); go_simp <;> (try with_reducible rfl)
            (try simp only [Act.put, List.setIfInBounds_toArray, List.set_cons_zero, List.set_cons_succ])
            refine wpAnyH_take (i := 26) (oi := ({ dst := some 156, op := Op.binOp BinOp.neq _ (Operand.tmp 151) (Operand.tmp 155) _, type := _, pos := _, after := _, guard := some (17, false) } : Oper)) (v := ?_) rfl (by kernel_rfl) (by kernel_rfl) (by kernel_rfl) (fun _ _ _ h => h) (Or.inl ⟨by rfl, ?_⟩) (by assumption) ?_
            rotate_left
            · intro w' hSw; (try dsimp only at hSw); go_simp <;> (try with_reducible rfl)
            (try simp only [Act.put, List.setIfInBounds_toArray, List.set_cons_zero, List.set_cons_succ])
            refine wpAnyH_take (i := 27) (oi := ({ dst := some 157, op := Op.move (Operand.tmp 156), type := _, pos := _, after := _, guard := some (17, false) } : Oper)) (v := ?_) rfl (by kernel_rfl) (by kernel_rfl) (by kernel_rfl) (fun _ _ _ h => h) (Or.inl ⟨by rfl, ?_⟩) (by assumption) ?_
            rotate_left
            · intro w' hSw; (try dsimp only at hSw); go_simp <;> (try with_reducible rfl)
            (try simp only [Act.put, List.setIfInBounds_toArray, List.set_cons_zero, List.set_cons_succ])
            refine wpAnyH_take (i := 28) (oi := ({ dst := some 158, op := Op.move (Operand.tmp 0), type := _, pos := _, after := _, guard := some (27, true) } : Oper)) (v := ?_) rfl (by kernel_rfl) (by kernel_rfl) (by kernel_rfl) (fun _ _ _ h => h) (Or.inl ⟨by rfl, ?_⟩) (by assumption) ?_
            rotate_left
            · intro w' hSw; (try dsimp only at hSw); go_simp <;> (try with_reducible rfl)
            (try simp only [Act.put, List.setIfInBounds_toArray, List.set_cons_zero, List.set_cons_succ])
            refine wpAnyH_take (i := 29) (oi := ({ dst := some 159, op := Op.move (Operand.tmp 19), type := _, pos := _, after := _, guard := some (27, true) } : Oper)) (v := ?_) rfl (by kernel_rfl) (by kernel_rfl) (by kernel_rfl) (fun _ _ _ h => h) (Or.inl ⟨by rfl, ?_⟩) (by assumption) ?_
            rotate_left
            · intro w' hSw; (try dsimp only at hSw); go_simp <;> (try with_reducible rfl)
            (try simp only [Act.put, List.setIfInBounds_toArray, List.set_cons_zero, List.set_cons_succ])
            refine wpAnyH_take (i := 30) (oi := ({ dst := some 160, op := Op.indexAddr _ (Operand.tmp 158) (Operand.tmp 159), type := _, pos := _, after := _, guard := some (27, true) } : Oper)) (v := ?_) rfl (by kernel_rfl) (by kernel_rfl) (by kernel_rfl) (fun _ _ _ h => h) (Or.inl ⟨by rfl, ?_⟩) (by assumption) ?_
            rotate_left
            · intro w' hSw; (try dsimp only at hSw); go_simp <;> (try with_reducible rfl)
            (try simp only [Act.put, List.setIfInBounds_toArray, List.set_cons_zero, List.set_cons_succ])
            refine wpAnyH_take (i := 31) (oi := ({ dst := some 161, op := Op.load _ (Operand.tmp 160), type := _, pos := _, after := _, guard := some (27, true) } : Oper)) (v := ?_) rfl (by kernel_rfl) (by kernel_rfl) (by kernel_rfl) (fun _ _ _ h => h) (Or.inl ⟨by rfl, ?_⟩) (by assumption) ?_
            rotate_left
            · intro w' hSw; (try dsimp only at hSw); go_simp <;> (try with_reducible rfl)
            (try simp only [Act.put, List.setIfInBounds_toArray, List.set_cons_zero, List.set_cons_succ])
            refine wpAnyH_ready (rs := [32]) (by kernel_rfl) (by simp) ?_
            refine AllReadyH.cons (o := ({ dst := some 162, op := Op.call { callee := Callee.value (Operand.func _), args := #[Operand.tmp 161], argTypes := _ }, type := _, pos := _, after := _, guard := some (27, true) } : Oper)) rfl (fun K hK => ?_) AllReadyH.nil
            go_simp
            refine (abs_any a _ x0 x1).mono ?_
            rintro e w' ⟨rfl, hw⟩
            have hw2 := hw.symm
            clear hw
            subst hw2
            rw [xz]
            (try go_wp2_with fail)
            refine hK.out _ _ ?_ (fun hHeld => ?_)
            · (try dsimp only); exact hHeld
            clear hK K
            (try simp only [Act.put, List.setIfInBounds_toArray, List.set_cons_zero, List.set_cons_succ])
            refine wpAnyH_take (i := 33) (oi := ({ dst := some 163, op := Op.binOp BinOp.neq _ (Operand.tmp 162) (Operand.const (Value.int IntKind.u64 0)) _, type := _, pos := _, after := _, guard := some (27, true) } : Oper)) (v := ?_) rfl (by kernel_rfl) (by kernel_rfl) (by kernel_rfl) (fun _ _ _ h => h) (Or.inl ⟨by rfl, ?_⟩) (by assumption) ?_
            rotate_left
            · intro w' hSw; (try dsimp only at hSw); go_simp <;> (try with_reducible rfl)
            (try simp only [Act.put, List.setIfInBounds_toArray, List.set_cons_zero, List.set_cons_succ])
            refine wpAnyH_take (i := 34) (oi := ({ dst := some 164, op := Op.pick (Operand.tmp 157) (Operand.tmp 163) (Operand.const (Value.bool false)), type := _, pos := _, after := _, guard := some (17, false) } : Oper)) (v := ?_) rfl (by kernel_rfl) (by kernel_rfl) (by kernel_rfl) (fun _ _ _ h => h) (Or.inl ⟨by rfl, ?_⟩) (by assumption) ?_
            rotate_left
            · intro w' hSw; (try dsimp only at hSw); go_simp <;> (try with_reducible rfl)
            (try simp only [Act.put, List.setIfInBounds_toArray, List.set_cons_zero, List.set_cons_succ])
            refine wpAnyH_take (i := 35) (oi := ({ dst := some 165, op := Op.pick (Operand.tmp 147) (Operand.const (Value.bool true)) (Operand.tmp 164), type := _, pos := _, after := _, guard := none } : Oper)) (v := ?_) rfl (by kernel_rfl) (by kernel_rfl) (by kernel_rfl) (fun _ _ _ h => h) (Or.inl ⟨by rfl, ?_⟩) (by assumption) ?_
            rotate_left
            · intro w' hSw; (try dsimp only at hSw); go_simp <;> (try with_reducible rfl)
            (try simp only [Act.put, List.setIfInBounds_toArray, List.set_cons_zero, List.set_cons_succ])
            refine wpAnyH_done (by kernel_rfl) ?_ _
            refine NoPanic.normal ?_
            have hb_ : Below w8_.heap.size w8_ w8_.drew := (Below.refl _ _).drew
            generalize w8_.drew = w200_ at hb_ ⊢
            replace BW : Hid (Below _ _ _) := bstep BW.out hb_
            replace UX : Hid (URow _ _ _ _ _) := UX.out.below hb_
            replace UA : Hid (URow _ _ _ _ _) := UA.out.below hb_
            replace UZ : Hid (URow _ _ _ _ _) := UZ.out.below hb_
            clear hb_ hHeld
            go_wp2
            go_roundw
            case rel => exact ⟨i + 1, by go_num, by omega, BW, UX, UA, UZ⟩
            case measure => simp [intOf]; omega
          · skip
            refine wp_region_noPanic ?_
            refine wp_region_held_drew (S := (fun w' => (w'.cell? ⟨ga, i, none⟩ = some (.int .u64 a)) ∧ (w'.cell? ⟨gz, i, none⟩ = some (.int .u64 z)) ∧ (w'.cell? ⟨b, o + i, none⟩ = some (.int .u64 z)))) (by kernel_rfl) ⟨q1, q2, q3⟩ (fun hHeld => ?_)
            refine wpAnyH_take (i := 0) (oi := ({ dst := some 130, op := Op.move (Operand.tmp 8), type := _, pos := _, after := _, guard := none } : Oper)) (v := ?_) rfl (by kernel_rfl) (by kernel_rfl) (by kernel_rfl) (fun _ _ _ h => h) (Or.inl ⟨by rfl, ?_⟩) (by assumption) ?_
            rotate_left
            · intro w' hSw; (try dsimp only at hSw); go_simp <;> (try with_reducible rfl)
            (try simp only [Act.put, List.setIfInBounds_toArray, List.set_cons_zero, List.set_cons_succ])
            refine wpAnyH_take (i := 1) (oi := ({ dst := some 131, op := Op.move (Operand.tmp 19), type := _, pos := _, after := _, guard := none } : Oper)) (v := ?_) rfl (by kernel_rfl) (by kernel_rfl) (by kernel_rfl) (fun _ _ _ h => h) (Or.inl ⟨by rfl, ?_⟩) (by assumption) ?_
            rotate_left
            · intro w' hSw; (try dsimp only at hSw); go_simp <;> (try with_reducible rfl)
            (try simp only [Act.put, List.setIfInBounds_toArray, List.set_cons_zero, List.set_cons_succ])
            refine wpAnyH_take (i := 2) (oi := ({ dst := some 132, op := Op.indexAddr _ (Operand.tmp 130) (Operand.tmp 131), type := _, pos := _, after := _, guard := none } : Oper)) (v := ?_) rfl (by kernel_rfl) (by kernel_rfl) (by kernel_rfl) (fun _ _ _ h => h) (Or.inl ⟨by rfl, ?_⟩) (by assumption) ?_
            rotate_left
            · intro w' hSw; (try dsimp only at hSw); go_simp <;> (try with_reducible rfl)
            (try simp only [Act.put, List.setIfInBounds_toArray, List.set_cons_zero, List.set_cons_succ])
            refine wpAnyH_take (i := 3) (oi := ({ dst := some 133, op := Op.load _ (Operand.tmp 132), type := _, pos := _, after := _, guard := none } : Oper)) (v := ?_) rfl (by kernel_rfl) (by kernel_rfl) (by kernel_rfl) (fun _ _ _ h => h) (Or.inl ⟨by rfl, ?_⟩) (by assumption) ?_
            rotate_left
            · intro w' hSw; (try dsimp only at hSw); go_simp <;> (try with_reducible rfl)
            (try simp only [Act.put, List.setIfInBounds_toArray, List.set_cons_zero, List.set_cons_succ])
            refine wpAnyH_take (i := 4) (oi := ({ dst := some 134, op := Op.move (Operand.tmp 0), type := _, pos := _, after := _, guard := none } : Oper)) (v := ?_) rfl (by kernel_rfl) (by kernel_rfl) (by kernel_rfl) (fun _ _ _ h => h) (Or.inl ⟨by rfl, ?_⟩) (by assumption) ?_
            rotate_left
            · intro w' hSw; (try dsimp only at hSw); go_simp <;> (try with_reducible rfl)
            (try simp only [Act.put, List.setIfInBounds_toArray, List.set_cons_zero, List.set_cons_succ])
            refine wpAnyH_take (i := 5) (oi := ({ dst := some 135, op := Op.move (Operand.tmp 19), type := _, pos := _, after := _, guard := none } : Oper)) (v := ?_) rfl (by kernel_rfl) (by kernel_rfl) (by kernel_rfl) (fun _ _ _ h => h) (Or.inl ⟨by rfl, ?_⟩) (by assumption) ?_
            rotate_left
            · intro w' hSw; (try dsimp only at hSw); go_simp <;> (try with_reducible rfl)
            (try simp only [Act.put, List.setIfInBounds_toArray, List.set_cons_zero, List.set_cons_succ])
            refine wpAnyH_take (i := 6) (oi := ({ dst := some 136, op := Op.indexAddr _ (Operand.tmp 134) (Operand.tmp 135), type := _, pos := _, after := _, guard := none } : Oper)) (v := ?_) rfl (by kernel_rfl) (by kernel_rfl) (by kernel_rfl) (fun _ _ _ h => h) (Or.inl ⟨by rfl, ?_⟩) (by assumption) ?_
            rotate_left
            · intro w' hSw; (try dsimp only at hSw); go_simp <;> (try with_reducible rfl)
            (try simp only [Act.put, List.setIfInBounds_toArray, List.set_cons_zero, List.set_cons_succ])
            refine wpAnyH_take (i := 7) (oi := ({ dst := some 137, op := Op.load _ (Operand.tmp 136), type := _, pos := _, after := _, guard := none } : Oper)) (v := ?_) rfl (by kernel_rfl) (by kernel_rfl) (by kernel_rfl) (fun _ _ _ h => h) (Or.inl ⟨by rfl, ?_⟩) (by assumption) ?_
            rotate_left
            · intro w' hSw; (try dsimp only at hSw); go_simp <;> (try with_reducible rfl)
            (try simp only [Act.put, List.setIfInBounds_toArray, List.set_cons_zero, List.set_cons_succ])
            refine wpAnyH_take (i := 8) (oi := ({ dst := some 138, op := Op.binOp BinOp.neq _ (Operand.tmp 133) (Operand.tmp 137) _, type := _, pos := _, after := _, guard := none } : Oper)) (v := ?_) rfl (by kernel_rfl) (by kernel_rfl) (by kernel_rfl) (fun _ _ _ h => h) (Or.inl ⟨by rfl, ?_⟩) (by assumption) ?_
            rotate_left
            · intro w' hSw; (try dsimp only at hSw); go_simp <;> (try with_reducible rfl)
            (try simp only [Act.put, List.setIfInBounds_toArray, List.set_cons_zero, List.set_cons_succ])
            refine wpAnyH_take (i := 9) (oi := ({ dst := some 139, op := Op.move (Operand.tmp 138), type := _, pos := _, after := _, guard := none } : Oper)) (v := ?_) rfl (by kernel_rfl) (by kernel_rfl) (by kernel_rfl) (fun _ _ _ h => h) (Or.inl ⟨by rfl, ?_⟩) (by assumption) ?_
            rotate_left
            · intro w' hSw; (try dsimp only at hSw); go_simp <;> (try with_reducible rfl)
            (try simp only [Act.put, List.setIfInBounds_toArray, List.set_cons_zero, List.set_cons_succ])
            refine wpAnyH_take (i := 10) (oi := ({ dst := some 140, op := Op.move (Operand.tmp 0), type := _, pos := _, after := _, guard := some (9, true) } : Oper)) (v := ?_) rfl (by kernel_rfl) (by kernel_rfl) (by kernel_rfl) (fun _ _ _ h => h) (Or.inl ⟨by rfl, ?_⟩) (by assumption) ?_
            rotate_left
            · intro w' hSw; (try dsimp only at hSw); go_simp <;> (try with_reducible rfl)
            (try simp only [Act.put, List.setIfInBounds_toArray, List.set_cons_zero, List.set_cons_succ])
            refine wpAnyH_take (i := 11) (oi := ({ dst := some 141, op := Op.move (Operand.tmp 19), type := _, pos := _, after := _, guard := some (9, true) } : Oper)) (v := ?_) rfl (by kernel_rfl) (by kernel_rfl) (by kernel_rfl) (fun _ _ _ h => h) (Or.inl ⟨by rfl, ?_⟩) (by assumption) ?_
            rotate_left
            · intro w' hSw; (try dsimp only at hSw); go_simp <;> (try with_reducible rfl)
            (try simp only [Act.put, List.setIfInBounds_toArray, List.set_cons_zero, List.set_cons_succ])
            refine wpAnyH_take (i := 12) (oi := ({ dst := some 142, op := Op.indexAddr _ (Operand.tmp 140) (Operand.tmp 141), type := _, pos := _, after := _, guard := some (9, true) } : Oper)) (v := ?_) rfl (by kernel_rfl) (by kernel_rfl) (by kernel_rfl) (fun _ _ _ h => h) (Or.inl ⟨by rfl, ?_⟩) (by assumption) ?_
            rotate_left
            · intro w' hSw; (try dsimp only at hSw); go_simp <;> (try with_reducible rfl)
            (try simp only [Act.put, List.setIfInBounds_toArray, List.set_cons_zero, List.set_cons_succ])
            refine wpAnyH_take (i := 13) (oi := ({ dst := some 143, op := Op.load _ (Operand.tmp 142), type := _, pos := _, after := _, guard := some (9, true) } : Oper)) (v := ?_) rfl (by kernel_rfl) (by kernel_rfl) (by kernel_rfl) (fun _ _ _ h => h) (Or.inl ⟨by rfl, ?_⟩) (by assumption) ?_
            rotate_left
            · intro w' hSw; (try dsimp only at hSw); go_simp <;> (try with_reducible rfl)
            (try simp only [Act.put, List.setIfInBounds_toArray, List.set_cons_zero, List.set_cons_succ])
            refine wpAnyH_ready (rs := [14]) (by kernel_rfl) (by simp) ?_
            refine AllReadyH.cons (o := ({ dst := some 144, op := Op.call { callee := Callee.value (Operand.func _), args := #[Operand.tmp 143], argTypes := _ }, type := _, pos := _, after := _, guard := some (9, true) } : Oper)) rfl (fun K hK => ?_) AllReadyH.nil
            go_simp
            refine (abs_any z _ x0 x1).mono ?_
            rintro e w' ⟨rfl, hw⟩
            have hw2 := hw.symm
            clear hw
            subst hw2
            rw [xa]
            (try go_wp2_with fail)
            refine hK.out _ _ ?_ (fun hHeld => ?_)
            · (try dsimp only); exact hHeld
            clear hK K
            (try simp only [Act.put, List.setIfInBounds_toArray, List.set_cons_zero, List.set_cons_succ])
            refine wpAnyH_take (i := 15) (oi := ({ dst := some 145, op := Op.binOp BinOp.neq _ (Operand.tmp 144) (Operand.const (Value.int IntKind.u64 0)) _, type := _, pos := _, after := _, guard := some (9, true) } : Oper)) (v := ?_) rfl (by kernel_rfl) (by kernel_rfl) (by kernel_rfl) (fun _ _ _ h => h) (Or.inl ⟨by rfl, ?_⟩) (by assumption) ?_
            rotate_left
            · intro w' hSw; (try dsimp only at hSw); go_simp <;> (try with_reducible rfl)
            (try simp only [Act.put, List.setIfInBounds_toArray, List.set_cons_zero, List.set_cons_succ])
            refine wpAnyH_take (i := 16) (oi := ({ dst := some 146, op := Op.pick (Operand.tmp 139) (Operand.tmp 145) (Operand.const (Value.bool false)), type := _, pos := _, after := _, guard := none } : Oper)) (v := ?_) rfl (by kernel_rfl) (by kernel_rfl) (by kernel_rfl) (fun _ _ _ h => h) (Or.inl ⟨by rfl, ?_⟩) (by assumption) ?_
            rotate_left
            · intro w' hSw; (try dsimp only at hSw); go_simp <;> (try with_reducible rfl)
            (try simp only [Act.put, List.setIfInBounds_toArray, List.set_cons_zero, List.set_cons_succ])
            refine wpAnyH_take (i := 17) (oi := ({ dst := some 147, op := Op.move (Operand.tmp 146), type := _, pos := _, after := _, guard := none } : Oper)) (v := ?_) rfl (by kernel_rfl) (by kernel_rfl) (by kernel_rfl) (fun _ _ _ h => h) (Or.inl ⟨by rfl, ?_⟩) (by assumption) ?_
            rotate_left
            · intro w' hSw; (try dsimp only at hSw); go_simp <;> (try with_reducible rfl)
            (try simp only [Act.put, List.setIfInBounds_toArray, List.set_cons_zero, List.set_cons_succ])
            refine wpAnyH_take (i := 18) (oi := ({ dst := some 148, op := Op.move (Operand.tmp 17), type := _, pos := _, after := _, guard := some (17, false) } : Oper)) (v := ?_) rfl (by kernel_rfl) (by kernel_rfl) (by kernel_rfl) (fun _ _ _ h => h) (Or.inl ⟨by rfl, ?_⟩) (by assumption) ?_
            rotate_left
            · intro w' hSw; (try dsimp only at hSw); go_simp <;> (try with_reducible rfl)
            (try simp only [Act.put, List.setIfInBounds_toArray, List.set_cons_zero, List.set_cons_succ])
            refine wpAnyH_take (i := 19) (oi := ({ dst := some 149, op := Op.move (Operand.tmp 19), type := _, pos := _, after := _, guard := some (17, false) } : Oper)) (v := ?_) rfl (by kernel_rfl) (by kernel_rfl) (by kernel_rfl) (fun _ _ _ h => h) (Or.inl ⟨by rfl, ?_⟩) (by assumption) ?_
            rotate_left
            · intro w' hSw; (try dsimp only at hSw); go_simp <;> (try with_reducible rfl)
            (try simp only [Act.put, List.setIfInBounds_toArray, List.set_cons_zero, List.set_cons_succ])
            refine wpAnyH_take (i := 20) (oi := ({ dst := some 150, op := Op.indexAddr _ (Operand.tmp 148) (Operand.tmp 149), type := _, pos := _, after := _, guard := some (17, false) } : Oper)) (v := ?_) rfl (by kernel_rfl) (by kernel_rfl) (by kernel_rfl) (fun _ _ _ h => h) (Or.inl ⟨by rfl, ?_⟩) (by assumption) ?_
            rotate_left
            · intro w' hSw; (try dsimp only at hSw); go_simp <;> (try with_reducible rfl)
            (try simp only [Act.put, List.setIfInBounds_toArray, List.set_cons_zero, List.set_cons_succ])
            refine wpAnyH_take (i := 21) (oi := ({ dst := some 151, op := Op.load _ (Operand.tmp 150), type := _, pos := _, after := _, guard := some (17, false) } : Oper)) (v := ?_) rfl (by kernel_rfl) (by kernel_rfl) (by kernel_rfl) (fun _ _ _ h => h) (Or.inl ⟨by rfl, ?_⟩) (by assumption) ?_
            rotate_left
            · intro w' hSw; (try dsimp only at hSw); go_simp <;> (try with_reducible rfl)
            (try simp only [Act.put, List.setIfInBounds_toArray, List.set_cons_zero, List.set_cons_succ])
            refine wpAnyH_take (i := 22) (oi := ({ dst := some 152, op := Op.move (Operand.tmp 0), type := _, pos := _, after := _, guard := some (17, false) } : Oper)) (v := ?_) rfl (by kernel_rfl) (by kernel_rfl) (by kernel_rfl) (fun _ _ _ h => h) (Or.inl ⟨by rfl, ?_⟩) (by assumption) ?_
            rotate_left
            · intro w' hSw; (try dsimp only at hSw); go_simp <;> (try with_reducible rfl)
            (try simp only [Act.put, List.setIfInBounds_toArray, List.set_cons_zero, List.set_cons_succ])
            refine wpAnyH_take (i := 23) (oi := ({ dst := some 153, op := Op.move (Operand.tmp 19), type := _, pos := _, after := _, guard := some (17, false) } : Oper)) (v := ?_) rfl (by kernel_rfl) (by kernel_rfl) (by kernel_rfl) (fun _ _ _ h => h) (Or.inl ⟨by rfl, ?_⟩) (by assumption) ?_
            rotate_left
            · intro w' hSw; (try dsimp only at hSw); go_simp <;> (try with_reducible rfl)
            (try simp only [Act.put, List.setIfInBounds_toArray, List.set_cons_zero, List.set_cons_succ])
            refine wpAnyH_take (i := 24) (oi := ({ dst := some 154, op := Op.indexAddr _ (Operand.tmp 152) (Operand.tmp 153), type := _, pos := _, after := _, guard := some (17, false) } : Oper)) (v := ?_) rfl (by kernel_rfl) (by kernel_rfl) (by kernel_rfl) (fun _ _ _ h => h) (Or.inl ⟨by rfl, ?_⟩) (by assumption) ?_
            rotate_left
            · intro w' hSw; (try dsimp only at hSw); go_simp <;> (try with_reducible rfl)
            (try simp only [Act.put, List.setIfInBounds_toArray, List.set_cons_zero, List.set_cons_succ])
            refine wpAnyH_take (i := 25) (oi := ({ dst := some 155, op := Op.load _ (Operand.tmp 154), type := _, pos := _, after := _, guard := some (17, false) } : Oper)) (v := ?_) rfl (by kernel_rfl) (by kernel_rfl) (by kernel_rfl) (fun _ _ _ h => h) (Or.inl ⟨by rfl, ?_⟩) (by assumption) ?_
            rotate_left
            · intro w' hSw; (try dsimp only at hSw); go_simp <;> (try with_reducible rfl)
            (try simp only [Act.put, List.setIfInBounds_toArray, List.set_cons_zero, List.set_cons_succ])
            refine wpAnyH_take (i := 26) (oi := ({ dst := some 156, op := Op.binOp BinOp.neq _ (Operand.tmp 151) (Operand.tmp 155) _, type := _, pos := _, after := _, guard := some (17, false) } : Oper)) (v := ?_) rfl (by kernel_rfl) (by kernel_rfl) (by kernel_rfl) (fun _ _ _ h => h) (Or.inl ⟨by rfl, ?_⟩) (by assumption) ?_
            rotate_left
            · intro w' hSw; (try dsimp only at hSw); go_simp <;> (try with_reducible rfl)
            (try simp only [Act.put, List.setIfInBounds_toArray, List.set_cons_zero, List.set_cons_succ])
            refine wpAnyH_take (i := 27) (oi := ({ dst := some 157, op := Op.move (Operand.tmp 156), type := _, pos := _, after := _, guard := some (17, false) } : Oper)) (v := ?_) rfl (by kernel_rfl) (by kernel_rfl) (by kernel_rfl) (fun _ _ _ h => h) (Or.inl ⟨by rfl, ?_⟩) (by assumption) ?_
            rotate_left
            · intro w' hSw; (try dsimp only at hSw); go_simp <;> (try with_reducible rfl)
            (try simp only [Act.put, List.setIfInBounds_toArray, List.set_cons_zero, List.set_cons_succ])
            refine wpAnyH_take (i := 28) (oi := ({ dst := some 158, op := Op.move (Operand.tmp 0), type := _, pos := _, after := _, guard := some (27, true) } : Oper)) (v := undef) rfl (by kernel_rfl) (by kernel_rfl) (by kernel_rfl) (fun _ _ _ h => h) (Or.inr ⟨by kernel_rfl, rfl⟩) (by assumption) ?_
            (try simp only [Act.put, List.setIfInBounds_toArray, List.set_cons_zero, List.set_cons_succ])
            refine wpAnyH_take (i := 29) (oi := ({ dst := some 159, op := Op.move (Operand.tmp 19), type := _, pos := _, after := _, guard := some (27, true) } : Oper)) (v := undef) rfl (by kernel_rfl) (by kernel_rfl) (by kernel_rfl) (fun _ _ _ h => h) (Or.inr ⟨by kernel_rfl, rfl⟩) (by assumption) ?_
            (try simp only [Act.put, List.setIfInBounds_toArray, List.set_cons_zero, List.set_cons_succ])
            refine wpAnyH_take (i := 30) (oi := ({ dst := some 160, op := Op.indexAddr _ (Operand.tmp 158) (Operand.tmp 159), type := _, pos := _, after := _, guard := some (27, true) } : Oper)) (v := undef) rfl (by kernel_rfl) (by kernel_rfl) (by kernel_rfl) (fun _ _ _ h => h) (Or.inr ⟨by kernel_rfl, rfl⟩) (by assumption) ?_
            (try simp only [Act.put, List.setIfInBounds_toArray, List.set_cons_zero, List.set_cons_succ])
            refine wpAnyH_take (i := 31) (oi := ({ dst := some 161, op := Op.load _ (Operand.tmp 160), type := _, pos := _, after := _, guard := some (27, true) } : Oper)) (v := undef) rfl (by kernel_rfl) (by kernel_rfl) (by kernel_rfl) (fun _ _ _ h => h) (Or.inr ⟨by kernel_rfl, rfl⟩) (by assumption) ?_
            (try simp only [Act.put, List.setIfInBounds_toArray, List.set_cons_zero, List.set_cons_succ])
            refine wpAnyH_take (i := 32) (oi := ({ dst := some 162, op := Op.call { callee := Callee.value (Operand.func _), args := #[Operand.tmp 161], argTypes := _ }, type := _, pos := _, after := _, guard := some (27, true) } : Oper)) (v := undef) rfl (by kernel_rfl) (by kernel_rfl) (by kernel_rfl) (fun _ _ _ h => h) (Or.inr ⟨by kernel_rfl, rfl⟩) (by assumption) ?_
            (try simp only [Act.put, List.setIfInBounds_toArray, List.set_cons_zero, List.set_cons_succ])
            refine wpAnyH_take (i := 33) (oi := ({ dst := some 163, op := Op.binOp BinOp.neq _ (Operand.tmp 162) (Operand.const (Value.int IntKind.u64 0)) _, type := _, pos := _, after := _, guard := some (27, true) } : Oper)) (v := undef) rfl (by kernel_rfl) (by kernel_rfl) (by kernel_rfl) (fun _ _ _ h => h) (Or.inr ⟨by kernel_rfl, rfl⟩) (by assumption) ?_
            (try simp only [Act.put, List.setIfInBounds_toArray, List.set_cons_zero, List.set_cons_succ])
            refine wpAnyH_take (i := 34) (oi := ({ dst := some 164, op := Op.pick (Operand.tmp 157) (Operand.tmp 163) (Operand.const (Value.bool false)), type := _, pos := _, after := _, guard := some (17, false) } : Oper)) (v := ?_) rfl (by kernel_rfl) (by kernel_rfl) (by kernel_rfl) (fun _ _ _ h => h) (Or.inl ⟨by rfl, ?_⟩) (by assumption) ?_
            rotate_left
            · intro w' hSw; (try dsimp only at hSw); go_simp <;> (try with_reducible rfl)
            (try simp only [Act.put, List.setIfInBounds_toArray, List.set_cons_zero, List.set_cons_succ])
            refine wpAnyH_take (i := 35) (oi := ({ dst := some 165, op := Op.pick (Operand.tmp 147) (Operand.const (Value.bool true)) (Operand.tmp 164), type := _, pos := _, after := _, guard := none } : Oper)) (v := ?_) rfl (by kernel_rfl) (by kernel_rfl) (by kernel_rfl) (fun _ _ _ h => h) (Or.inl ⟨by rfl, ?_⟩) (by assumption) ?_
            rotate_left
            · intro w' hSw; (try dsimp only at hSw); go_simp <;> (try with_reducible rfl)
            (try simp only [Act.put, List.setIfInBounds_toArray, List.set_cons_zero, List.set_cons_succ])
            refine wpAnyH_done (by kernel_rfl) ?_ _
            refine NoPanic.normal ?_
            have hb_ : Below w8_.heap.size w8_ w8_.drew := (Below.refl _ _).drew
            generalize w8_.drew = w200_ at hb_ ⊢
            replace BW : Hid (Below _ _ _) := bstep BW.out hb_
            replace UX : Hid (URow _ _ _ _ _) := UX.out.below hb_
            replace UA : Hid (URow _ _ _ _ _) := UA.out.below hb_
            replace UZ : Hid (URow _ _ _ _ _) := UZ.out.below hb_
            clear hb_ hHeld
            go_wp2
            go_roundw
            case rel => exact ⟨i + 1, by go_num, by omega, BW, UX, UA, UZ⟩
            case measure => simp [intOf]; omega
          · skip
            refine wp_region_noPanic ?_
            refine wp_region_held_drew (S := (fun w' => (w'.cell? ⟨ga, i, none⟩ = some (.int .u64 a)) ∧ (w'.cell? ⟨gz, i, none⟩ = some (.int .u64 z)) ∧ (w'.cell? ⟨b, o + i, none⟩ = some (.int .u64 x)))) (by kernel_rfl) ⟨q1, q2, q3⟩ (fun hHeld => ?_)
            refine wpAnyH_take (i := 0) (oi := ({ dst := some 130, op := Op.move (Operand.tmp 8), type := _, pos := _, after := _, guard := none } : Oper)) (v := ?_) rfl (by kernel_rfl) (by kernel_rfl) (by kernel_rfl) (fun _ _ _ h => h) (Or.inl ⟨by rfl, ?_⟩) (by assumption) ?_
            rotate_left
            · intro w' hSw; (try dsimp only at hSw); go_simp <;> (try with_reducible rfl)
            (try simp only [Act.put, List.setIfInBounds_toArray, List.set_cons_zero, List.set_cons_succ])
            refine wpAnyH_take (i := 1) (oi := ({ dst := some 131, op := Op.move (Operand.tmp 19), type := _, pos := _, after := _, guard := none } : Oper)) (v := ?_) rfl (by kernel_rfl) (by kernel_rfl) (by kernel_rfl) (fun _ _ _ h => h) (Or.inl ⟨by rfl, ?_⟩) (by assumption) ?_
            rotate_left
            · intro w' hSw; (try dsimp only at hSw); go_simp <;> (try with_reducible rfl)
            (try simp only [Act.put, List.setIfInBounds_toArray, List.set_cons_zero, List.set_cons_succ])
            refine wpAnyH_take (i := 2) (oi := ({ dst := some 132, op := Op.indexAddr _ (Operand.tmp 130) (Operand.tmp 131), type := _, pos := _, after := _, guard := none } : Oper)) (v := ?_) rfl (by kernel_rfl) (by kernel_rfl) (by kernel_rfl) (fun _ _ _ h => h) (Or.inl ⟨by rfl, ?_⟩) (by assumption) ?_
            rotate_left
            · intro w' hSw; (try dsimp only at hSw); go_simp <;> (try with_reducible rfl)
            (try simp only [Act.put, List.setIfInBounds_toArray, List.set_cons_zero, List.set_cons_succ])
            refine wpAnyH_take (i := 3) (oi := ({ dst := some 133, op := Op.load _ (Operand.tmp 132), type := _, pos := _, after := _, guard := none } : Oper)) (v := ?_) rfl (by kernel_rfl) (by kernel_rfl) (by kernel_rfl) (fun _ _ _ h => h) (Or.inl ⟨by rfl, ?_⟩) (by assumption) ?_
            rotate_left
            · intro w' hSw; (try dsimp only at hSw); go_simp <;> (try with_reducible rfl)
            (try simp only [Act.put, List.setIfInBounds_toArray, List.set_cons_zero, List.set_cons_succ])
            refine wpAnyH_take (i := 4) (oi := ({ dst := some 134, op := Op.move (Operand.tmp 0), type := _, pos := _, after := _, guard := none } : Oper)) (v := ?_) rfl (by kernel_rfl) (by kernel_rfl) (by kernel_rfl) (fun _ _ _ h => h) (Or.inl ⟨by rfl, ?_⟩) (by assumption) ?_
            rotate_left
            · intro w' hSw; (try dsimp only at hSw); go_simp <;> (try with_reducible rfl)
            (try simp only [Act.put, List.setIfInBounds_toArray, List.set_cons_zero, List.set_cons_succ])
            refine wpAnyH_take (i := 5) (oi := ({ dst := some 135, op := Op.move (Operand.tmp 19), type := _, pos := _, after := _, guard := none } : Oper)) (v := ?_) rfl (by kernel_rfl) (by kernel_rfl) (by kernel_rfl) (fun _ _ _ h => h) (Or.inl ⟨by rfl, ?_⟩) (by assumption) ?_
            rotate_left
            · intro w' hSw; (try dsimp only at hSw); go_simp <;> (try with_reducible rfl)
            (try simp only [Act.put, List.setIfInBounds_toArray, List.set_cons_zero, List.set_cons_succ])
            refine wpAnyH_take (i := 6) (oi := ({ dst := some 136, op := Op.indexAddr _ (Operand.tmp 134) (Operand.tmp 135), type := _, pos := _, after := _, guard := none } : Oper)) (v := ?_) rfl (by kernel_rfl) (by kernel_rfl) (by kernel_rfl) (fun _ _ _ h => h) (Or.inl ⟨by rfl, ?_⟩) (by assumption) ?_
            rotate_left
            · intro w' hSw; (try dsimp only at hSw); go_simp <;> (try with_reducible rfl)
            (try simp only [Act.put, List.setIfInBounds_toArray, List.set_cons_zero, List.set_cons_succ])
            refine wpAnyH_take (i := 7) (oi := ({ dst := some 137, op := Op.load _ (Operand.tmp 136), type := _, pos := _, after := _, guard := none } : Oper)) (v := ?_) rfl (by kernel_rfl) (by kernel_rfl) (by kernel_rfl) (fun _ _ _ h => h) (Or.inl ⟨by rfl, ?_⟩) (by assumption) ?_
            rotate_left
            · intro w' hSw; (try dsimp only at hSw); go_simp <;> (try with_reducible rfl)
            (try simp only [Act.put, List.setIfInBounds_toArray, List.set_cons_zero, List.set_cons_succ])
            refine wpAnyH_take (i := 8) (oi := ({ dst := some 138, op := Op.binOp BinOp.neq _ (Operand.tmp 133) (Operand.tmp 137) _, type := _, pos := _, after := _, guard := none } : Oper)) (v := ?_) rfl (by kernel_rfl) (by kernel_rfl) (by kernel_rfl) (fun _ _ _ h => h) (Or.inl ⟨by rfl, ?_⟩) (by assumption) ?_
            rotate_left
            · intro w' hSw; (try dsimp only at hSw); go_simp <;> (try with_reducible rfl)
            (try simp only [Act.put, List.setIfInBounds_toArray, List.set_cons_zero, List.set_cons_succ])
            refine wpAnyH_take (i := 9) (oi := ({ dst := some 139, op := Op.move (Operand.tmp 138), type := _, pos := _, after := _, guard := none } : Oper)) (v := ?_) rfl (by kernel_rfl) (by kernel_rfl) (by kernel_rfl) (fun _ _ _ h => h) (Or.inl ⟨by rfl, ?_⟩) (by assumption) ?_
            rotate_left
            · intro w' hSw; (try dsimp only at hSw); go_simp <;> (try with_reducible rfl)
            (try simp only [Act.put, List.setIfInBounds_toArray, List.set_cons_zero, List.set_cons_succ])
            refine wpAnyH_take (i := 10) (oi := ({ dst := some 140, op := Op.move (Operand.tmp 0), type := _, pos := _, after := _, guard := some (9, true) } : Oper)) (v := ?_) rfl (by kernel_rfl) (by kernel_rfl) (by kernel_rfl) (fun _ _ _ h => h) (Or.inl ⟨by rfl, ?_⟩) (by assumption) ?_
            rotate_left
            · intro w' hSw; (try dsimp only at hSw); go_simp <;> (try with_reducible rfl)
            (try simp only [Act.put, List.setIfInBounds_toArray, List.set_cons_zero, List.set_cons_succ])
            refine wpAnyH_take (i := 11) (oi := ({ dst := some 141, op := Op.move (Operand.tmp 19), type := _, pos := _, after := _, guard := some (9, true) } : Oper)) (v := ?_) rfl (by kernel_rfl) (by kernel_rfl) (by kernel_rfl) (fun _ _ _ h => h) (Or.inl ⟨by rfl, ?_⟩) (by assumption) ?_
            rotate_left
            · intro w' hSw; (try dsimp only at hSw); go_simp <;> (try with_reducible rfl)
            (try simp only [Act.put, List.setIfInBounds_toArray, List.set_cons_zero, List.set_cons_succ])
            refine wpAnyH_take (i := 12) (oi := ({ dst := some 142, op := Op.indexAddr _ (Operand.tmp 140) (Operand.tmp 141), type := _, pos := _, after := _, guard := some (9, true) } : Oper)) (v := ?_) rfl (by kernel_rfl) (by kernel_rfl) (by kernel_rfl) (fun _ _ _ h => h) (Or.inl ⟨by rfl, ?_⟩) (by assumption) ?_
            rotate_left
            · intro w' hSw; (try dsimp only at hSw); go_simp <;> (try with_reducible rfl)
            (try simp only [Act.put, List.setIfInBounds_toArray, List.set_cons_zero, List.set_cons_succ])
            refine wpAnyH_take (i := 13) (oi := ({ dst := some 143, op := Op.load _ (Operand.tmp 142), type := _, pos := _, after := _, guard := some (9, true) } : Oper)) (v := ?_) rfl (by kernel_rfl) (by kernel_rfl) (by kernel_rfl) (fun _ _ _ h => h) (Or.inl ⟨by rfl, ?_⟩) (by assumption) ?_
            rotate_left
            · intro w' hSw; (try dsimp only at hSw); go_simp <;> (try with_reducible rfl)
            (try simp only [Act.put, List.setIfInBounds_toArray, List.set_cons_zero, List.set_cons_succ])
            refine wpAnyH_ready (rs := [14]) (by kernel_rfl) (by simp) ?_
            refine AllReadyH.cons (o := ({ dst := some 144, op := Op.call { callee := Callee.value (Operand.func _), args := #[Operand.tmp 143], argTypes := _ }, type := _, pos := _, after := _, guard := some (9, true) } : Oper)) rfl (fun K hK => ?_) AllReadyH.nil
            go_simp
            refine (abs_any x _ x0 x1).mono ?_
            rintro e w' ⟨rfl, hw⟩
            have hw2 := hw.symm
            clear hw
            subst hw2
            rw [xa]
            (try go_wp2_with fail)
            refine hK.out _ _ ?_ (fun hHeld => ?_)
            · (try dsimp only); exact hHeld
            clear hK K
            (try simp only [Act.put, List.setIfInBounds_toArray, List.set_cons_zero, List.set_cons_succ])
            refine wpAnyH_take (i := 15) (oi := ({ dst := some 145, op := Op.binOp BinOp.neq _ (Operand.tmp 144) (Operand.const (Value.int IntKind.u64 0)) _, type := _, pos := _, after := _, guard := some (9, true) } : Oper)) (v := ?_) rfl (by kernel_rfl) (by kernel_rfl) (by kernel_rfl) (fun _ _ _ h => h) (Or.inl ⟨by rfl, ?_⟩) (by assumption) ?_
            rotate_left
            · intro w' hSw; (try dsimp only at hSw); go_simp <;> (try with_reducible rfl)
            (try simp only [Act.put, List.setIfInBounds_toArray, List.set_cons_zero, List.set_cons_succ])
            refine wpAnyH_take (i := 16) (oi := ({ dst := some 146, op := Op.pick (Operand.tmp 139) (Operand.tmp 145) (Operand.const (Value.bool false)), type := _, pos := _, after := _, guard := none } : Oper)) (v := ?_) rfl (by kernel_rfl) (by kernel_rfl) (by kernel_rfl) (fun _ _ _ h => h) (Or.inl ⟨by rfl, ?_⟩) (by assumption) ?_
            rotate_left
            · intro w' hSw; (try dsimp only at hSw); go_simp <;> (try with_reducible rfl)
            (try simp only [Act.put, List.setIfInBounds_toArray, List.set_cons_zero, List.set_cons_succ])
            refine wpAnyH_take (i := 17) (oi := ({ dst := some 147, op := Op.move (Operand.tmp 146), type := _, pos := _, after := _, guard := none } : Oper)) (v := ?_) rfl (by kernel_rfl) (by kernel_rfl) (by kernel_rfl) (fun _ _ _ h => h) (Or.inl ⟨by rfl, ?_⟩) (by assumption) ?_
            rotate_left
            · intro w' hSw; (try dsimp only at hSw); go_simp <;> (try with_reducible rfl)
            (try simp only [Act.put, List.setIfInBounds_toArray, List.set_cons_zero, List.set_cons_succ])
            refine wpAnyH_take (i := 18) (oi := ({ dst := some 148, op := Op.move (Operand.tmp 17), type := _, pos := _, after := _, guard := some (17, false) } : Oper)) (v := ?_) rfl (by kernel_rfl) (by kernel_rfl) (by kernel_rfl) (fun _ _ _ h => h) (Or.inl ⟨by rfl, ?_⟩) (by assumption) ?_
            rotate_left
            · intro w' hSw; (try dsimp only at hSw); go_simp <;> (try with_reducible rfl)
            (try simp only [Act.put, List.setIfInBounds_toArray, List.set_cons_zero, List.set_cons_succ])
            refine wpAnyH_take (i := 19) (oi := ({ dst := some 149, op := Op.move (Operand.tmp 19), type := _, pos := _, after := _, guard := some (17, false) } : Oper)) (v := ?_) rfl (by kernel_rfl) (by kernel_rfl) (by kernel_rfl) (fun _ _ _ h => h) (Or.inl ⟨by rfl, ?_⟩) (by assumption) ?_
            rotate_left
            · intro w' hSw; (try dsimp only at hSw); go_simp <;> (try with_reducible rfl)
            (try simp only [Act.put, List.setIfInBounds_toArray, List.set_cons_zero, List.set_cons_succ])
            refine wpAnyH_take (i := 20) (oi := ({ dst := some 150, op := Op.indexAddr _ (Operand.tmp 148) (Operand.tmp 149), type := _, pos := _, after := _, guard := some (17, false) } : Oper)) (v := ?_) rfl (by kernel_rfl) (by kernel_rfl) (by kernel_rfl) (fun _ _ _ h => h) (Or.inl ⟨by rfl, ?_⟩) (by assumption) ?_
            rotate_left
            · intro w' hSw; (try dsimp only at hSw); go_simp <;> (try with_reducible rfl)
            (try simp only [Act.put, List.setIfInBounds_toArray, List.set_cons_zero, List.set_cons_succ])
            refine wpAnyH_take (i := 21) (oi := ({ dst := some 151, op := Op.load _ (Operand.tmp 150), type := _, pos := _, after := _, guard := some (17, false) } : Oper)) (v := ?_) rfl (by kernel_rfl) (by kernel_rfl) (by kernel_rfl) (fun _ _ _ h => h) (Or.inl ⟨by rfl, ?_⟩) (by assumption) ?_
            rotate_left
            · intro w' hSw; (try dsimp only at hSw); go_simp <;> (try with_reducible rfl)
            (try simp only [Act.put, List.setIfInBounds_toArray, List.set_cons_zero, List.set_cons_succ])
            refine wpAnyH_take (i := 22) (oi := ({ dst := some 152, op := Op.move (Operand.tmp 0), type := _, pos := _, after := _, guard := some (17, false) } : Oper)) (v := ?_) rfl (by kernel_rfl) (by kernel_rfl) (by kernel_rfl) (fun _ _ _ h => h) (Or.inl ⟨by rfl, ?_⟩) (by assumption) ?_
            rotate_left
            · intro w' hSw; (try dsimp only at hSw); go_simp <;> (try with_reducible rfl)
            (try simp only [Act.put, List.setIfInBounds_toArray, List.set_cons_zero, List.set_cons_succ])
            refine wpAnyH_take (i := 23) (oi := ({ dst := some 153, op := Op.move (Operand.tmp 19), type := _, pos := _, after := _, guard := some (17, false) } : Oper)) (v := ?_) rfl (by kernel_rfl) (by kernel_rfl) (by kernel_rfl) (fun _ _ _ h => h) (Or.inl ⟨by rfl, ?_⟩) (by assumption) ?_
            rotate_left
            · intro w' hSw; (try dsimp only at hSw); go_simp <;> (try with_reducible rfl)
            (try simp only [Act.put, List.setIfInBounds_toArray, List.set_cons_zero, List.set_cons_succ])
            refine wpAnyH_take (i := 24) (oi := ({ dst := some 154, op := Op.indexAddr _ (Operand.tmp 152) (Operand.tmp 153), type := _, pos := _, after := _, guard := some (17, false) } : Oper)) (v := ?_) rfl (by kernel_rfl) (by kernel_rfl) (by kernel_rfl) (fun _ _ _ h => h) (Or.inl ⟨by rfl, ?_⟩) (by assumption) ?_
            rotate_left
            · intro w' hSw; (try dsimp only at hSw); go_simp <;> (try with_reducible rfl)
            (try simp only [Act.put, List.setIfInBounds_toArray, List.set_cons_zero, List.set_cons_succ])
            refine wpAnyH_take (i := 25) (oi := ({ dst := some 155, op := Op.load _ (Operand.tmp 154), type := _, pos := _, after := _, guard := some (17, false) } : Oper)) (v := ?_) rfl (by kernel_rfl) (by kernel_rfl) (by kernel_rfl) (fun _ _ _ h => h) (Or.inl ⟨by rfl, ?_⟩) (by assumption) ?_
            rotate_left
            · intro w' hSw; (try dsimp only at hSw); go_simp <;> (try with_reducible rfl)
            (try simp only [Act.put, List.setIfInBounds_toArray, List.set_cons_zero, List.set_cons_succ])
            refine wpAnyH_take (i := 26) (oi := ({ dst := some 156, op := Op.binOp BinOp.neq _ (Operand.tmp 151) (Operand.tmp 155) _, type := _, pos := _, after := _, guard := some (17, false) } : Oper)) (v := ?_) rfl (by kernel_rfl) (by kernel_rfl) (by kernel_rfl) (fun _ _ _ h => h) (Or.inl ⟨by rfl, ?_⟩) (by assumption) ?_
            rotate_left
            · intro w' hSw; (try dsimp only at hSw); go_simp <;> (try with_reducible rfl)
            (try simp only [Act.put, List.setIfInBounds_toArray, List.set_cons_zero, List.set_cons_succ])
            refine wpAnyH_take (i := 27) (oi := ({ dst := some 157, op := Op.move (Operand.tmp 156), type := _, pos := _, after := _, guard := some (17, false) } : Oper)) (v := ?_) rfl (by kernel_rfl) (by kernel_rfl) (by kernel_rfl) (fun _ _ _ h => h) (Or.inl ⟨by rfl, ?_⟩) (by assumption) ?_
            rotate_left
            · intro w' hSw; (try dsimp only at hSw); go_simp <;> (try with_reducible rfl)
            (try simp only [Act.put, List.setIfInBounds_toArray, List.set_cons_zero, List.set_cons_succ])
            refine wpAnyH_take (i := 28) (oi := ({ dst := some 158, op := Op.move (Operand.tmp 0), type := _, pos := _, after := _, guard := some (27, true) } : Oper)) (v := ?_) rfl (by kernel_rfl) (by kernel_rfl) (by kernel_rfl) (fun _ _ _ h => h) (Or.inl ⟨by rfl, ?_⟩) (by assumption) ?_
            rotate_left
            · intro w' hSw; (try dsimp only at hSw); go_simp <;> (try with_reducible rfl)
            (try simp only [Act.put, List.setIfInBounds_toArray, List.set_cons_zero, List.set_cons_succ])
            refine wpAnyH_take (i := 29) (oi := ({ dst := some 159, op := Op.move (Operand.tmp 19), type := _, pos := _, after := _, guard := some (27, true) } : Oper)) (v := ?_) rfl (by kernel_rfl) (by kernel_rfl) (by kernel_rfl) (fun _ _ _ h => h) (Or.inl ⟨by rfl, ?_⟩) (by assumption) ?_
            rotate_left
            · intro w' hSw; (try dsimp only at hSw); go_simp <;> (try with_reducible rfl)
            (try simp only [Act.put, List.setIfInBounds_toArray, List.set_cons_zero, List.set_cons_succ])
            refine wpAnyH_take (i := 30) (oi := ({ dst := some 160, op := Op.indexAddr _ (Operand.tmp 158) (Operand.tmp 159), type := _, pos := _, after := _, guard := some (27, true) } : Oper)) (v := ?_) rfl (by kernel_rfl) (by kernel_rfl) (by kernel_rfl) (fun _ _ _ h => h) (Or.inl ⟨by rfl, ?_⟩) (by assumption) ?_
            rotate_left
            · intro w' hSw; (try dsimp only at hSw); go_simp <;> (try with_reducible rfl)
            (try simp only [Act.put, List.setIfInBounds_toArray, List.set_cons_zero, List.set_cons_succ])
            refine wpAnyH_take (i := 31) (oi := ({ dst := some 161, op := Op.load _ (Operand.tmp 160), type := _, pos := _, after := _, guard := some (27, true) } : Oper)) (v := ?_) rfl (by kernel_rfl) (by kernel_rfl) (by kernel_rfl) (fun _ _ _ h => h) (Or.inl ⟨by rfl, ?_⟩) (by assumption) ?_
            rotate_left
            · intro w' hSw; (try dsimp only at hSw); go_simp <;> (try with_reducible rfl)
            (try simp only [Act.put, List.setIfInBounds_toArray, List.set_cons_zero, List.set_cons_succ])
            refine wpAnyH_ready (rs := [32]) (by kernel_rfl) (by simp) ?_
            refine AllReadyH.cons (o := ({ dst := some 162, op := Op.call { callee := Callee.value (Operand.func _), args := #[Operand.tmp 161], argTypes := _ }, type := _, pos := _, after := _, guard := some (27, true) } : Oper)) rfl (fun K hK => ?_) AllReadyH.nil
            go_simp
            refine (abs_any x _ x0 x1).mono ?_
            rintro e w' ⟨rfl, hw⟩
            have hw2 := hw.symm
            clear hw
            subst hw2
            rw [xz]
            (try go_wp2_with fail)
            refine hK.out _ _ ?_ (fun hHeld => ?_)
            · (try dsimp only); exact hHeld
            clear hK K
            (try simp only [Act.put, List.setIfInBounds_toArray, List.set_cons_zero, List.set_cons_succ])
            refine wpAnyH_take (i := 33) (oi := ({ dst := some 163, op := Op.binOp BinOp.neq _ (Operand.tmp 162) (Operand.const (Value.int IntKind.u64 0)) _, type := _, pos := _, after := _, guard := some (27, true) } : Oper)) (v := ?_) rfl (by kernel_rfl) (by kernel_rfl) (by kernel_rfl) (fun _ _ _ h => h) (Or.inl ⟨by rfl, ?_⟩) (by assumption) ?_
            rotate_left
            · intro w' hSw; (try dsimp only at hSw); go_simp <;> (try with_reducible rfl)
            (try simp only [Act.put, List.setIfInBounds_toArray, List.set_cons_zero, List.set_cons_succ])
            refine wpAnyH_take (i := 34) (oi := ({ dst := some 164, op := Op.pick (Operand.tmp 157) (Operand.tmp 163) (Operand.const (Value.bool false)), type := _, pos := _, after := _, guard := some (17, false) } : Oper)) (v := ?_) rfl (by kernel_rfl) (by kernel_rfl) (by kernel_rfl) (fun _ _ _ h => h) (Or.inl ⟨by rfl, ?_⟩) (by assumption) ?_
            rotate_left
            · intro w' hSw; (try dsimp only at hSw); go_simp <;> (try with_reducible rfl)
            (try simp only [Act.put, List.setIfInBounds_toArray, List.set_cons_zero, List.set_cons_succ])
            refine wpAnyH_take (i := 35) (oi := ({ dst := some 165, op := Op.pick (Operand.tmp 147) (Operand.const (Value.bool true)) (Operand.tmp 164), type := _, pos := _, after := _, guard := none } : Oper)) (v := ?_) rfl (by kernel_rfl) (by kernel_rfl) (by kernel_rfl) (fun _ _ _ h => h) (Or.inl ⟨by rfl, ?_⟩) (by assumption) ?_
            rotate_left
            · intro w' hSw; (try dsimp only at hSw); go_simp <;> (try with_reducible rfl)
            (try simp only [Act.put, List.setIfInBounds_toArray, List.set_cons_zero, List.set_cons_succ])
            refine wpAnyH_done (by kernel_rfl) ?_ _
            refine NoPanic.normal ?_
            have hb_ : Below w8_.heap.size w8_ w8_.drew := (Below.refl _ _).drew
            generalize w8_.drew = w200_ at hb_ ⊢
            replace BW : Hid (Below _ _ _) := bstep BW.out hb_
            replace UX : Hid (URow _ _ _ _ _) := UX.out.below hb_
            replace UA : Hid (URow _ _ _ _ _) := UA.out.below hb_
            replace UZ : Hid (URow _ _ _ _ _) := UZ.out.below hb_
            clear hb_ hHeld
            go_wp2
            go_roundw
            case rel => exact ⟨i + 1, by go_num, by omega, BW, UX, UA, UZ⟩
            case measure => simp [intOf]; omega
        · obtain rfl : N = i := by omega
          go_wp2
          go_ret
          exact ⟨ret_eq rfl, BW.out⟩

/-! ### THE ROW's STEP: WRITTEN OUT: LEAVE IT -/
set_option maxRecDepth 100000 in
theorem lifted (os : Os) (started : os.Started) (H : Type) (enc : TypeId × Value → H) :
    ReturnsInHanded {} Try.checked os 10 .any (Rows.solveOnesSpec.pre6 enc Try.prog Try.f10 Rows.solveOnesRow.domain false) (Rows.solveOnesSpec.post enc Try.prog Try.f10 false true false false) := by
  refine returnsInHanded_of_change (C := Try.checked) own started (by kernel_rfl) Try.func10
    (ChangeSpec.witness6 (enc := enc) (C := Try.checked) false ⟨#[], #[.slice none 0 0, .slice none 0 0, .bool false], []⟩ 8 (by kernel_rfl) (by kernel_rfl) (by kernel_rfl) (by kernel_rfl)) ?_
  intro W base args ds gs before hval0 hW hcnd _
  have hval : ∀ (j : Nat) t v, Try.f10.params[j]? = some t → args[j]? = some v → Value.okWide Try.prog W .any base t v := hval0
  have hW' := hW
  obtain ⟨p, q, hA0, hV, rfl, hfz, hnd⟩ := hW
  have hA : DataW.TrodAll enc Try.prog W 0 (fun _ => true) true Try.f10.params.toList args.toList ds p := hA0
  rw [Try.params10] at hA hval
  obtain ⟨v0, vs0, d0, ds0, p0, q0, hargs, rfl, rfl, h0, r0⟩ := trodAll_cons hA
  obtain ⟨v1, vs1, d1, ds1, p1, q1, rfl, rfl, rfl, h1, r1⟩ := trodAll_cons r0
  obtain ⟨v2, vs2, d2, ds2, p2, q2, rfl, rfl, rfl, h2, r2⟩ := trodAll_cons r1
  obtain ⟨rfl, rfl, rfl⟩ := trodAll_nil r2
  obtain rfl : args = #[v0, v1, v2] := by cases args; simp_all
  obtain ⟨rfl, rfl⟩ := trodVars_none hV
  obtain ⟨a0, len0, cap0, rfl⟩ := okWide_slice Try.underlying22 (hval 0 22 v0 rfl rfl)
  have k0 := h0
  have lt0 : ∀ x ∈ p0, x.block < W.heap.size := by obtain ⟨m, hm⟩ := k0; exact DataW.trod_lt m _ _ _ hm
  obtain ⟨z0, w0⟩ : ∃ zs, IsRow .u64 W a0 len0 cap0 zs := by
    obtain ⟨fuel, hf⟩ := h0
    rcases open_ints Try.underlying22 Try.underlying23 (by kernel_rfl) hf with ⟨hcs, _⟩ | ⟨x, l, c, zs, hcs, _, hl, hm, hz, _, hcell, hwz⟩
    · simp [Value.cells] at hcs
      obtain ⟨rfl, rfl, rfl⟩ := hcs
      exact ⟨[], .inl ⟨rfl, rfl, rfl, rfl⟩⟩
    · simp [Value.cells] at hcs
      obtain ⟨rfl, rfl, rfl⟩ := hcs
      exact ⟨zs, .inr ⟨_, rfl, hl, hm, by simpa using hz, hcell, hwz⟩⟩
  obtain ⟨a1, len1, cap1, rfl⟩ := okWide_slice Try.underlying60 (hval 1 60 v1 rfl rfl)
  have k1 := h1
  have lt1 : ∀ x ∈ p1, x.block < W.heap.size := by obtain ⟨m, hm⟩ := k1; exact DataW.trod_lt m _ _ _ hm
  obtain ⟨z1, w1⟩ : ∃ zs, IsRow .i64 W a1 len1 cap1 zs := by
    obtain ⟨fuel, hf⟩ := h1
    rcases open_ints Try.underlying60 Try.underlying3 (by kernel_rfl) hf with ⟨hcs, _⟩ | ⟨x, l, c, zs, hcs, _, hl, hm, hz, _, hcell, hwz⟩
    · simp [Value.cells] at hcs
      obtain ⟨rfl, rfl, rfl⟩ := hcs
      exact ⟨[], .inl ⟨rfl, rfl, rfl, rfl⟩⟩
    · simp [Value.cells] at hcs
      obtain ⟨rfl, rfl, rfl⟩ := hcs
      exact ⟨zs, .inr ⟨_, rfl, hl, hm, by simpa using hz, hcell, hwz⟩⟩
  obtain ⟨a2, rfl, rfl, rfl⟩ := open_bool Try.underlying4 (hval 2 4 v2 rfl rfl) h2
  clear hA0 hval0
  refine (walk a0 len0 cap0 z0 a1 len1 cap1 z1 a2 W w0 w1).mono fun e W' ⟨he, bel⟩ => ?_
  subst he
  exact ⟨_, rfl, _, _, _, [], _, [], hW', trodAll_mk1 (shut_bool Try.underlying4 _), (trodAll_cons_mk (Below.trod laidOut (by kernel_rfl) (of_decide_eq_true (by kernel_rfl)) k0 bel lt0) (trodAll_cons_mk (Below.trod laidOut (by kernel_rfl) (of_decide_eq_true (by kernel_rfl)) k1 bel lt1) (trodAll_cons_mk (shut_bool Try.underlying4 _) trodAll_mk0))), rfl, bel.frame _, fun h => by cases h⟩

theorem over : Rows.solveOnesRow.holds Try.pinned (OpenSpec.ofChange Rows.solveOnesSpec) :=
  OpenClaim.holds_of_wide 10 Try.f10 rfl rfl rfl rfl rfl rfl rfl ⟨rfl, rfl, rfl, rfl, rfl⟩ rfl rfl rfl rfl rfl (by kernel_rfl) Try.func10 (by kernel_rfl)
    (of_decide_eq_true (by kernel_rfl)) (by unfold Func.isWrapper; first | (rw [if_pos (by decide +kernel)]; kernel_rfl) | (rw [if_neg (by decide +kernel)]; exact ⟨rfl, rfl⟩))
    (fun os started H enc _ => lifted os started H enc)

/-- ████ THE STATEMENT ████ -/
theorem proved : Rows.SolveOnesSaid := over
#print axioms proved
end Go.Proofs.Ytpakpgjbgehhjaa.solveOnes
