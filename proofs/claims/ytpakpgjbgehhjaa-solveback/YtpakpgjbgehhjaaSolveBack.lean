/-
  The law SolveBack returns true at every input (any size, any slices of whole numbers, either triangle), and leaves its arguments as they were. No conditions.
-/
import Derived.Test.YtpakpgjbgehhjaaRows
import Derived.WalkKit
import Derived.ProofKit
import Derived.OpenShut
import Derived.Test.YtpakpgjbgehhjaaGrAE
import Derived.Test.YtpakpgjbgehhjaaGrAH
import Derived.Test.YtpakpgjbgehhjaaGrU
import Derived.Test.YtpakpgjbgehhjaaGrZ
import Derived.ShutString
import Derived.ChangeOld
import Derived.Below
namespace Go.Proofs.Ytpakpgjbgehhjaa.solveBack
open Go.ChangeShapes Go.WideShapes Go.ChangeAt Go.RowKit
open Go.ChangeMaps (open_string shut_string)
set_option linter.unusedVariables false

theorem own : ownKnob Try.prog.godebug = none := by kernel_rfl
theorem laidOut : laidOutB Try.prog = true := by kernel_rfl

/-- WHAT THE WALK IS TOLD OF A SLICE OF INTEGERS THAT CAME IN: it is nil; or it leads to a row of 'cap' cells, the numbers 'zs' (the first 'len' are its elements, the rest its spare room), each fitting its kind. -/
def IsRow (k : IntKind) (w : World) (a : Option Addr) (len cap : Nat) (zs : List Int) : Prop :=
  (a = none ∧ len = 0 ∧ cap = 0 ∧ zs = []) ∨
  ∃ x, a = some x ∧ len ≤ cap ∧ cap ≤ maxLen ∧ zs.length = cap ∧ (∀ i, i < zs.length → w.cell? (x.add i) = some (.int k (zs.getD i 0))) ∧ ∀ n ∈ zs, (Lit.int k n).wf = true

set_option linter.unusedSimpArgs false
theorem irow_of (w : World) (a : Option Addr) (len cap : Nat) (zs : List Int) (h : IsRow .i64 w a len cap zs) : IRow w a len cap (fun i => zs.getD i 0) := by
  rcases h with ⟨rfl, rfl, rfl, rfl⟩ | ⟨x, rfl, h1, h2, h3, h4, h5⟩
  · exact ⟨Nat.le_refl _, Nat.zero_le _, fun i => by simp, fun h => absurd h (Nat.lt_irrefl 0)⟩
  · refine ⟨h1, h2, fun i => ?_, fun hp => ?_⟩
    · show -9223372036854775808 ≤ zs.getD i 0 ∧ zs.getD i 0 < 9223372036854775808
      rcases Nat.lt_or_ge i zs.length with g | g
      · have hm : zs.getD i 0 ∈ zs := by
          rw [List.getD_eq_getElem?_getD, List.getElem?_eq_getElem g]
          exact List.getElem_mem g
        obtain ⟨q1, q2⟩ := bounds_i64 (h5 _ hm)
        exact ⟨by omega, by omega⟩
      · rw [List.getD_eq_getElem?_getD, List.getElem?_eq_none g]
        simp
    · obtain ⟨b, o, s⟩ := x
      have hs : s = none := by simpa [Addr.add] using World.cell?_spot (h4 0 (by omega))
      subst hs
      have hb : b < w.heap.size := by
        have := World.block_lt_of_cell? _ _ (h4 0 (by omega))
        simpa [Addr.add] using this
      refine ⟨b, o, rfl, hb, fun i hi => ?_⟩
      have := h4 i (by omega)
      rw [add_plain] at this
      exact this
set_option maxRecDepth 100000 in
set_option maxHeartbeats 8000000 in
theorem walk (a0 : Int) (a1 : Option Addr) (len1 cap1 : Nat) (z1 : List Int) (a2 : Option Addr) (len2 cap2 : Nat) (z2 : List Int) (a3 : Bool) (w : World) (w0 : (Lit.int .i64 a0).wf = true) (w1 : IsRow .i64 w a1 len1 cap1 z1) (w2 : IsRow .i64 w a2 len2 cap2 z2) :
    Calls Try.prog 9 #[.int .i64 a0, .slice a1 len1 cap1, .slice a2 len2 cap2, .bool a3] w fun e w' => e = .returned (.bool true) ∧ Below w.heap.size w w' := by
  have hp := irow_of w a1 len1 cap1 z1 w1
  have hq := irow_of w a2 len2 cap2 z2 w2
  generalize (fun i => z1.getD i 0) = P at hp
  generalize (fun i => z2.getD i 0) = Q at hq
  clear w0 w1 w2
  have a0e := and_7_i a0
  obtain ⟨N, hN⟩ : ∃ R : Nat, (R : Int) = a0 % 8 := ⟨(a0 % 8).toNat, by omega⟩
  rw [← hN] at a0e
  have hN7 : N ≤ 7 := by omega
  clear hN
  have hNN : N * N ≤ 49 := Nat.mul_le_mul hN7 hN7
  obtain ⟨D, hD⟩ : ∃ D, N * N = D := ⟨_, rfl⟩
  have HND : Hid (N * N = D) := hD
  obtain ⟨lx, cx⟩ := hp.lenB
  obtain ⟨ly, cy⟩ := hq.lenB
  have HP : Hid (IRow _ _ _ _ _) := hp
  have HQ : Hid (IRow _ _ _ _ _) := hq
  have PR : Hid (∀ i, -9223372036854775808 ≤ P i ∧ P i < 9223372036854775808) := hp.2.2.1
  have QR : Hid (∀ i, -9223372036854775808 ≤ Q i ∧ Q i < 9223372036854775808) := hq.2.2.1
  clear hp hq
  by_cases hl : 100 < len1
  · have hl2 : (100 : Int) < (len1 : Int) := by omega
    have hdl : decide ((100 : Int) < (len1 : Int)) = true := decide_eq_true hl2
    go_enter Try.func9, Try.ntmps9
    go_wp2_with fail
    refine (lHead12 _).mono ?_
    rintro e w1 ⟨rfl, hb1⟩
    go_wp2
    go_ret
    exact ⟨ret_eq rfl, hb1⟩
  have hl2 : ¬ (100 : Int) < (len1 : Int) := by omega
  have hdl : decide ((100 : Int) < (len1 : Int)) = false := decide_eq_false hl2
  by_cases hm : 100 < len2
  · have hm2 : (100 : Int) < (len2 : Int) := by omega
    have hdm : decide ((100 : Int) < (len2 : Int)) = true := decide_eq_true hm2
    go_enter Try.func9, Try.ntmps9
    go_wp2_with fail
    refine (lHead12 _).mono ?_
    rintro e w1 ⟨rfl, hb1⟩
    go_wp2
    go_ret
    exact ⟨ret_eq rfl, hb1⟩
  have hm2 : ¬ (100 : Int) < (len2 : Int) := by omega
  have hdm : decide ((100 : Int) < (len2 : Int)) = false := decide_eq_false hm2
  rw [hD] at hNN
  clear hD
  have TM : Hid (Rgt (N : Int) (N : Int) (N : Int) D) := by show Rgt _ _ _ _; rw [← HND.out]; exact tight N N (by omega) (by omega)
  obtain ⟨zM, hzM⟩ : ∃ z : Nat → Int, z = fun j => whP (wC P len1 0 8 0 j) := ⟨_, rfl⟩
  obtain ⟨zV, hzV⟩ : ∃ z : Nat → Int, z = fun j => whP ((if 0 < len2 then Q (j % len2) % 1024 else 0) - 500) := ⟨_, rfl⟩
  have HzM : Hid (∀ j, zM j = whP (wC P len1 0 8 0 j)) := by rw [hzM]; exact fun _ => rfl
  have HzV : Hid (∀ j, zV j = whP ((if 0 < len2 then Q (j % len2) % 1024 else 0) - 500)) := by rw [hzV]; exact fun _ => rfl
  have MR : Hid (∀ i, 0 ≤ zM i ∧ zM i < 18446744073709551616) := fun i => by rw [HzM.out]; exact whP_rng _
  have VR : Hid (∀ i, 0 ≤ zV i ∧ zV i < 18446744073709551616) := fun i => by rw [HzV.out]; exact whP_rng _
  clear hzM hzV
  go_enter Try.func9, Try.ntmps9
  go_wp2_with fail
  refine (lHead12 _).mono ?_
  rintro e w1 ⟨rfl, hb1⟩
  have BW : Hid (Below w.heap.size w w1) := hb1
  have IA : Hid (IRow w1 a1 len1 cap1 P) := HP.out.below hb1
  have IX : Hid (IRow w1 a2 len2 cap2 Q) := HQ.out.below hb1
  clear hb1 HP HQ
  go_wp2_with fail
  refine (mNew N N _ (by omega) (by omega) (by rw [HND.out]; omega)).mono ?_
  rintro e w1_ ⟨rfl, _, hR_, hb1_⟩
  obtain ⟨gM, hgM⟩ : ∃ g, g = w1.heap.size + 1 := ⟨_, rfl⟩
  rw [HND.out] at hR_ ⊢
  rw [← hgM] at hR_ ⊢
  have OM_ : Hid (w.heap.size ≤ gM) := by show _ ≤ _; have := Below.size BW.out; omega
  have AM_A : Hid (Apt (some gM) a1 len1) := IA.out.apt (fun k e => by injection e with e; omega)
  have AM_X : Hid (Apt (some gM) a2 len2) := IX.out.apt (fun k e => by injection e with e; omega)
  clear hgM
  replace BW : Hid (Below _ _ _) := bstep BW.out hb1_
  replace IA : Hid (IRow _ _ _ _ _) := IA.out.below hb1_
  replace IX : Hid (IRow _ _ _ _ _) := IX.out.below hb1_
  clear hb1_
  have RM : Hid (RowU w1_ gM (List.replicate D 0)) := hR_
  clear hR_
  go_upto_region 8 with fail
  have m_ := MBox.made w1_ (N : Int) (N : Int) (N : Int) (.slice (some ⟨gM, 0, none⟩) D D)
  have b_ : Below w1_.heap.size w1_ (w1_.alloc (.cells #[.int .i64 (N : Int), .int .i64 (N : Int), .int .i64 (N : Int), .slice (some ⟨gM, 0, none⟩) D D] 26)) := (Below.refl _ _).alloc (Nat.le_refl _) _
  obtain ⟨k_M, hk_M⟩ : ∃ k, k = w1_.heap.size := ⟨_, rfl⟩
  have L_M : Hid (w.heap.size ≤ k_M) := by rw [hk_M]; exact BW.out.size
  have NM_ : Hid (gM ≠ k_M) := by have := RM.out.lt; show _ ≠ _; omega
  rw [← hk_M] at m_ ⊢
  generalize (w1_.alloc (.cells #[.int .i64 (N : Int), .int .i64 (N : Int), .int .i64 (N : Int), .slice (some ⟨gM, 0, none⟩) D D] 26)) = w2_ at m_ b_ ⊢
  replace BW : Hid (Below _ _ _) := bstep BW.out b_
  replace IA : Hid (IRow _ _ _ _ _) := IA.out.below b_
  replace IX : Hid (IRow _ _ _ _ _) := IX.out.below b_
  replace RM : Hid (RowU _ _ _) := RM.out.below b_
  have M : Hid (MBox w2_ k_M (N : Int) (N : Int) (N : Int) (.slice (some ⟨gM, 0, none⟩) D D)) := m_
  clear m_ b_ hk_M
  have IM : Hid (MkI (List.replicate D 0) zM D 0) := MkI.new _ _
  obtain ⟨M_0, M_1, M_2, M_3, M_4⟩ := M.out
  go_wp2_with fail
  clear M_0 M_1 M_2 M_3 M_4
  go_loopw [38] (fun s38_ wr => ∃ (i : Nat) (xs : List Int), s38_ = .int .i64 (i : Int) ∧ i ≤ D ∧ Hid (Below w.heap.size w wr) ∧ Hid (IRow wr a1 len1 cap1 P) ∧ Hid (IRow wr a2 len2 cap2 Q) ∧ Hid (MBox wr k_M (N : Int) (N : Int) (N : Int) (.slice (some ⟨gM, 0, none⟩) D D)) ∧ Hid (RowU wr gM xs) ∧ Hid (MkI xs zM D i)) (fun s38_ _ => D - (intOf s38_).toNat)
  case atStart => exact ⟨0, _, rfl, Nat.zero_le _, BW, IA, IX, M, RM, IM⟩
  case round =>
    clear BW IA IX M RM IM
    obtain ⟨i, xs, rfl, hi_, BW, IA, IX, M, RM, IM⟩ := hrel
    obtain ⟨w3_, rfl⟩ : ∃ x, x = wr := ⟨wr, rfl⟩
    by_cases hlt : (i : Int) < (D : Int)
    · as_aux_lemma =>
        by_cases hp : 0 < len1
        · skip
          obtain ⟨b, o, rfl, hb, hcell⟩ := IA.out.2.2.2 hp
          obtain ⟨Q0, hQ, hQl, hq1, hq2⟩ := rem_facts i len1 hp
          have hw8 : i % len1 = Q0 := hQ.symm
          have hw9 : ¬ len1 = 0 := by omega
          have hw3 : (0 : Int) < (len1 : Int) := by omega
          have hw4 : ¬ (len1 : Int) = 0 := by omega
          have hw5 := rem_run (i : Int) (len1 : Int) (Q0 : Int) (by omega) hw3 hq2
          have hQi : (Q0 : Int) < (len1 : Int) := by omega
          have hl0 : ((len1 : Int) == 0) = false := by rw [beq_eq_false_iff_ne]; omega
          have u1 := hcell Q0 hQl
          obtain ⟨r0_, r1_⟩ := PR.out Q0
          have uD : zM i = whP (P Q0 % 8) := by rw [HzM.out]; unfold wC; rw [if_pos hp, Nat.add_zero, ← hQ, Int.sub_zero]
          obtain ⟨u, hu⟩ : ∃ u, P Q0 = u := ⟨_, rfl⟩
          rw [hu] at u1 uD r0_ r1_
          have an := and_7_i u
          obtain ⟨r, hr⟩ : ∃ r : Nat, (r : Int) = u % 8 := ⟨(u % 8).toNat, by omega⟩
          have hr8 : r ≤ 7 := by omega
          rw [← hr] at an uD
          obtain ⟨v, hv⟩ : ∃ v, whP (r : Int) = v := ⟨_, rfl⟩
          have HV : Hid (_ = _) := hv
          have UD : Hid (zM i = v) := uD.trans hv
          obtain ⟨v0, v1⟩ := MR.out i
          rw [UD.out] at v0 v1
          have x1 := RM.out.cell i (by have := IM.out.1; omega)
          have x2 := RM.out.frozen i
          have hbg : ¬ b = gM := fun e => AM_A.out hp b o none rfl (by rw [e])
          have hkg : ¬ k_M = gM := fun e => NM_.out e.symm
          clear hcell hQ hu hr hv uD
          obtain ⟨q0, q1, q2, q3, q4⟩ := M.out
          go_wp2_with fail
          have HBa : Hid (Below w3_.heap.size w3_ w3_) := Below.refl _ _
          go_region_held3 (fun w' => (w'.cell? ⟨k_M, 3, none⟩ = some (.slice (some ⟨gM, 0, none⟩) D D)) ∧ w'.cell? ⟨b, o + Q0, none⟩ = some (.int .i64 u)) (simp [go_sem, *]) (first | (go_at_call 46; refine (lWhole12 (r : Int) _ (by omega) (by omega)).mono ?_; rintro e Wq_ ⟨rfl, hb_⟩; rw [HV.out]; replace HBa : Hid (Below w3_.heap.size w3_ Wq_) := (by first | exact hb_ | exact ((Below.refl _ _).drew).trans hb_); replace u1 := (Below.cell (p := ⟨b, o + Q0, none⟩) HBa.out hb).trans u1; replace q3 := (Below.cell (p := ⟨k_M, 3, none⟩) HBa.out q4).trans q3; replace x1 := (Below.cell (p := ⟨gM, i, none⟩) HBa.out RM.out.lt).trans x1; replace x2 := (Below.frozen (p := ⟨gM, i, none⟩) HBa.out RM.out.lt).trans x2; clear hb_))
          clear q0 q1 q2 q3 q4 u1 x1 x2
          replace BW : Hid (Below _ _ _) := bstep BW.out HBa.out
          replace IA : Hid (IRow _ _ _ _ _) := IA.out.below HBa.out
          replace IX : Hid (IRow _ _ _ _ _) := IX.out.below HBa.out
          replace M : Hid (MBox _ _ _ _ _ _) := M.out.below HBa.out
          replace RM : Hid (RowU _ _ _) := RM.out.below HBa.out
          clear HBa
          have bs_ := bes_put Wq_ gM i (.int .u64 v)
          have mR_ := RM.out.set i v
          replace BW : Hid (Below _ _ _) := Bes.old BW.out bs_ OM_.out
          replace IA : Hid (IRow _ _ _ _ _) := IA.out.bes bs_ AM_A.out
          replace IX : Hid (IRow _ _ _ _ _) := IX.out.bes bs_ AM_X.out
          replace M : Hid (MBox _ _ _ _ _ _) := M.out.bes bs_ (ne_some NM_.out)
          clear RM
          have RM : Hid (RowU _ gM _) := mR_
          clear mR_ bs_
          have IM2 : Hid (MkI (xs.set i v) zM D (i + 1)) := IM.out.set (by omega) v UD.out.symm
          clear IM
          generalize (Wq_.setCell ⟨gM, i, none⟩ (.int .u64 v)) = w99_ at RM BW IA IX M ⊢
          go_wp2
          go_roundw
          case rel => exact ⟨i + 1, _, by go_num, by omega, BW, IA, IX, M, RM, IM2⟩
          case measure => simp [intOf]; omega
        · obtain rfl : len1 = 0 := by omega
          have uD : zM i = 0 := by rw [HzM.out]; unfold wC; rw [if_neg hp]; show (rndS (0 * _)).1 = 0; rw [Int.zero_mul, rnd_zero]
          have IM2 : Hid (MkI xs zM D (i + 1)) := IM.out.same uD
          clear IM uD
          go_wp2
          go_roundw
          case rel => exact ⟨i + 1, _, by go_num, by omega, BW, IA, IX, M, RM, IM2⟩
          case measure => simp [intOf]; omega
    · obtain rfl : D = i := by omega
      have UM : Hid (URow w3_ (some ⟨gM, 0, none⟩) D D zM) := IM.out.row RM.out (by omega) MR.out
      clear IM RM
      clear IA
      go_upto_region 15 with fail
      have OV_ : OwnU (w3_.alloc (.cells #[] 23)) w3_.heap.size (.slice (some ⟨w3_.heap.size, 0, none⟩) 0 0) (lst zV 0) := OwnU.new w3_ _ (Nat.le_refl _)
      have hb_ : Below w3_.heap.size w3_ (w3_.alloc (.cells #[] 23)) := bmore (Below.refl _ _) _
      generalize (w3_.alloc (.cells #[] 23)) = w100_ at OV_ hb_ ⊢
      generalize (Value.slice (some ⟨w3_.heap.size, 0, none⟩) 0 0) = v0 at OV_ ⊢
      have OV : Hid (OwnU w100_ w3_.heap.size v0 (lst zV 0)) := OV_
      have BB : Hid (Below w3_.heap.size w3_ w100_) := hb_
      clear hb_ OV_
      go_wp2_with fail
      go_loopw [12, 13] (fun v s13_ wr => ∃ i : Nat, s13_ = .int .i64 (i : Int) ∧ i ≤ N ∧ Hid (Below w3_.heap.size w3_ wr) ∧ Hid (OwnU wr w3_.heap.size v (lst zV i))) (fun v s13_ _ => N - (intOf s13_).toNat)
      case atStart => exact ⟨0, rfl, Nat.zero_le _, BB, OV⟩
      case round =>
        clear BB OV
        obtain ⟨i, rfl, hi_, BB, OV⟩ := hrel
        obtain ⟨w4_, rfl⟩ : ∃ x, x = wr := ⟨wr, rfl⟩
        by_cases hlt : (i : Int) < (N : Int)
        · as_aux_lemma =>
            by_cases hp : 0 < len2
            · skip
              obtain ⟨b, o, rfl, hb, hcell⟩ := IX.out.2.2.2 hp
              obtain ⟨Q0, hQ, hQl, hq1, hq2⟩ := rem_facts i len2 hp
              have hw8 : i % len2 = Q0 := hQ.symm
              have hw9 : ¬ len2 = 0 := by omega
              have hw3 : (0 : Int) < (len2 : Int) := by omega
              have hw4 : ¬ (len2 : Int) = 0 := by omega
              have hw5 := rem_run (i : Int) (len2 : Int) (Q0 : Int) (by omega) hw3 hq2
              have hQi : (Q0 : Int) < (len2 : Int) := by omega
              have hl0 : ((len2 : Int) == 0) = false := by rw [beq_eq_false_iff_ne]; omega
              have u1 := (Below.cell (p := ⟨b, o + Q0, none⟩) BB.out hb).trans (hcell Q0 hQl)
              obtain ⟨r0_, r1_⟩ := QR.out Q0
              obtain ⟨u, hu⟩ : ∃ u, Q Q0 = u := ⟨_, rfl⟩
              have uD : zV i = whP (u % 1024 - 500) := by rw [HzV.out, if_pos hp, ← hQ, hu]
              rw [hu] at u1 r0_ r1_
              have an := and_1023 u
              obtain ⟨r, hr⟩ : ∃ r : Nat, (r : Int) = u % 1024 := ⟨(u % 1024).toNat, by omega⟩
              have hr8 : r ≤ 1023 := by omega
              rw [← hr] at an uD
              obtain ⟨K, hK⟩ : ∃ K, (r : Int) - 500 = K := ⟨_, rfl⟩
              rw [hK] at uD
              have hw7 : IntKind.i64.wrap K = K := by rw [IntKind.wrap_i64]; omega
              have k0 : -500 ≤ K := by omega
              have k1 : K ≤ 523 := by omega
              clear hcell hQ hu hr
              obtain ⟨y, hy⟩ : ∃ y, whP K = y := ⟨_, rfl⟩
              have HY : Hid (_ = _) := hy
              have VY : Hid (zV i = y) := uD.trans hy
              have LS : Hid (lst zV i ++ [y] = lst zV (i + 1)) := by rw [← VY.out]; exact (lst_succ zV i).symm
              clear hy uD
              go_wp2_with fail
              refine (lWhole12 K _ (by omega) (by omega)).mono ?_
              rintro e wA ⟨rfl, hb_⟩
              rw [HY.out]
              have B1 : Hid (Below w3_.heap.size w3_ wA) := bstep BB.out hb_
              have O1 : Hid (OwnU wA w3_.heap.size _ (lst zV i)) := OV.out.below hb_
              have hz1 := Below.size B1.out
              clear hb_ BB OV
              go_wp2_with (at_builtin; refine wpListU_app rfl _ _ rfl w3_.heap.size _ (lst zV i) rfl (O1.out.alloc _) _ [y] rfl (SeesU.one wA y) (by rw [lst_len]; simp; omega) (by simp; omega) ?_)
              intro v' W3 own3 bel3 _ _
              rw [LS.out] at own3
              have OV : Hid (OwnU W3 w3_.heap.size v' (lst zV (i + 1))) := own3
              have bel4 : Below w3_.heap.size wA W3 := ((Below.refl _ wA).alloc hz1 _).trans bel3
              have BB : Hid (Below w3_.heap.size w3_ W3) := B1.out.trans bel4
              clear own3 bel3 bel4 O1 B1 hz1
              go_wp2
              go_roundw
              case rel => exact ⟨i + 1, by go_num, by omega, BB, OV⟩
              case measure => simp [intOf]; omega
            · have hz2 : ¬ (0 : Int) < (len2 : Int) := by omega
              have hz3 : decide ((0 : Int) < (len2 : Int)) = false := decide_eq_false hz2
              have uD : zV i = whP (-500) := by rw [HzV.out, if_neg hp]; rfl
              obtain ⟨y, hy⟩ : ∃ y, whP (-500) = y := ⟨_, rfl⟩
              have HY : Hid (_ = _) := hy
              have VY : Hid (zV i = y) := uD.trans hy
              have LS : Hid (lst zV i ++ [y] = lst zV (i + 1)) := by rw [← VY.out]; exact (lst_succ zV i).symm
              clear hy uD
              go_wp2_with fail
              refine (lWhole12 (-500) _ (by omega) (by omega)).mono ?_
              rintro e wA ⟨rfl, hb_⟩
              rw [HY.out]
              have B1 : Hid (Below w3_.heap.size w3_ wA) := bstep BB.out hb_
              have O1 : Hid (OwnU wA w3_.heap.size _ (lst zV i)) := OV.out.below hb_
              have hz1 := Below.size B1.out
              clear hb_ BB OV
              go_wp2_with (at_builtin; refine wpListU_app rfl _ _ rfl w3_.heap.size _ (lst zV i) rfl (O1.out.alloc _) _ [y] rfl (SeesU.one wA y) (by rw [lst_len]; simp; omega) (by simp; omega) ?_)
              intro v' W3 own3 bel3 _ _
              rw [LS.out] at own3
              have OV : Hid (OwnU W3 w3_.heap.size v' (lst zV (i + 1))) := own3
              have bel4 : Below w3_.heap.size wA W3 := ((Below.refl _ wA).alloc hz1 _).trans bel3
              have BB : Hid (Below w3_.heap.size w3_ W3) := B1.out.trans bel4
              clear own3 bel3 bel4 O1 B1 hz1
              go_wp2
              go_roundw
              case rel => exact ⟨i + 1, by go_num, by omega, BB, OV⟩
              case measure => simp [intOf]; omega
        · obtain rfl : N = i := by omega
          obtain ⟨gv, cv, rfl, _, _, hUV_⟩ := OV.out.row VR.out
          have UV : Hid (URow w4_ (some ⟨gv, 0, none⟩) N cv zV) := hUV_
          clear hUV_ OV
          replace BW : Hid (Below _ _ _) := bstep BW.out BB.out
          replace IX : Hid (IRow _ _ _ _ _) := IX.out.below BB.out
          replace M : Hid (MBox _ _ _ _ _ _) := M.out.below BB.out
          replace UM : Hid (URow _ _ _ _ _) := UM.out.below BB.out
          clear BB
          clear IX
          obtain ⟨M_0, M_1, M_2, M_3, M_4⟩ := M.out
          go_wp2_with fail
          refine (sTrmv a3 true (.pointer none) none 0 N N _ D D zM _ _ zV _ (IsCalc.nil _ _) TM.out UM.out (Apt.nil _ _) UV.out (Apt.nil _ _)).mono ?_
          rintro e w5_ ⟨gb, rfl, _, hU_, _, hB_⟩
          have hb5_ := hB_.nil
          clear M_0 M_1 M_2 M_3 M_4
          replace BW : Hid (Below _ _ _) := bstep BW.out hb5_
          replace M : Hid (MBox _ _ _ _ _ _) := M.out.below hb5_
          replace UM : Hid (URow _ _ _ _ _) := UM.out.below hb5_
          replace UV : Hid (URow _ _ _ _ _) := UV.out.below hb5_
          clear hb5_
          have UB : Hid (URow w5_ (some ⟨gb, 0, none⟩) N N (tmV a3 true zM N N zV)) := hU_
          clear hU_
          obtain ⟨M_0, M_1, M_2, M_3, M_4⟩ := M.out
          go_wp2_with fail
          refine (sTrsv a3 true (.pointer none) none 0 N N _ D D zM _ _ _ _ (IsCalc.nil _ _) TM.out UM.out (Apt.nil _ _) UB.out (Apt.nil _ _) (fun h => by cases h)).mono ?_
          rintro e w6_ ⟨gy, rfl, _, hU_, _, hB_⟩
          have hb6_ := hB_.nil
          clear M_0 M_1 M_2 M_3 M_4
          replace BW : Hid (Below _ _ _) := bstep BW.out hb6_
          replace M : Hid (MBox _ _ _ _ _ _) := M.out.below hb6_
          replace UM : Hid (URow _ _ _ _ _) := UM.out.below hb6_
          replace UV : Hid (URow _ _ _ _ _) := UV.out.below hb6_
          replace UB : Hid (URow _ _ _ _ _) := UB.out.below hb6_
          clear hb6_
          have UY : Hid (URow w6_ (some ⟨gy, 0, none⟩) N N (svX a3 true zM N N (tmV a3 true zM N N zV) N)) := hU_
          clear hU_
          have HYV : Hid (∀ k, k < N → svX a3 true zM N N (tmV a3 true zM N N zV) N k = zV k) := fun k hk => sv_back a3 zM zV (wC P len1 0 8 0) (fun j => (if 0 < len2 then Q (j % len2) % 1024 else 0) - 500) N (by omega) (fun j hj => by
              have hw : 0 ≤ wC P len1 0 8 0 j ∧ wC P len1 0 8 0 j ≤ 7 := by unfold wC; split <;> omega
              rw [HzM.out]
              exact ⟨(whP_is _ (by omega)).1, hw.1, hw.2⟩) (fun j hj => by
              have hw : -600 ≤ (if 0 < len2 then Q (j % len2) % 1024 else 0) - 500 ∧ (if 0 < len2 then Q (j % len2) % 1024 else 0) - 500 ≤ 600 := by split <;> omega
              rw [HzV.out]
              exact ⟨whP_is _ (by omega), hw.1, hw.2⟩) N (Nat.le_refl _) k hk (don_all a3 N k hk)
          obtain ⟨Y, hY⟩ : ∃ y, svX a3 true zM N N (tmV a3 true zM N N zV) N = y := ⟨_, rfl⟩
          rw [hY] at HYV UY
          clear hY
          clear UM UB M
          go_wp2_with fail
          go_loopw [111] (fun s111_ wr => ∃ (i : Nat) , s111_ = .int .i64 (i : Int) ∧ i ≤ N ∧ Hid (Below w.heap.size w wr) ∧ Hid (URow wr (some ⟨gv, 0, none⟩) N cv zV) ∧ Hid (URow wr (some ⟨gy, 0, none⟩) N N Y)) (fun s111_ _ => N - (intOf s111_).toNat)
          case atStart => exact ⟨0, rfl, Nat.zero_le _, BW, UV, UY⟩
          case round =>
            clear BW UV UY
            obtain ⟨i, rfl, hi_, BW, UV, UY⟩ := hrel
            obtain ⟨w7_, rfl⟩ : ∃ x, x = wr := ⟨wr, rfl⟩
            by_cases hlt : (i : Int) < (N : Int)
            · skip
              obtain ⟨l1_, q1⟩ := UY.out.cellg i (by omega)
              obtain ⟨l2_, q2⟩ := UV.out.cellg i (by omega)
              rw [HYV.out i (by omega)] at q1
              obtain ⟨v, hv⟩ : ∃ v, zV i = v := ⟨_, rfl⟩
              rw [hv] at q1 q2
              clear hv
              go_wp2_with fail
              go_wp2_with fail
              have ct : Cnt 1 := Cnt.mk _
              go_region_held3 (fun w' => (w'.cell? ⟨gy, i, none⟩ = some (.int .u64 v)) ∧ (w'.cell? ⟨gv, i, none⟩ = some (.int .u64 v))) (simp [go_sem, *]) (first | fail)
              clear ct
              have hb_ : Below w7_.heap.size w7_ w7_.drew := (Below.refl _ _).drew
              generalize w7_.drew = w8_ at hb_ ⊢
              replace BW : Hid (Below _ _ _) := bstep BW.out hb_
              replace UV : Hid (URow _ _ _ _ _) := UV.out.below hb_
              replace UY : Hid (URow _ _ _ _ _) := UY.out.below hb_
              clear hb_
              go_wp2
              go_roundw
              case rel => exact ⟨i + 1, by go_num, by omega, BW, UV, UY⟩
              case measure => simp [intOf]; omega
            · obtain rfl : N = i := by omega
              go_wp2
              go_ret
              exact ⟨ret_eq rfl, BW.out⟩

/-! ### THE ROW's STEP: WRITTEN OUT: LEAVE IT -/
set_option maxRecDepth 100000 in
theorem lifted (os : Os) (started : os.Started) (H : Type) (enc : TypeId × Value → H) :
    ReturnsInHanded {} Try.checked os 9 .any (Rows.solveBackSpec.pre6 enc Try.prog Try.f9 Rows.solveBackRow.domain false) (Rows.solveBackSpec.post enc Try.prog Try.f9 false true false false) := by
  refine returnsInHanded_of_change (C := Try.checked) own started (by kernel_rfl) Try.func9
    (ChangeSpec.witness6 (enc := enc) (C := Try.checked) false ⟨#[], #[.int .i64 0, .slice none 0 0, .slice none 0 0, .bool false], []⟩ 8 (by kernel_rfl) (by kernel_rfl) (by kernel_rfl) (by kernel_rfl)) ?_
  intro W base args ds gs before hval0 hW hcnd _
  have hval : ∀ (j : Nat) t v, Try.f9.params[j]? = some t → args[j]? = some v → Value.okWide Try.prog W .any base t v := hval0
  have hW' := hW
  obtain ⟨p, q, hA0, hV, rfl, hfz, hnd⟩ := hW
  have hA : DataW.TrodAll enc Try.prog W 0 (fun _ => true) true Try.f9.params.toList args.toList ds p := hA0
  rw [Try.params9] at hA hval
  obtain ⟨v0, vs0, d0, ds0, p0, q0, hargs, rfl, rfl, h0, r0⟩ := trodAll_cons hA
  obtain ⟨v1, vs1, d1, ds1, p1, q1, rfl, rfl, rfl, h1, r1⟩ := trodAll_cons r0
  obtain ⟨v2, vs2, d2, ds2, p2, q2, rfl, rfl, rfl, h2, r2⟩ := trodAll_cons r1
  obtain ⟨v3, vs3, d3, ds3, p3, q3, rfl, rfl, rfl, h3, r3⟩ := trodAll_cons r2
  obtain ⟨rfl, rfl, rfl⟩ := trodAll_nil r3
  obtain rfl : args = #[v0, v1, v2, v3] := by cases args; simp_all
  obtain ⟨rfl, rfl⟩ := trodVars_none hV
  obtain ⟨a0, rfl, rfl, rfl, w0⟩ := open_int Try.underlying3 (hval 0 3 v0 rfl rfl) h0
  obtain ⟨a1, len1, cap1, rfl⟩ := okWide_slice Try.underlying60 (hval 1 60 v1 rfl rfl)
  have k1 := h1
  have lt1 : ∀ x ∈ p1, x.block < W.heap.size := by obtain ⟨m, hm⟩ := k1; exact DataW.trod_lt m _ _ _ hm
  obtain ⟨z1, w1⟩ : ∃ zs, IsRow .i64 W a1 len1 cap1 zs := by
    obtain ⟨fuel, hf⟩ := h1
    rcases open_ints Try.underlying60 Try.underlying3 (by kernel_rfl) hf with ⟨hcs, _⟩ | ⟨x, l, c, zs, hcs, _, hl, hm, hz, _, hcell, hwz⟩
    · simp [Value.cells] at hcs
      obtain ⟨rfl, rfl, rfl⟩ := hcs
      exact ⟨[], .inl ⟨rfl, rfl, rfl, rfl⟩⟩
    · simp [Value.cells] at hcs
      obtain ⟨rfl, rfl, rfl⟩ := hcs
      exact ⟨zs, .inr ⟨_, rfl, hl, hm, by simpa using hz, hcell, hwz⟩⟩
  obtain ⟨a2, len2, cap2, rfl⟩ := okWide_slice Try.underlying60 (hval 2 60 v2 rfl rfl)
  have k2 := h2
  have lt2 : ∀ x ∈ p2, x.block < W.heap.size := by obtain ⟨m, hm⟩ := k2; exact DataW.trod_lt m _ _ _ hm
  obtain ⟨z2, w2⟩ : ∃ zs, IsRow .i64 W a2 len2 cap2 zs := by
    obtain ⟨fuel, hf⟩ := h2
    rcases open_ints Try.underlying60 Try.underlying3 (by kernel_rfl) hf with ⟨hcs, _⟩ | ⟨x, l, c, zs, hcs, _, hl, hm, hz, _, hcell, hwz⟩
    · simp [Value.cells] at hcs
      obtain ⟨rfl, rfl, rfl⟩ := hcs
      exact ⟨[], .inl ⟨rfl, rfl, rfl, rfl⟩⟩
    · simp [Value.cells] at hcs
      obtain ⟨rfl, rfl, rfl⟩ := hcs
      exact ⟨zs, .inr ⟨_, rfl, hl, hm, by simpa using hz, hcell, hwz⟩⟩
  obtain ⟨a3, rfl, rfl, rfl⟩ := open_bool Try.underlying4 (hval 3 4 v3 rfl rfl) h3
  clear hA0 hval0
  refine (walk a0 a1 len1 cap1 z1 a2 len2 cap2 z2 a3 W w0 w1 w2).mono fun e W' ⟨he, bel⟩ => ?_
  subst he
  exact ⟨_, rfl, _, _, _, [], _, [], hW', trodAll_mk1 (shut_bool Try.underlying4 _), (trodAll_cons_mk (shut_int Try.underlying3 w0) (trodAll_cons_mk (Below.trod laidOut (by kernel_rfl) (of_decide_eq_true (by kernel_rfl)) k1 bel lt1) (trodAll_cons_mk (Below.trod laidOut (by kernel_rfl) (of_decide_eq_true (by kernel_rfl)) k2 bel lt2) (trodAll_cons_mk (shut_bool Try.underlying4 _) trodAll_mk0)))), rfl, bel.frame _, fun h => by cases h⟩

theorem over : Rows.solveBackRow.holds Try.pinned (OpenSpec.ofChange Rows.solveBackSpec) :=
  OpenClaim.holds_of_wide 9 Try.f9 rfl rfl rfl rfl rfl rfl rfl ⟨rfl, rfl, rfl, rfl, rfl⟩ rfl rfl rfl rfl rfl (by kernel_rfl) Try.func9 (by kernel_rfl)
    (of_decide_eq_true (by kernel_rfl)) (by unfold Func.isWrapper; first | (rw [if_pos (by decide +kernel)]; kernel_rfl) | (rw [if_neg (by decide +kernel)]; exact ⟨rfl, rfl⟩))
    (fun os started H enc _ => lifted os started H enc)

/-- ████ THE STATEMENT ████ -/
theorem proved : Rows.SolveBackSaid := over
#print axioms proved
end Go.Proofs.Ytpakpgjbgehhjaa.solveBack
