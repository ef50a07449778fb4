/-
  The law SolveNears returns true at every input (any size, any slice of patterns, either triangle), and leaves its arguments as they were. No conditions.
-/
import Derived.Test.YtpakpgjbgehhjaaGreatRows
import Derived.WalkKit
import Derived.ProofKit
import Derived.OpenShut
import Derived.Test.YtpakpgjbgehhjaaGreatGrAE
import Derived.Test.YtpakpgjbgehhjaaGreatGrAK
import Derived.Test.YtpakpgjbgehhjaaGreatGrO
import Derived.Test.YtpakpgjbgehhjaaGreatGrR
import Derived.Test.YtpakpgjbgehhjaaGreatGrU
import Derived.Test.YtpakpgjbgehhjaaGreatGrZ
import Derived.ShutString
import Derived.ChangeOld
import Derived.Below
namespace Go.Proofs.YtpakpgjbgehhjaaGreat.solveNears
open Go.ChangeShapes Go.WideShapes Go.ChangeAt Go.RowKit
open Go.ChangeMaps (open_string shut_string)
set_option linter.unusedVariables false

theorem own : ownKnob Tryz.prog.godebug = none := by kernel_rfl
theorem laidOut : laidOutB Tryz.prog = true := by kernel_rfl

/-- WHAT THE WALK IS TOLD OF A SLICE OF INTEGERS THAT CAME IN: it is nil; or it leads to a row of 'cap' cells, the numbers 'zs' (the first 'len' are its elements, the rest its spare room), each fitting its kind. -/
def IsRow (k : IntKind) (w : World) (a : Option Addr) (len cap : Nat) (zs : List Int) : Prop :=
  (a = none ∧ len = 0 ∧ cap = 0 ∧ zs = []) ∨
  ∃ x, a = some x ∧ len ≤ cap ∧ cap ≤ maxLen ∧ zs.length = cap ∧ (∀ i, i < zs.length → w.cell? (x.add i) = some (.int k (zs.getD i 0))) ∧ ∀ n ∈ zs, (Lit.int k n).wf = true

set_option linter.unusedSimpArgs false
theorem row_of (w : World) (a : Option Addr) (len cap : Nat) (zs : List Int) (h : IsRow .u64 w a len cap zs) : URow w a len cap (fun i => zs.getD i 0) := by
  rcases h with ⟨rfl, rfl, rfl, rfl⟩ | ⟨x, rfl, h1, h2, h3, h4, h5⟩
  · exact ⟨Nat.le_refl _, Nat.zero_le _, fun i => by simp, fun h => absurd h (Nat.lt_irrefl 0)⟩
  · refine ⟨h1, h2, fun i => ?_, fun hp => ?_⟩
    · show 0 ≤ zs.getD i 0 ∧ zs.getD i 0 < 18446744073709551616
      rcases Nat.lt_or_ge i zs.length with g | g
      · have hm : zs.getD i 0 ∈ zs := by
          rw [List.getD_eq_getElem?_getD, List.getElem?_eq_getElem g]
          exact List.getElem_mem g
        obtain ⟨q1, q2⟩ := bounds_u64 (h5 _ hm)
        exact ⟨q1, by omega⟩
      · rw [List.getD_eq_getElem?_getD, List.getElem?_eq_none g]
        simp
    · obtain ⟨b, o, s⟩ := x
      have hs : s = none := by simpa [Addr.add] using World.cell?_spot (h4 0 (by omega))
      subst hs
      have hb : b < w.heap.size := by
        have := World.block_lt_of_cell? _ _ (h4 0 (by omega))
        simpa [Addr.add] using this
      refine ⟨b, o, rfl, hb, fun i hi => ?_⟩
      have := h4 i (by omega)
      rw [add_plain] at this
      exact this
set_option maxRecDepth 100000 in
set_option maxHeartbeats 8000000 in
theorem walk (a0 : Int) (a1 : Option Addr) (len1 cap1 : Nat) (z1 : List Int) (a2 : Bool) (a3 : Bool) (w : World) (w0 : (Lit.int .i64 a0).wf = true) (w1 : IsRow .u64 w a1 len1 cap1 z1) :
    Calls Tryz.prog 3 #[.int .i64 a0, .slice a1 len1 cap1, .bool a2, .bool a3] w fun e w' => e = .returned (.bool true) ∧ Below w.heap.size w w' := by
  have hr := row_of w a1 len1 cap1 z1 w1
  generalize (fun i => z1.getD i 0) = U at hr
  clear w0 w1
  have a0e := and_7_i a0
  obtain ⟨N, hN⟩ : ∃ R : Nat, (R : Int) = a0 % 8 := ⟨(a0 % 8).toNat, by omega⟩
  rw [← hN] at a0e
  have hN7 : N ≤ 7 := by omega
  clear hN
  have hNN : N * N ≤ 49 := Nat.mul_le_mul hN7 hN7
  obtain ⟨lx, cx⟩ := hr.lenB
  have HR : Hid (URow _ _ _ _ _) := hr
  clear hr
  by_cases hl : 100 < len1
  · have hl2 : (100 : Int) < (len1 : Int) := by omega
    go_enter Tryz.func3, Tryz.ntmps3
    go_wp2_with fail
    refine (lHead12 _).mono ?_
    rintro e w1 ⟨rfl, hb1⟩
    go_wp2
    go_ret
    exact ⟨ret_eq rfl, hb1⟩
  have hl2 : ¬ (100 : Int) < (len1 : Int) := by omega
  have hdl : decide ((100 : Int) < (len1 : Int)) = false := decide_eq_false hl2
  obtain ⟨zM, hzM⟩ : ∃ z : Nat → Int, z = mC U len1 0 0 := ⟨_, rfl⟩
  obtain ⟨zX, hzX⟩ : ∃ z : Nat → Int, z = mC U len1 5 4607182418800017408 := ⟨_, rfl⟩
  have HzM : Hid (_ = _) := hzM
  have HzX : Hid (_ = _) := hzX
  clear hzM hzX
  have TM : Hid (Rgt (N : Int) (N : Int) (N : Int) (N * N)) := tight N N (by omega) (by omega)
  go_enter Tryz.func3, Tryz.ntmps3
  go_wp2_with fail
  refine (lHead12 _).mono ?_
  rintro e w1 ⟨rfl, hb1⟩
  have BW : Hid (Below w.heap.size w w1) := hb1
  have UA : Hid (URow w1 a1 len1 cap1 U) := HR.out.below hb1
  clear hb1 HR
  go_wp2_with fail
  refine (lMade12 N 0 a1 len1 cap1 U _ UA.out (by omega) (by omega) (by omega)).mono ?_
  rintro e w1_ ⟨gM, rfl, _, hU_, hb1_⟩
  rw [← HzM.out] at hU_
  replace BW : Hid (Below _ _ _) := bstep BW.out hb1_
  replace UA : Hid (URow _ _ _ _ _) := UA.out.below hb1_
  clear hb1_
  have UM : Hid (URow w1_ (some ⟨gM, 0, none⟩) (N * N) (N * N) zM) := hU_
  clear hU_
  go_wp2_with fail
  have m_ := MBox.made w1_ (N : Int) (N : Int) (N : Int) (.slice (some ⟨gM, 0, none⟩) (N * N) (N * N))
  have b_ : Below w1_.heap.size w1_ (w1_.alloc (.cells #[.int .i64 (N : Int), .int .i64 (N : Int), .int .i64 (N : Int), .slice (some ⟨gM, 0, none⟩) (N * N) (N * N)] 25)) := (Below.refl _ _).alloc (Nat.le_refl _) _
  obtain ⟨k_M, hk_M⟩ : ∃ k, k = w1_.heap.size := ⟨_, rfl⟩
  have L_M : Hid (w.heap.size ≤ k_M) := by rw [hk_M]; exact BW.out.size
  rw [← hk_M] at m_ ⊢
  generalize (w1_.alloc (.cells #[.int .i64 (N : Int), .int .i64 (N : Int), .int .i64 (N : Int), .slice (some ⟨gM, 0, none⟩) (N * N) (N * N)] 25)) = w2_ at m_ b_ ⊢
  replace BW : Hid (Below _ _ _) := bstep BW.out b_
  replace UA : Hid (URow _ _ _ _ _) := UA.out.below b_
  replace UM : Hid (URow _ _ _ _ _) := UM.out.below b_
  have M : Hid (MBox w2_ k_M (N : Int) (N : Int) (N : Int) (.slice (some ⟨gM, 0, none⟩) (N * N) (N * N))) := m_
  clear m_ b_ hk_M
  refine (lList12 N 5 a1 len1 cap1 U _ UA.out (by omega) (by omega) (by omega)).mono ?_
  rintro e w3_ ⟨gx, cx0, rfl, hgx_, hO_, hU_, hb3_⟩
  rw [← HzX.out] at hU_
  clear hgx_ hO_
  replace BW : Hid (Below _ _ _) := bstep BW.out hb3_
  replace UA : Hid (URow _ _ _ _ _) := UA.out.below hb3_
  replace UM : Hid (URow _ _ _ _ _) := UM.out.below hb3_
  replace M : Hid (MBox _ _ _ _ _ _) := M.out.below hb3_
  clear hb3_
  have Ux : Hid (URow w3_ (some ⟨gx, 0, none⟩) N cx0 zX) := hU_
  clear hU_
  clear UA
  obtain ⟨M_0, M_1, M_2, M_3, M_4⟩ := M.out
  go_wp2_with fail
  have nc_ := calc_new w3_
  have bV_ : Below w3_.heap.size w3_ (w3_.alloc (.cells #[.int .u8 0] 31)) := bmore (Below.refl _ _) _
  clear M_0 M_1 M_2 M_3 M_4
  generalize (w3_.alloc (.cells #[.int .u8 0] 31)) = w4_ at nc_ bV_ ⊢
  obtain ⟨kc, hkc_⟩ : ∃ k, k = w3_.heap.size := ⟨_, rfl⟩
  rw [← hkc_] at nc_ ⊢
  have Oc : Hid (w.heap.size ≤ kc) := by show _ ≤ _; have := BW.out.size; omega
  have A_c_UM : Hid (Apt (some kc) (some ⟨gM, 0, none⟩) (N * N)) := UM.out.apt (fun k e => by injection e with e; omega)
  have A_c_M : Hid (kc ≠ k_M) := by have := M.out.2.2.2.2; show _ ≠ _; omega
  have A_c_Ux : Hid (Apt (some kc) (some ⟨gx, 0, none⟩) N) := Ux.out.apt (fun k e => by injection e with e; omega)
  replace BW : Hid (Below _ _ _) := bstep BW.out bV_
  replace UM : Hid (URow _ _ _ _ _) := UM.out.below bV_
  replace M : Hid (MBox _ _ _ _ _ _) := M.out.below bV_
  replace Ux : Hid (URow _ _ _ _ _) := Ux.out.below bV_
  clear bV_ hkc_
  have Hc : Hid (IsCalc w4_ (.pointer (some ⟨kc, 0, none⟩)) (some kc) (0)) := nc_
  clear nc_
  by_cases hz : a3 = false ∧ ∃ i, i < N ∧ zM (i * N + i) % 9223372036854775808 = 0
  · skip
    obtain ⟨ha3, hz⟩ := hz
    subst ha3
    have HZ0 : Hid (∃ i, i < N ∧ zM (i * N + i) % 9223372036854775808 = 0) := hz
    clear hz
    refine (sTrsvSing a2 (.pointer (some ⟨kc, 0, none⟩)) N N _ _ _ zM _ _ _ TM.out UM.out HZ0.out).mono ?_
    rintro e w5_ ⟨rfl, hb5_⟩
    replace BW : Hid (Below _ _ _) := bstep BW.out hb5_
    replace UM : Hid (URow _ _ _ _ _) := UM.out.below hb5_
    replace M : Hid (MBox _ _ _ _ _ _) := M.out.below hb5_
    replace Ux : Hid (URow _ _ _ _ _) := Ux.out.below hb5_
    replace Hc : Hid (IsCalc _ _ _ _) := Hc.out.later hb5_
    clear hb5_
    go_wp2
    go_ret
    exact ⟨ret_eq rfl, BW.out⟩
  · skip
    have HD : Hid (a3 = false → ∀ i, i < N → zM (i * N + i) % 9223372036854775808 ≠ 0) := fun h i hi g => hz ⟨h, i, hi, g⟩
    clear hz
    refine (sTrsv a2 a3 (.pointer (some ⟨kc, 0, none⟩)) (some kc) 0 N N _ _ _ zM _ _ zX _ Hc.out TM.out UM.out A_c_UM.out Ux.out A_c_Ux.out HD.out).mono ?_
    rintro e w5_ ⟨gy, rfl, hg_, hU_, hC_, hb5_⟩
    clear hg_
    replace BW : Hid (Below _ _ _) := Bes.old BW.out hb5_ Oc.out
    replace UM : Hid (URow _ _ _ _ _) := UM.out.bes hb5_ A_c_UM.out
    replace M : Hid (MBox _ _ _ _ _ _) := M.out.bes hb5_ (ne_some A_c_M.out)
    replace Ux : Hid (URow _ _ _ _ _) := Ux.out.bes hb5_ A_c_Ux.out
    clear hb5_
    clear Hc
    have Hc : Hid (IsCalc w5_ (.pointer (some ⟨kc, 0, none⟩)) (some kc) (svF a2 a3 0 zM N N zX N)) := hC_
    clear hC_
    have Uy : Hid (URow w5_ (some ⟨gy, 0, none⟩) N N (svX a2 a3 zM N N zX N)) := hU_
    clear hU_
    obtain ⟨FD, hFD⟩ : ∃ F, svF a2 a3 0 zM N N zX N = F := ⟨_, rfl⟩
    rw [hFD] at Hc
    have HFD : Hid (_ = _) := hFD
    clear hFD
    obtain ⟨c1, c2, c3⟩ := calc_cell Hc.out
    obtain ⟨G0, hG⟩ : ∃ G, bits .and .u8 FD 22 = G := ⟨_, rfl⟩
    by_cases hG0 : G0 = 0
    rotate_left
    · have hg0 : (G0 == 0) = false := by rw [beq_eq_false_iff_ne]; exact hG0
      go_wp2
      go_ret
      exact ⟨ret_eq rfl, BW.out⟩
    subst hG0
    have HF22 : Hid (bits .and .u8 (svF a2 a3 0 zM N N zX N) 22 = 0) := by rw [HFD.out]; exact hG
    by_cases fM : AllF zM N N N
    rotate_left
    · skip
      obtain ⟨M_0, M_1, M_2, M_3, M_4⟩ := M.out
      go_wp2_with fail
      refine (mFinNo N N N _ _ _ zM _ TM.out UM.out fM).mono ?_
      rintro e w6_ ⟨rfl, hb6_⟩
      clear M_0 M_1 M_2 M_3 M_4
      replace BW : Hid (Below _ _ _) := bstep BW.out hb6_
      replace UM : Hid (URow _ _ _ _ _) := UM.out.below hb6_
      replace M : Hid (MBox _ _ _ _ _ _) := M.out.below hb6_
      replace Ux : Hid (URow _ _ _ _ _) := Ux.out.below hb6_
      replace Hc : Hid (IsCalc _ _ _ _) := Hc.out.later hb6_
      replace Uy : Hid (URow _ _ _ _ _) := Uy.out.below hb6_
      clear hb6_
      go_wp2
      go_ret
      exact ⟨ret_eq rfl, BW.out⟩
    obtain ⟨M_0, M_1, M_2, M_3, M_4⟩ := M.out
    go_wp2_with fail
    refine (mFinOk N N N _ _ _ zM _ TM.out UM.out fM).mono ?_
    rintro e w6_ ⟨rfl, hb6_⟩
    clear M_0 M_1 M_2 M_3 M_4
    replace BW : Hid (Below _ _ _) := bstep BW.out hb6_
    replace UM : Hid (URow _ _ _ _ _) := UM.out.below hb6_
    replace M : Hid (MBox _ _ _ _ _ _) := M.out.below hb6_
    replace Ux : Hid (URow _ _ _ _ _) := Ux.out.below hb6_
    replace Hc : Hid (IsCalc _ _ _ _) := Hc.out.later hb6_
    replace Uy : Hid (URow _ _ _ _ _) := Uy.out.below hb6_
    clear hb6_
    have HFM : Hid (AllF zM N N N) := fM
    have XR : Hid (∀ i, 0 ≤ zX i ∧ zX i < 18446744073709551616) := Ux.out.2.2.1
    clear fM c1 c2 c3 hG
    clear Hc
    have OK : Hid (∀ k, k < 0 → mag (zX k) < 9218868437227405312) := fun k h => absurd h (Nat.not_lt_zero k)
    go_wp2_with fail
    go_loopw [14] (fun s14_ wr => ∃ (i : Nat) , s14_ = .int .i64 (i : Int) ∧ i ≤ N ∧ Hid (Below w.heap.size w wr) ∧ Hid (URow wr (some ⟨gM, 0, none⟩) (N * N) (N * N) zM) ∧ Hid (MBox wr k_M (N : Int) (N : Int) (N : Int) (.slice (some ⟨gM, 0, none⟩) (N * N) (N * N))) ∧ Hid (URow wr (some ⟨gx, 0, none⟩) N cx0 zX) ∧ Hid (URow wr (some ⟨gy, 0, none⟩) N N (svX a2 a3 zM N N zX N)) ∧ Hid (∀ k, k < i → mag (zX k) < 9218868437227405312)) (fun s14_ _ => N - (intOf s14_).toNat)
    case atStart => exact ⟨0, rfl, Nat.zero_le _, BW, UM, M, Ux, Uy, OK⟩
    case round =>
      clear BW UM M Ux Uy OK
      obtain ⟨i, rfl, hi_, BW, UM, M, Ux, Uy, OK⟩ := hrel
      obtain ⟨w7_, rfl⟩ : ∃ x, x = wr := ⟨wr, rfl⟩
      by_cases hlt : (i : Int) < (N : Int)
      · skip
        obtain ⟨l1_, q1⟩ := Ux.out.cellg i (by omega)
        obtain ⟨x0, x1⟩ := XR.out i
        obtain ⟨x, hx⟩ : ∃ x, zX i = x := ⟨_, rfl⟩
        have HX1 : Hid (_ = _) := hx
        rw [hx] at q1 x0 x1
        clear hx
        go_wp2_with fail
        refine (finite_any x _ x0 x1).mono ?_
        rintro e w' ⟨rfl, hw⟩
        have hw2 := hw.symm
        clear hw
        subst hw2
        rw [pat_dec x x0 x1]
        by_cases hf : mag x < 9218868437227405312
        · rw [decide_eq_true hf]
          have OK2 : Hid (∀ k, k < i + 1 → mag (zX k) < 9218868437227405312) := fun k hk => by
            rcases Nat.lt_or_ge k i with g | g
            · exact OK.out k g
            · rw [show k = i by omega, HX1.out]; exact hf
          clear hf
          go_wp2
          go_roundw
          case rel => exact ⟨i + 1, by go_num, by omega, BW, UM, M, Ux, Uy, OK2⟩
          case measure => simp [intOf]; omega
        · rw [decide_eq_false hf]
          clear hf
          go_wp2
          go_ret
          exact ⟨ret_eq rfl, BW.out⟩
      · obtain rfl : N = i := by omega
        have SN : Hid (∀ i, i < N → mag (svX a2 a3 zM N N zX N i) < 9218868437227405312 ∧ (sv (zX i) * ((2 ^ uu : Nat) : Int) - (fsum (fun k => sv (zM (i * N + (tb a2 i + k))) * sv (svX a2 a3 zM N N zX N (tb a2 i + k))) (tn a2 N i) + dgV a3 (svX a2 a3 zM N N zX N i) (zM (i * N + i)))).natAbs * 9007199254740992 ≤ (2 * N + 2) * (fabs (fun k => sv (zM (i * N + (tb a2 i + k))) * sv (svX a2 a3 zM N N zX N (tb a2 i + k))) (tn a2 N i) + (dgV a3 (svX a2 a3 zM N N zX N i) (zM (i * N + i))).natAbs)) := fun i hi => sv_near a2 a3 zM N N zX (by omega) XR.out OK.out HFM.out (fun h i hi => mag_nz _ (HD.out h i hi)) HF22.out i hi
        obtain ⟨XS, hXS⟩ : ∃ f, svX a2 a3 zM N N zX N = f := ⟨_, rfl⟩
        rw [hXS] at SN Uy
        have YR : Hid (∀ i, 0 ≤ XS i ∧ XS i < 18446744073709551616) := Uy.out.2.2.1
        clear hXS HF22
        go_wp2_with fail
        go_loopw [15] (fun s15_ wr => ∃ (i : Nat) , s15_ = .int .i64 (i : Int) ∧ i ≤ N ∧ Hid (Below w.heap.size w wr) ∧ Hid (URow wr (some ⟨gM, 0, none⟩) (N * N) (N * N) zM) ∧ Hid (MBox wr k_M (N : Int) (N : Int) (N : Int) (.slice (some ⟨gM, 0, none⟩) (N * N) (N * N))) ∧ Hid (URow wr (some ⟨gx, 0, none⟩) N cx0 zX) ∧ Hid (URow wr (some ⟨gy, 0, none⟩) N N XS)) (fun s15_ _ => N - (intOf s15_).toNat)
        case atStart => exact ⟨0, rfl, Nat.zero_le _, BW, UM, M, Ux, Uy⟩
        case round =>
          clear BW UM M Ux Uy
          obtain ⟨i, rfl, hi_, BW, UM, M, Ux, Uy⟩ := hrel
          obtain ⟨w8_, rfl⟩ : ∃ x, x = wr := ⟨wr, rfl⟩
          by_cases hlt : (i : Int) < (N : Int)
          · as_aux_lemma =>
              obtain ⟨B0, hB0⟩ : ∃ B, B = w8_.heap.size := ⟨_, rfl⟩
              have ZB0 : Hid (B0 ≤ w8_.heap.size) := by show _ ≤ _; omega
              have ZBI : Hid (w.heap.size ≤ B0) := by rw [hB0]; exact Below.size BW.out
              obtain ⟨sn1, sn2⟩ := SN.out i (by omega)
              obtain ⟨l1_, q1⟩ := Uy.out.cellg i (by omega)
              obtain ⟨x0, x1⟩ := YR.out i
              obtain ⟨d0, d1⟩ := UM.out.2.2.1 (i * N + i)
              have df := HFM.out i i (by omega) (by omega)
              obtain ⟨x, hx⟩ : ∃ v, XS i = v := ⟨_, rfl⟩
              obtain ⟨d, hd⟩ : ∃ v, zM (i * N + i) = v := ⟨_, rfl⟩
              rw [hx] at sn1 sn2 q1 x0 x1
              rw [hd] at sn2 d0 d1 df
              have FX : Hid (mag x < 9218868437227405312) := sn1
              have FDd : Hid (mag d < 9218868437227405312) := df
              have HD1 : Hid (_ = _) := hd
              obtain ⟨PP, hPP⟩ : ∃ f : Nat → Int, f = fun k => sv (zM (i * N + (tb a2 i + k))) * sv (XS (tb a2 i + k)) := ⟨_, rfl⟩
              rw [← hPP] at sn2
              have HPP : Hid (∀ k, PP k = sv (zM (i * N + (tb a2 i + k))) * sv (XS (tb a2 i + k))) := by rw [hPP]; exact fun _ => rfl
              obtain ⟨Dg, hDg⟩ : ∃ D, dgV a3 x d = D := ⟨_, rfl⟩
              rw [hDg] at sn2
              have HDG : Hid (_ = _) := hDg
              have SN2 : Hid (_ ≤ _) := sn2
              clear hx hd sn1 sn2 hPP df hDg
              go_wp2_with fail
              refine (lExact x _ x0 x1).mono ?_
              rintro e w9_ ⟨s_v, rfl, ht_, hb_⟩
              obtain ⟨s_n, s_a, s_m, s_c, s_p, rfl, ht2_⟩ := ht_.numform
              replace ht2_ := ht2_.base (b' := B0) ZB0.out
              clear ht_
              replace BW : Hid (Below _ _ _) := bstep BW.out hb_
              replace UM : Hid (URow _ _ _ _ _) := UM.out.below hb_
              replace M : Hid (MBox _ _ _ _ _ _) := M.out.below hb_
              replace Ux : Hid (URow _ _ _ _ _) := Ux.out.below hb_
              replace Uy : Hid (URow _ _ _ _ _) := Uy.out.below hb_
              replace ZB0 : Hid (_ ≤ _) := Nat.le_trans ZB0.out (Below.size hb_)
              clear hb_
              go_upto_region 21 with fail
              have mB_ := BoxF.made w9_ (.bool s_n) (.slice s_a s_m s_c) (.int .i64 s_p) (.slice none 0 0) 41
              have tB_ := ht2_.alloc (.cells #[.bool s_n, .slice s_a s_m s_c, .int .i64 s_p, .slice none 0 0] 41)
              have b_ := bmore (Below.refl w9_.heap.size w9_) (.cells #[.bool s_n, .slice s_a s_m s_c, .int .i64 s_p, .slice none 0 0] 41)
              clear ht2_
              have hsz_ : (w9_.alloc (.cells #[.bool s_n, .slice s_a s_m s_c, .int .i64 s_p, .slice none 0 0] 41)).heap.size = w9_.heap.size + 1 := by simp
              generalize (w9_.alloc (.cells #[.bool s_n, .slice s_a s_m s_c, .int .i64 s_p, .slice none 0 0] 41)) = w10_ at mB_ b_ tB_ hsz_ ⊢
              obtain ⟨k_s, hk_s⟩ : ∃ k, k = w9_.heap.size := ⟨_, rfl⟩
              have L_s : Hid (w.heap.size ≤ k_s) := by rw [hk_s]; exact Below.size BW.out
              have K_sM : Hid (k_s ≠ k_M) := by have := M.out.2.2.2.2; show _ ≠ _; omega
              have A_sUM : Hid (Apt (some k_s) (some ⟨gM, 0, none⟩) (N * N)) := UM.out.apt (fun k e => by injection e with e; omega)
              have A_sUx : Hid (Apt (some k_s) (some ⟨gx, 0, none⟩) N) := Ux.out.apt (fun k e => by injection e with e; omega)
              have A_sUy : Hid (Apt (some k_s) (some ⟨gy, 0, none⟩) N) := Uy.out.apt (fun k e => by injection e with e; omega)
              obtain ⟨B1, hB1⟩ : ∃ B, B = w10_.heap.size := ⟨_, rfl⟩
              have ZB1 : Hid (B1 ≤ w10_.heap.size) := by show _ ≤ _; omega
              have KB_s : Hid (k_s < B1) := by show _ < _; omega
              have HZ_B0B1 : Hid (B0 ≤ B1) := by have := ZB0.out; show _ ≤ _; omega
              rw [← hk_s] at mB_ ⊢
              replace BW : Hid (Below _ _ _) := bstep BW.out b_
              replace UM : Hid (URow _ _ _ _ _) := UM.out.below b_
              replace M : Hid (MBox _ _ _ _ _ _) := M.out.below b_
              replace Ux : Hid (URow _ _ _ _ _) := Ux.out.below b_
              replace Uy : Hid (URow _ _ _ _ _) := Uy.out.below b_
              replace ZB0 : Hid (_ ≤ _) := Nat.le_trans ZB0.out (Below.size b_)
              have b_s : Hid (BoxF w10_ k_s (.bool s_n) (.slice s_a s_m s_c) (.int .i64 s_p) (.slice none 0 0)) := mB_
              have t_s : Hid (Tell w10_ B0 (.agg #[.bool s_n, .slice s_a s_m s_c, .int .i64 s_p, .slice none 0 0]) 17 17 (xv x)) := tB_
              clear mB_ b_ tB_ hk_s hsz_
              clear hB1 hB0
              cases hun : a3
              case true =>
                subst hun
                have TS0 : Hid (Tell w10_ B0 (.agg #[.bool s_n, .slice s_a s_m s_c, .int .i64 s_p, .slice none 0 0]) 34 34 (Dg * 268435456)) := (t_s.out.up 34 34 (by omega) (by omega)).eq ((dg_unit x d FX.out).trans (by rw [HDG.out]))
                clear t_s
                obtain ⟨⟨b_s_0, b_s_1, b_s_2, b_s_3⟩, ⟨b_s_5, b_s_6, b_s_7, b_s_8⟩, b_s_4⟩ := b_s.out
                go_wp2_with fail
                refine (dAbs _ _ B0 34 34 _ TS0.out (by omega) (by omega)).mono ?_
                rintro e w11_ ⟨l_v, rfl, ht_, hb_⟩
                obtain ⟨l_n, l_a, l_m, l_c, l_p, rfl, ht2_⟩ := ht_.numform
                replace ht2_ := ht2_.base (b' := B1) ZB1.out
                clear ht_
                clear b_s_0 b_s_1 b_s_2 b_s_3 b_s_4 b_s_5 b_s_6 b_s_7 b_s_8
                replace BW : Hid (Below _ _ _) := bstep BW.out hb_
                replace UM : Hid (URow _ _ _ _ _) := UM.out.below hb_
                replace M : Hid (MBox _ _ _ _ _ _) := M.out.below hb_
                replace Ux : Hid (URow _ _ _ _ _) := Ux.out.below hb_
                replace Uy : Hid (URow _ _ _ _ _) := Uy.out.below hb_
                replace ZB0 : Hid (_ ≤ _) := Nat.le_trans ZB0.out (Below.size hb_)
                replace b_s : Hid (BoxF _ _ _ _ _ _) := b_s.out.below hb_
                replace ZB1 : Hid (_ ≤ _) := Nat.le_trans ZB1.out (Below.size hb_)
                replace TS0 : Hid (Tell _ _ _ _ _ _) := TS0.out.below hb_
                clear hb_
                go_upto_region 24 with fail
                have mB_ := BoxF.made w11_ (.bool l_n) (.slice l_a l_m l_c) (.int .i64 l_p) (.slice none 0 0) 41
                have tB_ := ht2_.alloc (.cells #[.bool l_n, .slice l_a l_m l_c, .int .i64 l_p, .slice none 0 0] 41)
                have b_ := bmore (Below.refl w11_.heap.size w11_) (.cells #[.bool l_n, .slice l_a l_m l_c, .int .i64 l_p, .slice none 0 0] 41)
                clear ht2_
                have hsz_ : (w11_.alloc (.cells #[.bool l_n, .slice l_a l_m l_c, .int .i64 l_p, .slice none 0 0] 41)).heap.size = w11_.heap.size + 1 := by simp
                generalize (w11_.alloc (.cells #[.bool l_n, .slice l_a l_m l_c, .int .i64 l_p, .slice none 0 0] 41)) = w12_ at mB_ b_ tB_ hsz_ ⊢
                obtain ⟨k_l, hk_l⟩ : ∃ k, k = w11_.heap.size := ⟨_, rfl⟩
                have N_sl : Hid (k_s ≠ k_l) := by have := b_s.out.2.2; show _ ≠ _; omega
                have L_l : Hid (w.heap.size ≤ k_l) := by rw [hk_l]; exact Below.size BW.out
                have K_lM : Hid (k_l ≠ k_M) := by have := M.out.2.2.2.2; show _ ≠ _; omega
                have A_lUM : Hid (Apt (some k_l) (some ⟨gM, 0, none⟩) (N * N)) := UM.out.apt (fun k e => by injection e with e; omega)
                have A_lUx : Hid (Apt (some k_l) (some ⟨gx, 0, none⟩) N) := Ux.out.apt (fun k e => by injection e with e; omega)
                have A_lUy : Hid (Apt (some k_l) (some ⟨gy, 0, none⟩) N) := Uy.out.apt (fun k e => by injection e with e; omega)
                obtain ⟨B2, hB2⟩ : ∃ B, B = w12_.heap.size := ⟨_, rfl⟩
                have ZB2 : Hid (B2 ≤ w12_.heap.size) := by show _ ≤ _; omega
                have KB_l : Hid (k_l < B2) := by show _ < _; omega
                have HZ_B0B2 : Hid (B0 ≤ B2) := by have := ZB0.out; show _ ≤ _; omega
                have HZ_B1B2 : Hid (B1 ≤ B2) := by have := ZB1.out; show _ ≤ _; omega
                rw [← hk_l] at mB_ ⊢
                replace BW : Hid (Below _ _ _) := bstep BW.out b_
                replace UM : Hid (URow _ _ _ _ _) := UM.out.below b_
                replace M : Hid (MBox _ _ _ _ _ _) := M.out.below b_
                replace Ux : Hid (URow _ _ _ _ _) := Ux.out.below b_
                replace Uy : Hid (URow _ _ _ _ _) := Uy.out.below b_
                replace ZB0 : Hid (_ ≤ _) := Nat.le_trans ZB0.out (Below.size b_)
                replace b_s : Hid (BoxF _ _ _ _ _ _) := b_s.out.below b_
                replace ZB1 : Hid (_ ≤ _) := Nat.le_trans ZB1.out (Below.size b_)
                replace TS0 : Hid (Tell _ _ _ _ _ _) := TS0.out.below b_
                have b_l : Hid (BoxF w12_ k_l (.bool l_n) (.slice l_a l_m l_c) (.int .i64 l_p) (.slice none 0 0)) := mB_
                have t_l : Hid (Tell w12_ B1 (.agg #[.bool l_n, .slice l_a l_m l_c, .int .i64 l_p, .slice none 0 0]) 34 34 (((Dg * 268435456).natAbs : Int))) := tB_
                clear mB_ b_ tB_ hk_l hsz_
                have KB_s2 : Hid (k_s < B2) := by have := KB_s.out; have := HZ_B1B2.out; show _ < _; omega
                clear hB2
                go_wp2_with fail
                go_loopw [18] (fun s18_ wr => ∃ (j : Nat) (s_n : Bool) (s_a : Option Addr) (s_m s_c : Nat) (s_p : Int) (l_n : Bool) (l_a : Option Addr) (l_m l_c : Nat) (l_p : Int), s18_ = .int .i64 (j : Int) ∧ j ≤ N ∧ Hid (Below w.heap.size w wr) ∧ Hid (URow wr (some ⟨gM, 0, none⟩) (N * N) (N * N) zM) ∧ Hid (MBox wr k_M (N : Int) (N : Int) (N : Int) (.slice (some ⟨gM, 0, none⟩) (N * N) (N * N))) ∧ Hid (URow wr (some ⟨gx, 0, none⟩) N cx0 zX) ∧ Hid (URow wr (some ⟨gy, 0, none⟩) N N XS) ∧ Hid (B0 ≤ wr.heap.size) ∧ Hid (B1 ≤ wr.heap.size) ∧ Hid (B2 ≤ wr.heap.size) ∧ Hid (BoxF wr k_s (.bool s_n) (.slice s_a s_m s_c) (.int .i64 s_p) (.slice none 0 0)) ∧ Hid (Tell wr B0 (.agg #[.bool s_n, .slice s_a s_m s_c, .int .i64 s_p, .slice none 0 0]) 34 (34 + (j : Int)) ((fsum PP (gp a2 i j) + Dg) * 268435456)) ∧ Hid (BoxF wr k_l (.bool l_n) (.slice l_a l_m l_c) (.int .i64 l_p) (.slice none 0 0)) ∧ Hid (Tell wr B1 (.agg #[.bool l_n, .slice l_a l_m l_c, .int .i64 l_p, .slice none 0 0]) 34 (34 + (j : Int)) (((fabs PP (gp a2 i j) + Dg.natAbs : Nat) : Int) * 268435456))) (fun s18_ _ => N - (intOf s18_).toNat)
                case atStart => exact ⟨0, s_n, s_a, s_m, s_c, s_p, l_n, l_a, l_m, l_c, l_p, rfl, Nat.zero_le _, BW, UM, M, Ux, Uy, ZB0, ZB1, ZB2, b_s, (TS0.out.wide _ (by omega)).eq (by rw [gp_zero]; show _ = (0 + Dg) * 268435456; rw [Int.zero_add]), b_l, (t_l.out.wide _ (by omega)).eq (by rw [gp_zero, Int.natAbs_mul]; show _ = ((0 + Dg.natAbs : Nat) : Int) * 268435456; rw [Nat.zero_add]; rfl)⟩
                case round =>
                  clear BW UM M Ux Uy ZB0 ZB1 ZB2 b_s b_l
                  obtain ⟨j, s_n, s_a, s_m, s_c, s_p, l_n, l_a, l_m, l_c, l_p, rfl, hj_, BW, UM, M, Ux, Uy, ZB0, ZB1, ZB2, b_s, t_s, b_l, t_l⟩ := hrel
                  obtain ⟨w13_, rfl⟩ : ∃ x, x = wr := ⟨wr, rfl⟩
                  by_cases hlt2 : (j : Int) < (N : Int)
                  · skip
                    go_wp2_with fail
                    refine (lIn i j a2 _).mono ?_
                    rintro e w' ⟨rfl, hw⟩
                    have hw2 := hw.symm
                    clear hw
                    subst hw2
                    by_cases hin : (if a2 then decide (i < j) else decide (j < i)) = true
                    · rw [hin]
                      obtain ⟨hg1, hg2⟩ := gp_in a2 i j hin
                      clear hin
                      obtain ⟨l2_, q2⟩ := Uy.out.cellg j (by omega)
                      obtain ⟨v0, v1⟩ := YR.out j
                      obtain ⟨y0, y1⟩ := UM.out.2.2.1 (i * N + j)
                      have vf := (SN.out j (by omega)).1
                      have yf := HFM.out i j (by omega) (by omega)
                      have hpp := HPP.out (gp a2 i j)
                      rw [hg2] at hpp
                      obtain ⟨v, hv⟩ : ∃ v, XS j = v := ⟨_, rfl⟩
                      obtain ⟨y, hy⟩ : ∃ v, zM (i * N + j) = v := ⟨_, rfl⟩
                      rw [hv] at q2 v0 v1 vf hpp
                      rw [hy] at y0 y1 yf hpp
                      have HY1 : Hid (_ = _) := hy
                      have HXY : Hid (xv y * xv v = PP (gp a2 i j) * 268435456) := (xv_mul y v yf vf).trans (by rw [hpp])
                      have HG1 : Hid (_ = _) := hg1
                      clear hv hy vf yf hpp hg1 hg2
                      obtain ⟨M_0, M_1, M_2, M_3, M_4⟩ := M.out
                      go_wp2_with fail
                      clear M_0 M_1 M_2 M_3 M_4
                      go_cut [19] (fun t wx => ∃ (k_p : Nat) (p_n : Bool) (p_a : Option Addr) (p_m p_c : Nat) (p_p : Int), t = .pointer (some ⟨k_p, 0, none⟩) ∧ Hid (k_s ≠ k_p) ∧ Hid (k_l ≠ k_p) ∧ Hid (BoxF wx k_p (.bool p_n) (.slice p_a p_m p_c) (.int .i64 p_p) (.slice none 0 0)) ∧ Hid (Tell wx B2 (.agg #[.bool p_n, .slice p_a p_m p_c, .int .i64 p_p, .slice none 0 0]) 34 34 (xv y * xv v)) ∧ Hid (Below w.heap.size w wx) ∧ Hid (URow wx (some ⟨gM, 0, none⟩) (N * N) (N * N) zM) ∧ Hid (MBox wx k_M (N : Int) (N : Int) (N : Int) (.slice (some ⟨gM, 0, none⟩) (N * N) (N * N))) ∧ Hid (URow wx (some ⟨gx, 0, none⟩) N cx0 zX) ∧ Hid (URow wx (some ⟨gy, 0, none⟩) N N XS) ∧ Hid (B0 ≤ wx.heap.size) ∧ Hid (B1 ≤ wx.heap.size) ∧ Hid (B2 ≤ wx.heap.size) ∧ Hid (BoxF wx k_s (.bool s_n) (.slice s_a s_m s_c) (.int .i64 s_p) (.slice none 0 0)) ∧ Hid (Tell wx B0 (.agg #[.bool s_n, .slice s_a s_m s_c, .int .i64 s_p, .slice none 0 0]) 34 (34 + (j : Int)) ((fsum PP (gp a2 i j) + Dg) * 268435456)) ∧ Hid (BoxF wx k_l (.bool l_n) (.slice l_a l_m l_c) (.int .i64 l_p) (.slice none 0 0)) ∧ Hid (Tell wx B1 (.agg #[.bool l_n, .slice l_a l_m l_c, .int .i64 l_p, .slice none 0 0]) 34 (34 + (j : Int)) (((fabs PP (gp a2 i j) + Dg.natAbs : Nat) : Int) * 268435456)))
                      case first =>
                        have HBa : Hid (Below w13_.heap.size w13_ w13_) := Below.refl _ _
                        have dh : ∀ w : World, w.drew.heap = w.heap := fun _ => rfl
                        have ct : Cnt 1 := Cnt.mk _
                        go_region_held3 (fun w' => (w'.cell? ⟨k_M, 0, none⟩ = some (.int .i64 (N : Int)) ∧ w'.cell? ⟨k_M, 1, none⟩ = some (.int .i64 (N : Int)) ∧ w'.cell? ⟨k_M, 2, none⟩ = some (.int .i64 (N : Int)) ∧ w'.cell? ⟨k_M, 3, none⟩ = some (.slice (some ⟨gM, 0, none⟩) (N * N) (N * N))) ∧ (w'.cell? ⟨gy, j, none⟩ = some (.int .u64 v))) (exact ⟨(M.out.below (by with_reducible repeat (first | (refine Below.drew ?_) | (refine bmore ?_ _) | (refine Below.setCell ?_ (by first | omega | (simp [dh] <;> omega)) _) | exact HBa.out | exact Below.refl _ _))).cells, ((Below.cell (by with_reducible repeat (first | (refine Below.drew ?_) | (refine bmore ?_ _) | (refine Below.setCell ?_ (by first | omega | (simp [dh] <;> omega)) _) | exact HBa.out | exact Below.refl _ _)) l2_).trans q2)⟩) (first | (have ck : Cnt 1 := ct; go_at_call 13; refine (mAtN N N N _ _ _ zM i j _ TM.out (UM.out.below (by with_reducible repeat (first | (refine Below.drew ?_) | (refine bmore ?_ _) | (refine Below.setCell ?_ (by first | omega | (simp [dh] <;> omega)) _) | exact HBa.out | exact Below.refl _ _))) (by omega) (by omega)).mono ?_; rintro e Wq0_ ⟨rfl, hb_⟩; rw [HY1.out]; obtain ⟨pc0, pf0⟩ := bcell hb_; have hr0 : ∀ b, b < _ → b < Wq0_.heap.size := (fun b h => Nat.lt_of_lt_of_le h hb_.size); have hq0 := hb_.size; (try simp [dh] at hq0); have hbt_ : Below w13_.heap.size w13_ Wq0_ := bstep (by with_reducible repeat (first | (refine Below.drew ?_) | (refine bmore ?_ _) | (refine Below.setCell ?_ (by first | omega | (simp [dh] <;> omega)) _) | exact (Below.refl _ _) | exact Below.refl _ _)) hb_; replace HBa : Hid (Below w13_.heap.size w13_ Wq0_) := bstep HBa.out hbt_; have hsz0 := HBa.out.size; (try (have hT00 : w13_.heap.size < Wq0_.heap.size := by omega)); replace ct : Cnt 2 := Cnt.mk _; clear hb_ hbt_ ck) | (have ck : Cnt 2 := ct; go_at_call 11; refine (lExact y _ y0 y1).mono ?_; rintro e Wq1_ ⟨r1x1_v, rfl, ht_, hb_⟩; obtain ⟨r1x1_n, r1x1_a, r1x1_m, r1x1_c, r1x1_p, rfl, ht2_⟩ := ht_.numform; clear ht_; obtain ⟨pc1, pf1⟩ := bcell hb_; have hr1 : ∀ b, b < _ → b < Wq1_.heap.size := (fun b h => Nat.lt_of_lt_of_le h hb_.size); have hq1 := hb_.size; (try simp [dh] at hq1); have hbt_ : Below Wq0_.heap.size Wq0_ Wq1_ := bstep (by with_reducible repeat (first | (refine Below.drew ?_) | (refine bmore ?_ _) | (refine Below.setCell ?_ (by first | omega | (simp [dh] <;> omega)) _) | exact (Below.refl _ _) | exact Below.refl _ _)) hb_; have t_r1x1 : Hid (Tell Wq1_ B2 (.agg #[.bool r1x1_n, .slice r1x1_a r1x1_m r1x1_c, .int .i64 r1x1_p, .slice none 0 0]) 17 17 (xv y)) := ht2_.base (Nat.le_trans ZB2.out (Below.size (B := w13_.heap.size) (by with_reducible repeat (first | (refine Below.drew ?_) | (refine bmore ?_ _) | (refine Below.setCell ?_ (by first | omega | (simp [dh] <;> omega)) _) | exact HBa.out | exact Below.refl _ _)))); clear ht2_; replace HBa : Hid (Below w13_.heap.size w13_ Wq1_) := bstep HBa.out hbt_; have hsz1 := HBa.out.size; (try (have hT10 : w13_.heap.size < Wq1_.heap.size := by omega)); (try (have hT11 : Wq0_.heap.size < Wq1_.heap.size := by omega)); replace ct : Cnt 3 := Cnt.mk _; clear hb_ hbt_ ck) | (have ck : Cnt 3 := ct; go_at_call 11; refine (lExact v _ v0 v1).mono ?_; rintro e Wq2_ ⟨r1x2_v, rfl, ht_, hb_⟩; obtain ⟨r1x2_n, r1x2_a, r1x2_m, r1x2_c, r1x2_p, rfl, ht2_⟩ := ht_.numform; clear ht_; obtain ⟨pc2, pf2⟩ := bcell hb_; have hr2 : ∀ b, b < _ → b < Wq2_.heap.size := (fun b h => Nat.lt_of_lt_of_le h hb_.size); have hq2 := hb_.size; (try simp [dh] at hq2); have hbt_ : Below Wq1_.heap.size Wq1_ Wq2_ := bstep (by with_reducible repeat (first | (refine Below.drew ?_) | (refine bmore ?_ _) | (refine Below.setCell ?_ (by first | omega | (simp [dh] <;> omega)) _) | exact (Below.refl _ _) | exact Below.refl _ _)) hb_; have t_r1x2 : Hid (Tell Wq2_ B2 (.agg #[.bool r1x2_n, .slice r1x2_a r1x2_m r1x2_c, .int .i64 r1x2_p, .slice none 0 0]) 17 17 (xv v)) := ht2_.base (Nat.le_trans ZB2.out (Below.size (B := w13_.heap.size) (by with_reducible repeat (first | (refine Below.drew ?_) | (refine bmore ?_ _) | (refine Below.setCell ?_ (by first | omega | (simp [dh] <;> omega)) _) | exact HBa.out | exact Below.refl _ _)))); clear ht2_; replace t_r1x1 : Hid (Tell _ _ _ _ _ _) := t_r1x1.out.below hbt_; replace HBa : Hid (Below w13_.heap.size w13_ Wq2_) := bstep HBa.out hbt_; have hsz2 := HBa.out.size; (try (have hT20 : w13_.heap.size < Wq2_.heap.size := by omega)); (try (have hT21 : Wq0_.heap.size < Wq2_.heap.size := by omega)); (try (have hT22 : Wq1_.heap.size < Wq2_.heap.size := by omega)); replace ct : Cnt 4 := Cnt.mk _; clear hb_ hbt_ ck) | (have ck : Cnt 4 := ct; go_at_call 12; refine (dMul _ _ _ B2 17 17 17 17 _ _ (t_r1x1.out.below (by with_reducible repeat (first | (refine Below.drew ?_) | (refine bmore ?_ _) | (refine Below.setCell ?_ (by first | omega | (simp [dh] <;> omega)) _) | exact (Below.refl _ _) | exact Below.refl _ _))) (t_r1x2.out.below (by with_reducible repeat (first | (refine Below.drew ?_) | (refine bmore ?_ _) | (refine Below.setCell ?_ (by first | omega | (simp [dh] <;> omega)) _) | exact (Below.refl _ _) | exact Below.refl _ _))) (by omega) (by omega) (by omega) (by omega) (by omega) (by omega)).mono ?_; rintro e Wq3_ ⟨r1x3_v, rfl, ht_, hb_⟩; obtain ⟨r1x3_n, r1x3_a, r1x3_m, r1x3_c, r1x3_p, rfl, ht2_⟩ := ht_.numform; clear ht_; obtain ⟨pc3, pf3⟩ := bcell hb_; have hr3 : ∀ b, b < _ → b < Wq3_.heap.size := (fun b h => Nat.lt_of_lt_of_le h hb_.size); have hq3 := hb_.size; (try simp [dh] at hq3); have hbt_ : Below Wq2_.heap.size Wq2_ Wq3_ := bstep (by with_reducible repeat (first | (refine Below.drew ?_) | (refine bmore ?_ _) | (refine Below.setCell ?_ (by first | omega | (simp [dh] <;> omega)) _) | exact (Below.refl _ _) | exact Below.refl _ _)) hb_; obtain ⟨Br_, hBr_, t_r1x3⟩ := tell_base ht2_; have hBq_ : w13_.heap.size ≤ Br_ := (by rw [hBr_]; exact Below.size (B := w13_.heap.size) (by with_reducible repeat (first | (refine Below.drew ?_) | (refine bmore ?_ _) | (refine Below.setCell ?_ (by first | omega | (simp [dh] <;> omega)) _) | exact HBa.out | exact Below.refl _ _))); (try simp [dh] at hBr_); clear ht2_; replace t_r1x3 : Tell Wq3_ Br_ (.agg #[.bool r1x3_n, .slice r1x3_a r1x3_m r1x3_c, .int .i64 r1x3_p, .slice none 0 0]) 34 34 (xv y * xv v) := t_r1x3; replace t_r1x1 : Hid (Tell _ _ _ _ _ _) := t_r1x1.out.below hbt_; replace t_r1x2 : Hid (Tell _ _ _ _ _ _) := t_r1x2.out.below hbt_; replace HBa : Hid (Below w13_.heap.size w13_ Wq3_) := bstep HBa.out hbt_; have hsz3 := HBa.out.size; (try (have hT30 : w13_.heap.size < Wq3_.heap.size := by omega)); (try (have hT31 : Wq0_.heap.size < Wq3_.heap.size := by omega)); (try (have hT32 : Wq1_.heap.size < Wq3_.heap.size := by omega)); (try (have hT33 : Wq2_.heap.size < Wq3_.heap.size := by omega)); replace ct : Cnt 5 := Cnt.mk _; clear hb_ hbt_ ck))
                        all_goals
                          go_wp2
                          go_meet
                          refine ⟨_, r1x3_n, r1x3_a, r1x3_m, r1x3_c, r1x3_p, rfl, (by have := b_s.out.2.2; show _ ≠ _; first | omega | (simp [dh] <;> omega)), (by have := b_l.out.2.2; show _ ≠ _; first | omega | (simp [dh] <;> omega)), (by show BoxF _ _ _ _ _ _; first | (with_reducible exact BoxF.made _ _ _ _ _ _) | (with_reducible refine BoxF.four ?_ ?_ ?_ ?_ ?_ ?_ ?_ ?_ ?_) <;> (first | (simp [go_sem, pc0, pf0, hr0, pc1, pf1, hr1, pc2, pf2, hr2, pc3, pf3, hr3]; done) | (simp [go_sem, pc0, pf0, hr0, pc1, pf1, hr1, pc2, pf2, hr2, pc3, pf3, hr3, hT00, hT10, hT20, hT30]; done) | (simp [go_sem, pc0, pf0, hr0, pc1, pf1, hr1, pc2, pf2, hr2, pc3, pf3, hr3, hT11, hT21, hT31]; done) | (simp [go_sem, pc0, pf0, hr0, pc1, pf1, hr1, pc2, pf2, hr2, pc3, pf3, hr3, hT22, hT32]; done) | (simp [go_sem, pc0, pf0, hr0, pc1, pf1, hr1, pc2, pf2, hr2, pc3, pf3, hr3, hT33]; done) | (simp [dh]; omega) | omega)), (by show Tell _ _ _ _ _ _; refine Tell.base (b := Br_) ?_ (Nat.le_trans ZB2.out hBq_); with_reducible repeat (first | exact t_r1x3 | (refine Tell.drew ?_) | (refine Tell.alloc ?_ _) | (refine Tell.set ?_ (by first | omega | (simp [dh] <;> omega)) _))), bstep BW.out (by with_reducible repeat (first | (refine Below.drew ?_) | (refine bmore ?_ _) | (refine Below.setCell ?_ (by first | omega | (simp [dh] <;> omega)) _) | exact HBa.out | exact Below.refl _ _)), UM.out.below (by with_reducible repeat (first | (refine Below.drew ?_) | (refine bmore ?_ _) | (refine Below.setCell ?_ (by first | omega | (simp [dh] <;> omega)) _) | exact HBa.out | exact Below.refl _ _)), M.out.below (by with_reducible repeat (first | (refine Below.drew ?_) | (refine bmore ?_ _) | (refine Below.setCell ?_ (by first | omega | (simp [dh] <;> omega)) _) | exact HBa.out | exact Below.refl _ _)), Ux.out.below (by with_reducible repeat (first | (refine Below.drew ?_) | (refine bmore ?_ _) | (refine Below.setCell ?_ (by first | omega | (simp [dh] <;> omega)) _) | exact HBa.out | exact Below.refl _ _)), Uy.out.below (by with_reducible repeat (first | (refine Below.drew ?_) | (refine bmore ?_ _) | (refine Below.setCell ?_ (by first | omega | (simp [dh] <;> omega)) _) | exact HBa.out | exact Below.refl _ _)), Nat.le_trans ZB0.out (Below.size (B := w13_.heap.size) (by with_reducible repeat (first | (refine Below.drew ?_) | (refine bmore ?_ _) | (refine Below.setCell ?_ (by first | omega | (simp [dh] <;> omega)) _) | exact HBa.out | exact Below.refl _ _))), Nat.le_trans ZB1.out (Below.size (B := w13_.heap.size) (by with_reducible repeat (first | (refine Below.drew ?_) | (refine bmore ?_ _) | (refine Below.setCell ?_ (by first | omega | (simp [dh] <;> omega)) _) | exact HBa.out | exact Below.refl _ _))), Nat.le_trans ZB2.out (Below.size (B := w13_.heap.size) (by with_reducible repeat (first | (refine Below.drew ?_) | (refine bmore ?_ _) | (refine Below.setCell ?_ (by first | omega | (simp [dh] <;> omega)) _) | exact HBa.out | exact Below.refl _ _))), b_s.out.below (by with_reducible repeat (first | (refine Below.drew ?_) | (refine bmore ?_ _) | (refine Below.setCell ?_ (by first | omega | (simp [dh] <;> omega)) _) | exact HBa.out | exact Below.refl _ _)), t_s.out.below (by with_reducible repeat (first | (refine Below.drew ?_) | (refine bmore ?_ _) | (refine Below.setCell ?_ (by first | omega | (simp [dh] <;> omega)) _) | exact HBa.out | exact Below.refl _ _)), b_l.out.below (by with_reducible repeat (first | (refine Below.drew ?_) | (refine bmore ?_ _) | (refine Below.setCell ?_ (by first | omega | (simp [dh] <;> omega)) _) | exact HBa.out | exact Below.refl _ _)), t_l.out.below (by with_reducible repeat (first | (refine Below.drew ?_) | (refine bmore ?_ _) | (refine Below.setCell ?_ (by first | omega | (simp [dh] <;> omega)) _) | exact HBa.out | exact Below.refl _ _))⟩
                      case rest =>
                        clear BW UM M Ux Uy ZB0 ZB1 ZB2 b_s t_s b_l t_l
                        obtain ⟨k_p, p_n, p_a, p_m, p_c, p_p, rfl, N_sp, N_lp, b_p, t_p, BW, UM, M, Ux, Uy, ZB0, ZB1, ZB2, b_s, t_s, b_l, t_l⟩ := hcut
                        obtain ⟨w14_, rfl⟩ : ∃ x, x = wc := ⟨wc, rfl⟩
                        clear q2 l2_
                        obtain ⟨⟨b_s_0, b_s_1, b_s_2, b_s_3⟩, ⟨b_s_5, b_s_6, b_s_7, b_s_8⟩, b_s_4⟩ := b_s.out
                        obtain ⟨⟨b_p_0, b_p_1, b_p_2, b_p_3⟩, ⟨b_p_5, b_p_6, b_p_7, b_p_8⟩, b_p_4⟩ := b_p.out
                        go_wp2_with fail
                        refine (dAdd _ _ _ B0 34 (34 + (j : Int)) _ _ t_s.out ((t_p.out.base HZ_B0B2.out).wide (34 + (j : Int)) (by omega)) (by omega) (by omega) (by omega)).mono ?_
                        rintro e w15_ ⟨r2x0_v, rfl, ht_, hb_⟩
                        obtain ⟨r2x0_n, r2x0_a, r2x0_m, r2x0_c, r2x0_p, rfl, ht2_⟩ := ht_.numform
                        have t_r2x0 : Hid (Tell w15_ B2 (.agg #[.bool r2x0_n, .slice r2x0_a r2x0_m r2x0_c, .int .i64 r2x0_p, .slice none 0 0]) 34 ((34 + (j : Int)) + 1) ((fsum PP (gp a2 i j) + Dg) * 268435456 + xv y * xv v)) := ht2_.base ZB2.out
                        clear ht_ ht2_
                        clear b_s_0 b_s_1 b_s_2 b_s_3 b_s_4 b_s_5 b_s_6 b_s_7 b_s_8 b_p_0 b_p_1 b_p_2 b_p_3 b_p_4 b_p_5 b_p_6 b_p_7 b_p_8
                        have HBa : Hid (Below w14_.heap.size w14_ w15_) := hb_
                        clear hb_
                        obtain ⟨⟨z0_, z1_, z2_, z3_⟩, ⟨z5_, z6_, z7_, z8_⟩, z4_⟩ := b_s.out.below HBa.out
                        have hfz_ := z4_
                        go_upto_region 30 with fail
                        have bs_ := bes_puts w15_ k_s (.bool r2x0_n) (.slice r2x0_a r2x0_m r2x0_c) (.int .i64 r2x0_p) (.slice none 0 0)
                        have mB_ := (b_s.out.below HBa.out).put (.bool r2x0_n) (.slice r2x0_a r2x0_m r2x0_c) (.int .i64 r2x0_p) (.slice none 0 0)
                        have tB_ := t_r2x0.out.put (b := k_s) KB_s2.out (.bool r2x0_n) (.slice r2x0_a r2x0_m r2x0_c) (.int .i64 r2x0_p) (.slice none 0 0)
                        clear z0_ z1_ z2_ z3_ z4_ z5_ z6_ z7_ z8_ hfz_
                        replace BW : Hid (Below _ _ _) := bstep BW.out HBa.out
                        replace UM : Hid (URow _ _ _ _ _) := UM.out.below HBa.out
                        replace M : Hid (MBox _ _ _ _ _ _) := M.out.below HBa.out
                        replace Ux : Hid (URow _ _ _ _ _) := Ux.out.below HBa.out
                        replace Uy : Hid (URow _ _ _ _ _) := Uy.out.below HBa.out
                        replace ZB0 : Hid (_ ≤ _) := Nat.le_trans ZB0.out (Below.size HBa.out)
                        replace ZB1 : Hid (_ ≤ _) := Nat.le_trans ZB1.out (Below.size HBa.out)
                        replace ZB2 : Hid (_ ≤ _) := Nat.le_trans ZB2.out (Below.size HBa.out)
                        replace b_s : Hid (BoxF _ _ _ _ _ _) := b_s.out.below HBa.out
                        replace t_s : Hid (Tell _ _ _ _ _ _) := t_s.out.below HBa.out
                        replace b_l : Hid (BoxF _ _ _ _ _ _) := b_l.out.below HBa.out
                        replace t_l : Hid (Tell _ _ _ _ _ _) := t_l.out.below HBa.out
                        replace b_p : Hid (BoxF _ _ _ _ _ _) := b_p.out.below HBa.out
                        replace t_p : Hid (Tell _ _ _ _ _ _) := t_p.out.below HBa.out
                        replace BW : Hid (Below _ _ _) := Bes.old BW.out bs_ L_s.out
                        replace UM : Hid (URow _ _ _ _ _) := UM.out.puts A_sUM.out (.bool r2x0_n) (.slice r2x0_a r2x0_m r2x0_c) (.int .i64 r2x0_p) (.slice none 0 0)
                        replace M : Hid (MBox _ _ _ _ _ _) := M.out.bes bs_ (ne_some K_sM.out)
                        replace Ux : Hid (URow _ _ _ _ _) := Ux.out.puts A_sUx.out (.bool r2x0_n) (.slice r2x0_a r2x0_m r2x0_c) (.int .i64 r2x0_p) (.slice none 0 0)
                        replace Uy : Hid (URow _ _ _ _ _) := Uy.out.puts A_sUy.out (.bool r2x0_n) (.slice r2x0_a r2x0_m r2x0_c) (.int .i64 r2x0_p) (.slice none 0 0)
                        replace ZB0 : Hid (_ ≤ _) := Nat.le_trans ZB0.out (Bes.size bs_)
                        replace ZB1 : Hid (_ ≤ _) := Nat.le_trans ZB1.out (Bes.size bs_)
                        replace ZB2 : Hid (_ ≤ _) := Nat.le_trans ZB2.out (Bes.size bs_)
                        replace b_l : Hid (BoxF _ _ _ _ _ _) := b_l.out.puts N_sl.out (.bool r2x0_n) (.slice r2x0_a r2x0_m r2x0_c) (.int .i64 r2x0_p) (.slice none 0 0)
                        replace t_l : Hid (Tell _ _ _ _ _ _) := t_l.out.put (b := k_s) KB_s.out (.bool r2x0_n) (.slice r2x0_a r2x0_m r2x0_c) (.int .i64 r2x0_p) (.slice none 0 0)
                        replace b_p : Hid (BoxF _ _ _ _ _ _) := b_p.out.puts N_sp.out (.bool r2x0_n) (.slice r2x0_a r2x0_m r2x0_c) (.int .i64 r2x0_p) (.slice none 0 0)
                        replace t_p : Hid (Tell _ _ _ _ _ _) := t_p.out.put (b := k_s) KB_s2.out (.bool r2x0_n) (.slice r2x0_a r2x0_m r2x0_c) (.int .i64 r2x0_p) (.slice none 0 0)
                        replace b_s : Hid (BoxF _ _ _ _ _ _) := mB_
                        replace t_s : Hid (Tell _ B2 (.agg #[.bool r2x0_n, .slice r2x0_a r2x0_m r2x0_c, .int .i64 r2x0_p, .slice none 0 0]) 34 ((34 + (j : Int)) + 1) ((fsum PP (gp a2 i j) + Dg) * 268435456 + xv y * xv v)) := tB_
                        clear mB_ tB_ bs_ HBa
                        generalize ((((w15_.setCell ⟨k_s, 0, none⟩ (.bool r2x0_n)).setCell ⟨k_s, 1, none⟩ (.slice r2x0_a r2x0_m r2x0_c)).setCell ⟨k_s, 2, none⟩ (.int .i64 r2x0_p)).setCell ⟨k_s, 3, none⟩ (.slice none 0 0)) = w16_ at BW UM M Ux Uy ZB0 ZB1 ZB2 b_s t_s b_l t_l b_p t_p ⊢
                        clear t_r2x0
                        obtain ⟨⟨b_l_0, b_l_1, b_l_2, b_l_3⟩, ⟨b_l_5, b_l_6, b_l_7, b_l_8⟩, b_l_4⟩ := b_l.out
                        obtain ⟨⟨b_p_0, b_p_1, b_p_2, b_p_3⟩, ⟨b_p_5, b_p_6, b_p_7, b_p_8⟩, b_p_4⟩ := b_p.out
                        go_wp2_with fail
                        clear b_l_0 b_l_1 b_l_2 b_l_3 b_l_4 b_l_5 b_l_6 b_l_7 b_l_8 b_p_0 b_p_1 b_p_2 b_p_3 b_p_4 b_p_5 b_p_6 b_p_7 b_p_8
                        have HBa : Hid (Below w16_.heap.size w16_ w16_.drew) := (Below.refl _ _).drew
                        have hfz_ := fun (w' : World) (h : Below w16_.heap.size w16_ w') => b_l.out.below h
                        refine wp_region_noPanic ?_
                        refine AnyT.start (T := (fun w' => (w'.cell? ⟨k_l, 0, none⟩ = some (.bool l_n) ∧ w'.cell? ⟨k_l, 1, none⟩ = some (.slice l_a l_m l_c) ∧ w'.cell? ⟨k_l, 2, none⟩ = some (.int .i64 l_p) ∧ w'.cell? ⟨k_l, 3, none⟩ = some (.slice none 0 0)) ∧ (w'.cell? ⟨k_p, 0, none⟩ = some (.bool p_n) ∧ w'.cell? ⟨k_p, 1, none⟩ = some (.slice p_a p_m p_c) ∧ w'.cell? ⟨k_p, 2, none⟩ = some (.int .i64 p_p) ∧ w'.cell? ⟨k_p, 3, none⟩ = some (.slice none 0 0)))) (z := 4) (by kernel_rfl) ?_
                        have hHeld0 := (⟨(b_l.out.below HBa.out).cells, (b_p.out.below HBa.out).cells⟩ : (fun w' => (w'.cell? ⟨k_l, 0, none⟩ = some (.bool l_n) ∧ w'.cell? ⟨k_l, 1, none⟩ = some (.slice l_a l_m l_c) ∧ w'.cell? ⟨k_l, 2, none⟩ = some (.int .i64 l_p) ∧ w'.cell? ⟨k_l, 3, none⟩ = some (.slice none 0 0)) ∧ (w'.cell? ⟨k_p, 0, none⟩ = some (.bool p_n) ∧ w'.cell? ⟨k_p, 1, none⟩ = some (.slice p_a p_m p_c) ∧ w'.cell? ⟨k_p, 2, none⟩ = some (.int .i64 p_p) ∧ w'.cell? ⟨k_p, 3, none⟩ = some (.slice none 0 0))) w16_.drew)
                        refine AnyT.take (i := 0) (oi := ({ dst := some 114, op := Op.load _ (Operand.tmp 17), type := _, pos := _, after := _, guard := none } : Oper)) (v := ?_) rfl (by kernel_rfl) (by kernel_rfl) (by kernel_rfl) (by kernel_rfl) (fun _ _ _ h => h) (Or.inl ⟨by rfl, ?_⟩) hHeld0 ?_
                        rotate_left
                        · intro w' hSw; (try dsimp only at hSw); go_simp <;> (try with_reducible rfl)
                        (try simp only [Act.put, List.setIfInBounds_toArray, List.set_cons_zero, List.set_cons_succ])
                        refine AnyT.take (i := 1) (oi := ({ dst := some 115, op := Op.load _ (Operand.tmp 19), type := _, pos := _, after := _, guard := none } : Oper)) (v := ?_) rfl (by kernel_rfl) (by kernel_rfl) (by kernel_rfl) (by kernel_rfl) (fun _ _ _ h => h) (Or.inl ⟨by rfl, ?_⟩) hHeld0 ?_
                        rotate_left
                        · intro w' hSw; (try dsimp only at hSw); go_simp <;> (try with_reducible rfl)
                        (try simp only [Act.put, List.setIfInBounds_toArray, List.set_cons_zero, List.set_cons_succ])
                        refine AnyT.one (i := 2) (o := ({ dst := some 116, op := Op.call { callee := Callee.value (Operand.func _), args := #[Operand.tmp 115], argTypes := _ }, type := _, pos := _, after := _, guard := none } : Oper)) (by kernel_rfl) rfl (fun K hK => ?_)
                        go_simp
                        refine (dAbs _ _ B2 34 34 _ (t_p.out.below HBa.out) (by omega) (by omega)).mono ?_
                        rintro e Wq0_ ⟨r3x0_v, rfl, ht_, hb_⟩
                        obtain ⟨r3x0_n, r3x0_a, r3x0_m, r3x0_c, r3x0_p, rfl, ht2_⟩ := ht_.numform
                        clear ht_
                        have t_r3x0 : Hid (Tell Wq0_ B2 (.agg #[.bool r3x0_n, .slice r3x0_a r3x0_m r3x0_c, .int .i64 r3x0_p, .slice none 0 0]) 34 34 (((xv y * xv v).natAbs : Int))) := ht2_.base (Nat.le_trans ZB2.out (Below.size HBa.out))
                        clear ht2_
                        replace HBa : Hid (Below w16_.heap.size w16_ Wq0_) := bstep HBa.out hb_
                        clear hb_
                        (try go_wp2_with fail)
                        refine hK.out _ _ (fun _ => ⟨(b_l.out.below HBa.out).cells, (b_p.out.below HBa.out).cells⟩) (fun hHeld1 => ?_)
                        replace hHeld0 := hHeld1 (by decide)
                        clear hK K hHeld1
                        (try simp only [Act.put, List.setIfInBounds_toArray, List.set_cons_zero, List.set_cons_succ])
                        refine AnyT.one (i := 3) (o := ({ dst := some 117, op := Op.call { callee := Callee.value (Operand.func _), args := #[Operand.tmp 114, Operand.tmp 116], argTypes := _ }, type := _, pos := _, after := _, guard := none } : Oper)) (by kernel_rfl) rfl (fun K hK => ?_)
                        go_simp
                        refine (dAdd _ _ _ B1 34 (34 + (j : Int)) _ _ (t_l.out.below HBa.out) ((t_r3x0.out.base HZ_B1B2.out).wide (34 + (j : Int)) (by omega)) (by omega) (by omega) (by omega)).mono ?_
                        rintro e Wq1_ ⟨r3x1_v, rfl, ht_, hb_⟩
                        obtain ⟨r3x1_n, r3x1_a, r3x1_m, r3x1_c, r3x1_p, rfl, ht2_⟩ := ht_.numform
                        clear ht_
                        have t_r3x1 : Hid (Tell Wq1_ B2 (.agg #[.bool r3x1_n, .slice r3x1_a r3x1_m r3x1_c, .int .i64 r3x1_p, .slice none 0 0]) 34 ((34 + (j : Int)) + 1) (((fabs PP (gp a2 i j) + Dg.natAbs : Nat) : Int) * 268435456 + ((xv y * xv v).natAbs : Int))) := ht2_.base (Nat.le_trans ZB2.out (Below.size HBa.out))
                        clear ht2_
                        replace t_r3x0 : Hid (Tell _ _ _ _ _ _) := t_r3x0.out.below hb_
                        replace HBa : Hid (Below w16_.heap.size w16_ Wq1_) := bstep HBa.out hb_
                        clear hb_
                        (try go_wp2_with fail)
                        refine hK.out _ _ (fun _ => ⟨(b_l.out.below HBa.out).cells, (b_p.out.below HBa.out).cells⟩) (fun hHeld1 => ?_)
                        replace hHeld0 := hHeld1 (by decide)
                        clear hK K hHeld1
                        (try simp only [Act.put, List.setIfInBounds_toArray, List.set_cons_zero, List.set_cons_succ])
                        refine AnyT.one (i := 4) (o := ({ dst := none, op := Op.store _ (Operand.tmp 17) (Operand.tmp 117), type := _, pos := _, after := _, guard := none } : Oper)) (by kernel_rfl) rfl (fun K hK => ?_)
                        clear hHeld0
                        obtain ⟨⟨z0_, z1_, z2_, z3_⟩, ⟨z5_, z6_, z7_, z8_⟩, z4_⟩ := hfz_ _ HBa.out
                        go_simp
                        refine hK.out _ _ (fun h => absurd rfl h) (fun _ => ?_)
                        clear hK K
                        (try simp only [Act.put, List.setIfInBounds_toArray, List.set_cons_zero, List.set_cons_succ])
                        refine AnyT.done (by kernel_rfl) ?_
                        refine NoPanic.normal ?_
                        have bs_ := bes_puts Wq1_ k_l (.bool r3x1_n) (.slice r3x1_a r3x1_m r3x1_c) (.int .i64 r3x1_p) (.slice none 0 0)
                        have mB_ := (b_l.out.below HBa.out).put (.bool r3x1_n) (.slice r3x1_a r3x1_m r3x1_c) (.int .i64 r3x1_p) (.slice none 0 0)
                        have tB_ := t_r3x1.out.put (b := k_l) KB_l.out (.bool r3x1_n) (.slice r3x1_a r3x1_m r3x1_c) (.int .i64 r3x1_p) (.slice none 0 0)
                        clear z0_ z1_ z2_ z3_ z4_ z5_ z6_ z7_ z8_ hfz_
                        replace BW : Hid (Below _ _ _) := bstep BW.out HBa.out
                        replace UM : Hid (URow _ _ _ _ _) := UM.out.below HBa.out
                        replace M : Hid (MBox _ _ _ _ _ _) := M.out.below HBa.out
                        replace Ux : Hid (URow _ _ _ _ _) := Ux.out.below HBa.out
                        replace Uy : Hid (URow _ _ _ _ _) := Uy.out.below HBa.out
                        replace ZB0 : Hid (_ ≤ _) := Nat.le_trans ZB0.out (Below.size HBa.out)
                        replace ZB1 : Hid (_ ≤ _) := Nat.le_trans ZB1.out (Below.size HBa.out)
                        replace ZB2 : Hid (_ ≤ _) := Nat.le_trans ZB2.out (Below.size HBa.out)
                        replace b_s : Hid (BoxF _ _ _ _ _ _) := b_s.out.below HBa.out
                        replace t_s : Hid (Tell _ _ _ _ _ _) := t_s.out.below HBa.out
                        replace b_l : Hid (BoxF _ _ _ _ _ _) := b_l.out.below HBa.out
                        replace t_l : Hid (Tell _ _ _ _ _ _) := t_l.out.below HBa.out
                        replace b_p : Hid (BoxF _ _ _ _ _ _) := b_p.out.below HBa.out
                        replace t_p : Hid (Tell _ _ _ _ _ _) := t_p.out.below HBa.out
                        replace BW : Hid (Below _ _ _) := Bes.old BW.out bs_ L_l.out
                        replace UM : Hid (URow _ _ _ _ _) := UM.out.puts A_lUM.out (.bool r3x1_n) (.slice r3x1_a r3x1_m r3x1_c) (.int .i64 r3x1_p) (.slice none 0 0)
                        replace M : Hid (MBox _ _ _ _ _ _) := M.out.bes bs_ (ne_some K_lM.out)
                        replace Ux : Hid (URow _ _ _ _ _) := Ux.out.puts A_lUx.out (.bool r3x1_n) (.slice r3x1_a r3x1_m r3x1_c) (.int .i64 r3x1_p) (.slice none 0 0)
                        replace Uy : Hid (URow _ _ _ _ _) := Uy.out.puts A_lUy.out (.bool r3x1_n) (.slice r3x1_a r3x1_m r3x1_c) (.int .i64 r3x1_p) (.slice none 0 0)
                        replace ZB0 : Hid (_ ≤ _) := Nat.le_trans ZB0.out (Bes.size bs_)
                        replace ZB1 : Hid (_ ≤ _) := Nat.le_trans ZB1.out (Bes.size bs_)
                        replace ZB2 : Hid (_ ≤ _) := Nat.le_trans ZB2.out (Bes.size bs_)
                        replace b_s : Hid (BoxF _ _ _ _ _ _) := b_s.out.puts (Ne.symm N_sl.out) (.bool r3x1_n) (.slice r3x1_a r3x1_m r3x1_c) (.int .i64 r3x1_p) (.slice none 0 0)
                        replace t_s : Hid (Tell _ _ _ _ _ _) := t_s.out.put (b := k_l) KB_l.out (.bool r3x1_n) (.slice r3x1_a r3x1_m r3x1_c) (.int .i64 r3x1_p) (.slice none 0 0)
                        replace b_p : Hid (BoxF _ _ _ _ _ _) := b_p.out.puts N_lp.out (.bool r3x1_n) (.slice r3x1_a r3x1_m r3x1_c) (.int .i64 r3x1_p) (.slice none 0 0)
                        replace t_p : Hid (Tell _ _ _ _ _ _) := t_p.out.put (b := k_l) KB_l.out (.bool r3x1_n) (.slice r3x1_a r3x1_m r3x1_c) (.int .i64 r3x1_p) (.slice none 0 0)
                        replace b_l : Hid (BoxF _ _ _ _ _ _) := mB_
                        replace t_l : Hid (Tell _ B2 (.agg #[.bool r3x1_n, .slice r3x1_a r3x1_m r3x1_c, .int .i64 r3x1_p, .slice none 0 0]) 34 ((34 + (j : Int)) + 1) (((fabs PP (gp a2 i j) + Dg.natAbs : Nat) : Int) * 268435456 + ((xv y * xv v).natAbs : Int))) := tB_
                        clear mB_ tB_ bs_ HBa
                        generalize ((((Wq1_.setCell ⟨k_l, 0, none⟩ (.bool r3x1_n)).setCell ⟨k_l, 1, none⟩ (.slice r3x1_a r3x1_m r3x1_c)).setCell ⟨k_l, 2, none⟩ (.int .i64 r3x1_p)).setCell ⟨k_l, 3, none⟩ (.slice none 0 0)) = w17_ at BW UM M Ux Uy ZB0 ZB1 ZB2 b_s t_s b_l t_l b_p t_p ⊢
                        clear t_r3x0 t_r3x1
                        have ES : (fsum PP (gp a2 i j) + Dg) * 268435456 + xv y * xv v = (fsum PP (gp a2 i (j + 1)) + Dg) * 268435456 := by
                          rw [HG1.out, HXY.out]
                          show _ = (fsum PP (gp a2 i j) + PP (gp a2 i j) + Dg) * 268435456
                          generalize fsum PP (gp a2 i j) = f
                          generalize PP (gp a2 i j) = p
                          omega
                        have EL : ((fabs PP (gp a2 i j) + Dg.natAbs : Nat) : Int) * 268435456 + ((xv y * xv v).natAbs : Int) = ((fabs PP (gp a2 i (j + 1)) + Dg.natAbs : Nat) : Int) * 268435456 := by
                          rw [HG1.out, HXY.out]
                          show _ = ((fabs PP (gp a2 i j) + (PP (gp a2 i j)).natAbs + Dg.natAbs : Nat) : Int) * 268435456
                          generalize fabs PP (gp a2 i j) = f
                          generalize PP (gp a2 i j) = p
                          omega
                        have TS : Hid (Tell _ B0 _ 34 (34 + ((j + 1 : Nat) : Int)) ((fsum PP (gp a2 i (j + 1)) + Dg) * 268435456)) := ((t_s.out.base HZ_B0B2.out).wide _ (by omega)).eq ES
                        have TL : Hid (Tell _ B1 _ 34 (34 + ((j + 1 : Nat) : Int)) (((fabs PP (gp a2 i (j + 1)) + Dg.natAbs : Nat) : Int) * 268435456)) := ((t_l.out.base HZ_B1B2.out).wide _ (by omega)).eq EL
                        clear ES EL t_s t_l t_p b_p
                        go_wp2
                        go_roundw
                        case rel => exact ⟨j + 1, _, _, _, _, _, _, _, _, _, _, by go_num, by omega, BW, UM, M, Ux, Uy, ZB0, ZB1, ZB2, b_s, TS, b_l, TL⟩
                        case measure => simp [intOf]; omega
                    · have hin2 : (if a2 then decide (i < j) else decide (j < i)) = false := by cases h : (if a2 then decide (i < j) else decide (j < i)) <;> simp_all
                      rw [hin2]
                      have hgo := gp_out a2 i j hin2
                      have TS : Hid (Tell _ B0 _ 34 (34 + ((j + 1 : Nat) : Int)) ((fsum PP (gp a2 i (j + 1)) + Dg) * 268435456)) := (t_s.out.wide _ (by omega)).eq (by rw [hgo])
                      have TL : Hid (Tell _ B1 _ 34 (34 + ((j + 1 : Nat) : Int)) (((fabs PP (gp a2 i (j + 1)) + Dg.natAbs : Nat) : Int) * 268435456)) := (t_l.out.wide _ (by omega)).eq (by rw [hgo])
                      clear hgo hin hin2 t_s t_l
                      go_wp2
                      go_roundw
                      case rel => exact ⟨j + 1, _, _, _, _, _, _, _, _, _, _, by go_num, by omega, BW, UM, M, Ux, Uy, ZB0, ZB1, ZB2, b_s, TS, b_l, TL⟩
                      case measure => simp [intOf]; omega
                  · obtain rfl : N = j := by omega
                    have HGA : Hid (_ = _) := gp_all a2 N i (by omega)
                    rw [HGA.out] at t_s t_l
                    obtain ⟨A, hA⟩ : ∃ A, fsum PP (tn a2 N i) + Dg = A := ⟨_, rfl⟩
                    obtain ⟨F, hF⟩ : ∃ F, fabs PP (tn a2 N i) + Dg.natAbs = F := ⟨_, rfl⟩
                    have sn2 := SN2.out
                    rw [hA, hF] at sn2
                    rw [hA] at t_s
                    rw [hF] at t_l
                    obtain ⟨l3_, q3⟩ := Ux.out.cellg i (by omega)
                    obtain ⟨b0, b1⟩ := XR.out i
                    have bf := OK.out i (by omega)
                    obtain ⟨bv, hbv⟩ : ∃ v, zX i = v := ⟨_, rfl⟩
                    rw [hbv] at sn2 q3 b0 b1 bf
                    obtain ⟨cc, hcc⟩ : ∃ c, cmpZ (((A * 268435456 - xv bv * pw (34 - 17)).natAbs : Int) * pw (35 - 34)) ((F : Int) * 268435456 * (2 * (N : Int) + 2) * 2048) = c := ⟨_, rfl⟩
                    have hc0 : cc ≤ 0 := by
                      rw [← hcc]
                      exact cmp_nonpos _ _ (tri_cmp A bv F N bf sn2)
                    have HCC : Hid (_ = _) := hcc
                    have hw2 : IntKind.i64.wrap (2 * (N : Int)) = 2 * (N : Int) := by rw [IntKind.wrap_i64]; omega
                    have hw3 : IntKind.i64.wrap (2 * (N : Int) + 2) = 2 * (N : Int) + 2 := by rw [IntKind.wrap_i64]; omega
                    clear hcc hbv sn2 bf hA hF
                    obtain ⟨⟨b_s_0, b_s_1, b_s_2, b_s_3⟩, ⟨b_s_5, b_s_6, b_s_7, b_s_8⟩, b_s_4⟩ := b_s.out
                    obtain ⟨⟨b_l_0, b_l_1, b_l_2, b_l_3⟩, ⟨b_l_5, b_l_6, b_l_7, b_l_8⟩, b_l_4⟩ := b_l.out
                    go_wp2_with fail
                    clear b_s_0 b_s_1 b_s_2 b_s_3 b_s_4 b_s_5 b_s_6 b_s_7 b_s_8 b_l_0 b_l_1 b_l_2 b_l_3 b_l_4 b_l_5 b_l_6 b_l_7 b_l_8
                    have ct : Cnt 1 := Cnt.mk _
                    have dh : ∀ w : World, w.drew.heap = w.heap := fun _ => rfl
                    have HBa : Hid (Below w13_.heap.size w13_ w13_) := Below.refl _ _
                    go_region_held3 (fun w' => (w'.cell? ⟨gx, i, none⟩ = some (.int .u64 bv)) ∧ (w'.cell? ⟨k_s, 0, none⟩ = some (.bool s_n) ∧ w'.cell? ⟨k_s, 1, none⟩ = some (.slice s_a s_m s_c) ∧ w'.cell? ⟨k_s, 2, none⟩ = some (.int .i64 s_p) ∧ w'.cell? ⟨k_s, 3, none⟩ = some (.slice none 0 0)) ∧ (w'.cell? ⟨k_l, 0, none⟩ = some (.bool l_n) ∧ w'.cell? ⟨k_l, 1, none⟩ = some (.slice l_a l_m l_c) ∧ w'.cell? ⟨k_l, 2, none⟩ = some (.int .i64 l_p) ∧ w'.cell? ⟨k_l, 3, none⟩ = some (.slice none 0 0))) (exact ⟨((Below.cell (by with_reducible repeat (first | (refine Below.drew ?_) | (refine bmore ?_ _) | exact HBa.out | exact Below.refl _ _)) l3_).trans q3), (b_s.out.below (by with_reducible repeat (first | (refine Below.drew ?_) | (refine bmore ?_ _) | exact HBa.out | exact Below.refl _ _))).cells, (b_l.out.below (by with_reducible repeat (first | (refine Below.drew ?_) | (refine bmore ?_ _) | exact HBa.out | exact Below.refl _ _))).cells⟩) (first | (have ck : Cnt 1 := ct; go_at_call 11; refine (lExact bv _ b0 b1).mono ?_; rintro e Wq0_ ⟨r1x0_v, rfl, ht_, hb_⟩; obtain ⟨r1x0_n, r1x0_a, r1x0_m, r1x0_c, r1x0_p, rfl, ht2_⟩ := ht_.numform; clear ht_; obtain ⟨pc0, pf0⟩ := bcell hb_; have hr0 : ∀ b, b < _ → b < Wq0_.heap.size := (fun b h => Nat.lt_of_lt_of_le h hb_.size); have hq0 := hb_.size; (try simp [dh] at hq0); have hbt_ : Below w13_.heap.size w13_ Wq0_ := bstep (by with_reducible repeat (first | (refine Below.drew ?_) | (refine bmore ?_ _) | exact (Below.refl _ _) | exact Below.refl _ _)) hb_; have t_r1x0 : Hid (Tell Wq0_ B0 (.agg #[.bool r1x0_n, .slice r1x0_a r1x0_m r1x0_c, .int .i64 r1x0_p, .slice none 0 0]) 17 17 (xv bv)) := ht2_.base (Nat.le_trans ZB0.out (Below.size (B := w13_.heap.size) (by with_reducible repeat (first | (refine Below.drew ?_) | (refine bmore ?_ _) | exact HBa.out | exact Below.refl _ _)))); clear ht2_; replace HBa : Hid (Below w13_.heap.size w13_ Wq0_) := bstep HBa.out hbt_; have hsz0 := HBa.out.size; (try (have hT00 : w13_.heap.size < Wq0_.heap.size := by omega)); replace ct : Cnt 2 := Cnt.mk _; clear hb_ hbt_ ck) | (have ck : Cnt 2 := ct; go_at_call 17; refine (dSub _ _ _ B0 34 (34 + (N : Int)) _ _ (t_s.out.below (by with_reducible repeat (first | (refine Below.drew ?_) | (refine bmore ?_ _) | exact HBa.out | exact Below.refl _ _))) ((t_r1x0.out.below (by with_reducible repeat (first | (refine Below.drew ?_) | (refine bmore ?_ _) | exact (Below.refl _ _) | exact Below.refl _ _))).up 34 (34 + (N : Int)) (by omega) (by omega)) (by omega) (by omega) (by omega)).mono ?_; rintro e Wq1_ ⟨r1x1_v, rfl, ht_, hb_⟩; obtain ⟨r1x1_n, r1x1_a, r1x1_m, r1x1_c, r1x1_p, rfl, ht2_⟩ := ht_.numform; clear ht_; obtain ⟨pc1, pf1⟩ := bcell hb_; have hr1 : ∀ b, b < _ → b < Wq1_.heap.size := (fun b h => Nat.lt_of_lt_of_le h hb_.size); have hq1 := hb_.size; (try simp [dh] at hq1); have hbt_ : Below Wq0_.heap.size Wq0_ Wq1_ := bstep (by with_reducible repeat (first | (refine Below.drew ?_) | (refine bmore ?_ _) | exact (Below.refl _ _) | exact Below.refl _ _)) hb_; have t_r1x1 : Hid (Tell Wq1_ B0 (.agg #[.bool r1x1_n, .slice r1x1_a r1x1_m r1x1_c, .int .i64 r1x1_p, .slice none 0 0]) 34 ((34 + (N : Int)) + 1) (A * 268435456 - xv bv * pw (34 - 17))) := ht2_.base (Nat.le_trans ZB0.out (Below.size (B := w13_.heap.size) (by with_reducible repeat (first | (refine Below.drew ?_) | (refine bmore ?_ _) | exact HBa.out | exact Below.refl _ _)))); clear ht2_; replace t_r1x0 : Hid (Tell _ _ _ _ _ _) := t_r1x0.out.below hbt_; replace HBa : Hid (Below w13_.heap.size w13_ Wq1_) := bstep HBa.out hbt_; have hsz1 := HBa.out.size; (try (have hT10 : w13_.heap.size < Wq1_.heap.size := by omega)); (try (have hT11 : Wq0_.heap.size < Wq1_.heap.size := by omega)); replace ct : Cnt 3 := Cnt.mk _; clear hb_ hbt_ ck) | (have ck : Cnt 3 := ct; go_at_call 14; refine (dAbs _ _ B0 34 ((34 + (N : Int)) + 1) _ (t_r1x1.out.below (by with_reducible repeat (first | (refine Below.drew ?_) | (refine bmore ?_ _) | exact (Below.refl _ _) | exact Below.refl _ _))) (by omega) (by omega)).mono ?_; rintro e Wq2_ ⟨r1x2_v, rfl, ht_, hb_⟩; obtain ⟨r1x2_n, r1x2_a, r1x2_m, r1x2_c, r1x2_p, rfl, ht2_⟩ := ht_.numform; clear ht_; obtain ⟨pc2, pf2⟩ := bcell hb_; have hr2 : ∀ b, b < _ → b < Wq2_.heap.size := (fun b h => Nat.lt_of_lt_of_le h hb_.size); have hq2 := hb_.size; (try simp [dh] at hq2); have hbt_ : Below Wq1_.heap.size Wq1_ Wq2_ := bstep (by with_reducible repeat (first | (refine Below.drew ?_) | (refine bmore ?_ _) | exact (Below.refl _ _) | exact Below.refl _ _)) hb_; have t_r1x2 : Hid (Tell Wq2_ B0 (.agg #[.bool r1x2_n, .slice r1x2_a r1x2_m r1x2_c, .int .i64 r1x2_p, .slice none 0 0]) 34 ((34 + (N : Int)) + 1) (((A * 268435456 - xv bv * pw (34 - 17)).natAbs : Int))) := ht2_.base (Nat.le_trans ZB0.out (Below.size (B := w13_.heap.size) (by with_reducible repeat (first | (refine Below.drew ?_) | (refine bmore ?_ _) | exact HBa.out | exact Below.refl _ _)))); clear ht2_; replace t_r1x0 : Hid (Tell _ _ _ _ _ _) := t_r1x0.out.below hbt_; replace t_r1x1 : Hid (Tell _ _ _ _ _ _) := t_r1x1.out.below hbt_; replace HBa : Hid (Below w13_.heap.size w13_ Wq2_) := bstep HBa.out hbt_; have hsz2 := HBa.out.size; (try (have hT20 : w13_.heap.size < Wq2_.heap.size := by omega)); (try (have hT21 : Wq0_.heap.size < Wq2_.heap.size := by omega)); (try (have hT22 : Wq1_.heap.size < Wq2_.heap.size := by omega)); replace ct : Cnt 4 := Cnt.mk _; clear hb_ hbt_ ck) | (have ck : Cnt 4 := ct; go_at_call 19; refine (dInt (2 * (N : Int) + 2) _ (by omega) (by omega)).mono ?_; rintro e Wq3_ ⟨r1x3_v, rfl, ht_, hb_⟩; obtain ⟨r1x3_n, r1x3_a, r1x3_m, r1x3_c, r1x3_p, rfl, ht2_⟩ := ht_.numform; clear ht_; obtain ⟨pc3, pf3⟩ := bcell hb_; have hr3 : ∀ b, b < _ → b < Wq3_.heap.size := (fun b h => Nat.lt_of_lt_of_le h hb_.size); have hq3 := hb_.size; (try simp [dh] at hq3); have hbt_ : Below Wq2_.heap.size Wq2_ Wq3_ := bstep (by with_reducible repeat (first | (refine Below.drew ?_) | (refine bmore ?_ _) | exact (Below.refl _ _) | exact Below.refl _ _)) hb_; have t_r1x3 : Hid (Tell Wq3_ B0 (.agg #[.bool r1x3_n, .slice r1x3_a r1x3_m r1x3_c, .int .i64 r1x3_p, .slice none 0 0]) 0 2 (2 * (N : Int) + 2)) := ht2_.base (Nat.le_trans ZB0.out (Below.size (B := w13_.heap.size) (by with_reducible repeat (first | (refine Below.drew ?_) | (refine bmore ?_ _) | exact HBa.out | exact Below.refl _ _)))); clear ht2_; replace t_r1x0 : Hid (Tell _ _ _ _ _ _) := t_r1x0.out.below hbt_; replace t_r1x1 : Hid (Tell _ _ _ _ _ _) := t_r1x1.out.below hbt_; replace t_r1x2 : Hid (Tell _ _ _ _ _ _) := t_r1x2.out.below hbt_; replace HBa : Hid (Below w13_.heap.size w13_ Wq3_) := bstep HBa.out hbt_; have hsz3 := HBa.out.size; (try (have hT30 : w13_.heap.size < Wq3_.heap.size := by omega)); (try (have hT31 : Wq0_.heap.size < Wq3_.heap.size := by omega)); (try (have hT32 : Wq1_.heap.size < Wq3_.heap.size := by omega)); (try (have hT33 : Wq2_.heap.size < Wq3_.heap.size := by omega)); replace ct : Cnt 5 := Cnt.mk _; clear hb_ hbt_ ck) | (have ck : Cnt 5 := ct; go_at_call 12; refine (dMul _ _ _ B0 34 0 (34 + (N : Int)) 2 _ _ ((t_l.out.below (by with_reducible repeat (first | (refine Below.drew ?_) | (refine bmore ?_ _) | exact HBa.out | exact Below.refl _ _))).base HZ_B0B1.out) (t_r1x3.out.below (by with_reducible repeat (first | (refine Below.drew ?_) | (refine bmore ?_ _) | exact (Below.refl _ _) | exact Below.refl _ _))) (by omega) (by omega) (by omega) (by omega) (by omega) (by omega)).mono ?_; rintro e Wq4_ ⟨r1x4_v, rfl, ht_, hb_⟩; obtain ⟨r1x4_n, r1x4_a, r1x4_m, r1x4_c, r1x4_p, rfl, ht2_⟩ := ht_.numform; clear ht_; obtain ⟨pc4, pf4⟩ := bcell hb_; have hr4 : ∀ b, b < _ → b < Wq4_.heap.size := (fun b h => Nat.lt_of_lt_of_le h hb_.size); have hq4 := hb_.size; (try simp [dh] at hq4); have hbt_ : Below Wq3_.heap.size Wq3_ Wq4_ := bstep (by with_reducible repeat (first | (refine Below.drew ?_) | (refine bmore ?_ _) | exact (Below.refl _ _) | exact Below.refl _ _)) hb_; have t_r1x4 : Hid (Tell Wq4_ B0 (.agg #[.bool r1x4_n, .slice r1x4_a r1x4_m r1x4_c, .int .i64 r1x4_p, .slice none 0 0]) 34 ((34 + (N : Int)) + 2) ((F : Int) * 268435456 * (2 * (N : Int) + 2))) := ht2_.base (Nat.le_trans ZB0.out (Below.size (B := w13_.heap.size) (by with_reducible repeat (first | (refine Below.drew ?_) | (refine bmore ?_ _) | exact HBa.out | exact Below.refl _ _)))); clear ht2_; replace t_r1x0 : Hid (Tell _ _ _ _ _ _) := t_r1x0.out.below hbt_; replace t_r1x1 : Hid (Tell _ _ _ _ _ _) := t_r1x1.out.below hbt_; replace t_r1x2 : Hid (Tell _ _ _ _ _ _) := t_r1x2.out.below hbt_; replace t_r1x3 : Hid (Tell _ _ _ _ _ _) := t_r1x3.out.below hbt_; replace HBa : Hid (Below w13_.heap.size w13_ Wq4_) := bstep HBa.out hbt_; have hsz4 := HBa.out.size; (try (have hT40 : w13_.heap.size < Wq4_.heap.size := by omega)); (try (have hT41 : Wq0_.heap.size < Wq4_.heap.size := by omega)); (try (have hT42 : Wq1_.heap.size < Wq4_.heap.size := by omega)); (try (have hT43 : Wq2_.heap.size < Wq4_.heap.size := by omega)); (try (have hT44 : Wq3_.heap.size < Wq4_.heap.size := by omega)); replace ct : Cnt 6 := Cnt.mk _; clear hb_ hbt_ ck) | (have ck : Cnt 6 := ct; go_at_call 20; refine (dTwoAt (-53) 1 1 2048 _ (by decide) (by decide) (by decide) (by decide)).mono ?_; rintro e Wq5_ ⟨r1x5_v, rfl, ht_, hb_⟩; obtain ⟨r1x5_n, r1x5_a, r1x5_m, r1x5_c, r1x5_p, rfl, ht2_⟩ := ht_.numform; clear ht_; obtain ⟨pc5, pf5⟩ := bcell hb_; have hr5 : ∀ b, b < _ → b < Wq5_.heap.size := (fun b h => Nat.lt_of_lt_of_le h hb_.size); have hq5 := hb_.size; (try simp [dh] at hq5); have hbt_ : Below Wq4_.heap.size Wq4_ Wq5_ := bstep (by with_reducible repeat (first | (refine Below.drew ?_) | (refine bmore ?_ _) | exact (Below.refl _ _) | exact Below.refl _ _)) hb_; have t_r1x5 : Hid (Tell Wq5_ B0 (.agg #[.bool r1x5_n, .slice r1x5_a r1x5_m r1x5_c, .int .i64 r1x5_p, .slice none 0 0]) 1 1 (2048)) := ht2_.base (Nat.le_trans ZB0.out (Below.size (B := w13_.heap.size) (by with_reducible repeat (first | (refine Below.drew ?_) | (refine bmore ?_ _) | exact HBa.out | exact Below.refl _ _)))); clear ht2_; replace t_r1x0 : Hid (Tell _ _ _ _ _ _) := t_r1x0.out.below hbt_; replace t_r1x1 : Hid (Tell _ _ _ _ _ _) := t_r1x1.out.below hbt_; replace t_r1x2 : Hid (Tell _ _ _ _ _ _) := t_r1x2.out.below hbt_; replace t_r1x3 : Hid (Tell _ _ _ _ _ _) := t_r1x3.out.below hbt_; replace t_r1x4 : Hid (Tell _ _ _ _ _ _) := t_r1x4.out.below hbt_; replace HBa : Hid (Below w13_.heap.size w13_ Wq5_) := bstep HBa.out hbt_; have hsz5 := HBa.out.size; (try (have hT50 : w13_.heap.size < Wq5_.heap.size := by omega)); (try (have hT51 : Wq0_.heap.size < Wq5_.heap.size := by omega)); (try (have hT52 : Wq1_.heap.size < Wq5_.heap.size := by omega)); (try (have hT53 : Wq2_.heap.size < Wq5_.heap.size := by omega)); (try (have hT54 : Wq3_.heap.size < Wq5_.heap.size := by omega)); (try (have hT55 : Wq4_.heap.size < Wq5_.heap.size := by omega)); replace ct : Cnt 7 := Cnt.mk _; clear hb_ hbt_ ck) | (have ck : Cnt 7 := ct; go_at_call 12; refine (dMul _ _ _ B0 34 1 ((34 + (N : Int)) + 2) 1 _ _ (t_r1x4.out.below (by with_reducible repeat (first | (refine Below.drew ?_) | (refine bmore ?_ _) | exact (Below.refl _ _) | exact Below.refl _ _))) (t_r1x5.out.below (by with_reducible repeat (first | (refine Below.drew ?_) | (refine bmore ?_ _) | exact (Below.refl _ _) | exact Below.refl _ _))) (by omega) (by omega) (by omega) (by omega) (by omega) (by omega)).mono ?_; rintro e Wq6_ ⟨r1x6_v, rfl, ht_, hb_⟩; obtain ⟨r1x6_n, r1x6_a, r1x6_m, r1x6_c, r1x6_p, rfl, ht2_⟩ := ht_.numform; clear ht_; obtain ⟨pc6, pf6⟩ := bcell hb_; have hr6 : ∀ b, b < _ → b < Wq6_.heap.size := (fun b h => Nat.lt_of_lt_of_le h hb_.size); have hq6 := hb_.size; (try simp [dh] at hq6); have hbt_ : Below Wq5_.heap.size Wq5_ Wq6_ := bstep (by with_reducible repeat (first | (refine Below.drew ?_) | (refine bmore ?_ _) | exact (Below.refl _ _) | exact Below.refl _ _)) hb_; have t_r1x6 : Hid (Tell Wq6_ B0 (.agg #[.bool r1x6_n, .slice r1x6_a r1x6_m r1x6_c, .int .i64 r1x6_p, .slice none 0 0]) 35 ((34 + (N : Int)) + 2 + 1) ((F : Int) * 268435456 * (2 * (N : Int) + 2) * 2048)) := ht2_.base (Nat.le_trans ZB0.out (Below.size (B := w13_.heap.size) (by with_reducible repeat (first | (refine Below.drew ?_) | (refine bmore ?_ _) | exact HBa.out | exact Below.refl _ _)))); clear ht2_; replace t_r1x0 : Hid (Tell _ _ _ _ _ _) := t_r1x0.out.below hbt_; replace t_r1x1 : Hid (Tell _ _ _ _ _ _) := t_r1x1.out.below hbt_; replace t_r1x2 : Hid (Tell _ _ _ _ _ _) := t_r1x2.out.below hbt_; replace t_r1x3 : Hid (Tell _ _ _ _ _ _) := t_r1x3.out.below hbt_; replace t_r1x4 : Hid (Tell _ _ _ _ _ _) := t_r1x4.out.below hbt_; replace t_r1x5 : Hid (Tell _ _ _ _ _ _) := t_r1x5.out.below hbt_; replace HBa : Hid (Below w13_.heap.size w13_ Wq6_) := bstep HBa.out hbt_; have hsz6 := HBa.out.size; (try (have hT60 : w13_.heap.size < Wq6_.heap.size := by omega)); (try (have hT61 : Wq0_.heap.size < Wq6_.heap.size := by omega)); (try (have hT62 : Wq1_.heap.size < Wq6_.heap.size := by omega)); (try (have hT63 : Wq2_.heap.size < Wq6_.heap.size := by omega)); (try (have hT64 : Wq3_.heap.size < Wq6_.heap.size := by omega)); (try (have hT65 : Wq4_.heap.size < Wq6_.heap.size := by omega)); (try (have hT66 : Wq5_.heap.size < Wq6_.heap.size := by omega)); replace ct : Cnt 8 := Cnt.mk _; clear hb_ hbt_ ck) | (have ck : Cnt 8 := ct; go_at_call 18; refine (dCmp _ _ _ B0 35 ((34 + (N : Int)) + 2 + 1) _ _ ((t_r1x2.out.below (by with_reducible repeat (first | (refine Below.drew ?_) | (refine bmore ?_ _) | exact (Below.refl _ _) | exact Below.refl _ _))).up 35 ((34 + (N : Int)) + 2 + 1) (by omega) (by omega)) (t_r1x6.out.below (by with_reducible repeat (first | (refine Below.drew ?_) | (refine bmore ?_ _) | exact (Below.refl _ _) | exact Below.refl _ _))) (by omega) (by omega)).mono ?_; rintro e Wq7_ ⟨rfl, hb_⟩; rw [HCC.out]; obtain ⟨pc7, pf7⟩ := bcell hb_; have hr7 : ∀ b, b < _ → b < Wq7_.heap.size := (fun b h => Nat.lt_of_lt_of_le h hb_.size); have hq7 := hb_.size; (try simp [dh] at hq7); have hbt_ : Below Wq6_.heap.size Wq6_ Wq7_ := bstep (by with_reducible repeat (first | (refine Below.drew ?_) | (refine bmore ?_ _) | exact (Below.refl _ _) | exact Below.refl _ _)) hb_; replace t_r1x0 : Hid (Tell _ _ _ _ _ _) := t_r1x0.out.below hbt_; replace t_r1x1 : Hid (Tell _ _ _ _ _ _) := t_r1x1.out.below hbt_; replace t_r1x2 : Hid (Tell _ _ _ _ _ _) := t_r1x2.out.below hbt_; replace t_r1x3 : Hid (Tell _ _ _ _ _ _) := t_r1x3.out.below hbt_; replace t_r1x4 : Hid (Tell _ _ _ _ _ _) := t_r1x4.out.below hbt_; replace t_r1x5 : Hid (Tell _ _ _ _ _ _) := t_r1x5.out.below hbt_; replace t_r1x6 : Hid (Tell _ _ _ _ _ _) := t_r1x6.out.below hbt_; replace HBa : Hid (Below w13_.heap.size w13_ Wq7_) := bstep HBa.out hbt_; have hsz7 := HBa.out.size; (try (have hT70 : w13_.heap.size < Wq7_.heap.size := by omega)); (try (have hT71 : Wq0_.heap.size < Wq7_.heap.size := by omega)); (try (have hT72 : Wq1_.heap.size < Wq7_.heap.size := by omega)); (try (have hT73 : Wq2_.heap.size < Wq7_.heap.size := by omega)); (try (have hT74 : Wq3_.heap.size < Wq7_.heap.size := by omega)); (try (have hT75 : Wq4_.heap.size < Wq7_.heap.size := by omega)); (try (have hT76 : Wq5_.heap.size < Wq7_.heap.size := by omega)); (try (have hT77 : Wq6_.heap.size < Wq7_.heap.size := by omega)); replace ct : Cnt 9 := Cnt.mk _; clear hb_ hbt_ ck))
                    replace BW : Hid (Below _ _ _) := bstep BW.out HBa.out
                    replace UM : Hid (URow _ _ _ _ _) := UM.out.below HBa.out
                    replace M : Hid (MBox _ _ _ _ _ _) := M.out.below HBa.out
                    replace Ux : Hid (URow _ _ _ _ _) := Ux.out.below HBa.out
                    replace Uy : Hid (URow _ _ _ _ _) := Uy.out.below HBa.out
                    replace ZB0 : Hid (_ ≤ _) := Nat.le_trans ZB0.out (Below.size HBa.out)
                    replace ZB1 : Hid (_ ≤ _) := Nat.le_trans ZB1.out (Below.size HBa.out)
                    replace ZB2 : Hid (_ ≤ _) := Nat.le_trans ZB2.out (Below.size HBa.out)
                    replace b_s : Hid (BoxF _ _ _ _ _ _) := b_s.out.below HBa.out
                    replace t_s : Hid (Tell _ _ _ _ _ _) := t_s.out.below HBa.out
                    replace b_l : Hid (BoxF _ _ _ _ _ _) := b_l.out.below HBa.out
                    replace t_l : Hid (Tell _ _ _ _ _ _) := t_l.out.below HBa.out
                    clear HBa ct dh t_r1x0 t_r1x1 t_r1x2 t_r1x3 t_r1x4 t_r1x5 t_r1x6 pc0 pf0 hr0 hq0 hsz0 pc1 pf1 hr1 hq1 hsz1 pc2 pf2 hr2 hq2 hsz2 pc3 pf3 hr3 hq3 hsz3 pc4 pf4 hr4 hq4 hsz4 pc5 pf5 hr5 hq5 hsz5 pc6 pf6 hr6 hq6 hsz6 pc7 pf7 hr7 hq7 hsz7
                    go_wp2
                    go_roundw
                    case rel => exact ⟨i + 1, by go_num, by omega, BW, UM, M, Ux, Uy⟩
                    case measure => simp [intOf]; omega
              case false =>
                subst hun
                obtain ⟨⟨b_s_0, b_s_1, b_s_2, b_s_3⟩, ⟨b_s_5, b_s_6, b_s_7, b_s_8⟩, b_s_4⟩ := b_s.out
                obtain ⟨M_0, M_1, M_2, M_3, M_4⟩ := M.out
                go_wp2_with fail
                clear b_s_0 b_s_1 b_s_2 b_s_3 b_s_4 b_s_5 b_s_6 b_s_7 b_s_8 M_0 M_1 M_2 M_3 M_4
                have HBa : Hid (Below w10_.heap.size w10_ w10_.drew) := (Below.refl _ _).drew
                have hfz_ := fun (w' : World) (h : Below w10_.heap.size w10_ w') => b_s.out.below h
                refine wp_region_noPanic ?_
                refine AnyT.start (T := (fun w' => (w'.cell? ⟨k_M, 0, none⟩ = some (.int .i64 (N : Int)) ∧ w'.cell? ⟨k_M, 1, none⟩ = some (.int .i64 (N : Int)) ∧ w'.cell? ⟨k_M, 2, none⟩ = some (.int .i64 (N : Int)) ∧ w'.cell? ⟨k_M, 3, none⟩ = some (.slice (some ⟨gM, 0, none⟩) (N * N) (N * N))) ∧ (w'.cell? ⟨k_s, 0, none⟩ = some (.bool s_n) ∧ w'.cell? ⟨k_s, 1, none⟩ = some (.slice s_a s_m s_c) ∧ w'.cell? ⟨k_s, 2, none⟩ = some (.int .i64 s_p) ∧ w'.cell? ⟨k_s, 3, none⟩ = some (.slice none 0 0)))) (z := 7) (by kernel_rfl) ?_
                have hHeld0 := (⟨(M.out.below HBa.out).cells, (b_s.out.below HBa.out).cells⟩ : (fun w' => (w'.cell? ⟨k_M, 0, none⟩ = some (.int .i64 (N : Int)) ∧ w'.cell? ⟨k_M, 1, none⟩ = some (.int .i64 (N : Int)) ∧ w'.cell? ⟨k_M, 2, none⟩ = some (.int .i64 (N : Int)) ∧ w'.cell? ⟨k_M, 3, none⟩ = some (.slice (some ⟨gM, 0, none⟩) (N * N) (N * N))) ∧ (w'.cell? ⟨k_s, 0, none⟩ = some (.bool s_n) ∧ w'.cell? ⟨k_s, 1, none⟩ = some (.slice s_a s_m s_c) ∧ w'.cell? ⟨k_s, 2, none⟩ = some (.int .i64 s_p) ∧ w'.cell? ⟨k_s, 3, none⟩ = some (.slice none 0 0))) w10_.drew)
                refine AnyT.take (i := 0) (oi := ({ dst := some 82, op := Op.load _ (Operand.tmp 16), type := _, pos := _, after := _, guard := none } : Oper)) (v := ?_) rfl (by kernel_rfl) (by kernel_rfl) (by kernel_rfl) (by kernel_rfl) (fun _ _ _ h => h) (Or.inl ⟨by rfl, ?_⟩) hHeld0 ?_
                rotate_left
                · intro w' hSw; (try dsimp only at hSw); go_simp <;> (try with_reducible rfl)
                (try simp only [Act.put, List.setIfInBounds_toArray, List.set_cons_zero, List.set_cons_succ])
                refine AnyT.take (i := 1) (oi := ({ dst := some 83, op := Op.load _ (Operand.tmp 9), type := _, pos := _, after := _, guard := none } : Oper)) (v := ?_) rfl (by kernel_rfl) (by kernel_rfl) (by kernel_rfl) (by kernel_rfl) (fun _ _ _ h => h) (Or.inl ⟨by rfl, ?_⟩) hHeld0 ?_
                rotate_left
                · intro w' hSw; (try dsimp only at hSw); go_simp <;> (try with_reducible rfl)
                (try simp only [Act.put, List.setIfInBounds_toArray, List.set_cons_zero, List.set_cons_succ])
                refine AnyT.take (i := 2) (oi := ({ dst := some 84, op := Op.move (Operand.tmp 15), type := _, pos := _, after := _, guard := none } : Oper)) (v := ?_) rfl (by kernel_rfl) (by kernel_rfl) (by kernel_rfl) (by kernel_rfl) (fun _ _ _ h => h) (Or.inl ⟨by rfl, ?_⟩) hHeld0 ?_
                rotate_left
                · intro w' hSw; (try dsimp only at hSw); go_simp <;> (try with_reducible rfl)
                (try simp only [Act.put, List.setIfInBounds_toArray, List.set_cons_zero, List.set_cons_succ])
                refine AnyT.take (i := 3) (oi := ({ dst := some 85, op := Op.move (Operand.tmp 15), type := _, pos := _, after := _, guard := none } : Oper)) (v := ?_) rfl (by kernel_rfl) (by kernel_rfl) (by kernel_rfl) (by kernel_rfl) (fun _ _ _ h => h) (Or.inl ⟨by rfl, ?_⟩) hHeld0 ?_
                rotate_left
                · intro w' hSw; (try dsimp only at hSw); go_simp <;> (try with_reducible rfl)
                (try simp only [Act.put, List.setIfInBounds_toArray, List.set_cons_zero, List.set_cons_succ])
                refine AnyT.one (i := 4) (o := ({ dst := some 86, op := Op.call { callee := Callee.value (Operand.func _), args := #[Operand.tmp 83, Operand.tmp 84, Operand.tmp 85], argTypes := _ }, type := _, pos := _, after := _, guard := none } : Oper)) (by kernel_rfl) rfl (fun K hK => ?_)
                go_simp
                refine (mAtN N N N _ _ _ zM i i _ TM.out (UM.out.below HBa.out) (by omega) (by omega)).mono ?_
                rintro e Wq0_ ⟨rfl, hb_⟩
                rw [HD1.out]
                replace HBa : Hid (Below w10_.heap.size w10_ Wq0_) := bstep HBa.out hb_
                clear hb_
                (try go_wp2_with fail)
                refine hK.out _ _ (fun _ => ⟨(M.out.below HBa.out).cells, (b_s.out.below HBa.out).cells⟩) (fun hHeld1 => ?_)
                replace hHeld0 := hHeld1 (by decide)
                clear hK K hHeld1
                (try simp only [Act.put, List.setIfInBounds_toArray, List.set_cons_zero, List.set_cons_succ])
                refine AnyT.one (i := 5) (o := ({ dst := some 87, op := Op.call { callee := Callee.value (Operand.func _), args := #[Operand.tmp 86], argTypes := _ }, type := _, pos := _, after := _, guard := none } : Oper)) (by kernel_rfl) rfl (fun K hK => ?_)
                go_simp
                refine (lExact d _ d0 d1).mono ?_
                rintro e Wq1_ ⟨r1x1_v, rfl, ht_, hb_⟩
                obtain ⟨r1x1_n, r1x1_a, r1x1_m, r1x1_c, r1x1_p, rfl, ht2_⟩ := ht_.numform
                clear ht_
                have t_r1x1 : Hid (Tell Wq1_ B1 (.agg #[.bool r1x1_n, .slice r1x1_a r1x1_m r1x1_c, .int .i64 r1x1_p, .slice none 0 0]) 17 17 (xv d)) := ht2_.base (Nat.le_trans ZB1.out (Below.size HBa.out))
                clear ht2_
                replace HBa : Hid (Below w10_.heap.size w10_ Wq1_) := bstep HBa.out hb_
                clear hb_
                (try go_wp2_with fail)
                refine hK.out _ _ (fun _ => ⟨(M.out.below HBa.out).cells, (b_s.out.below HBa.out).cells⟩) (fun hHeld1 => ?_)
                replace hHeld0 := hHeld1 (by decide)
                clear hK K hHeld1
                (try simp only [Act.put, List.setIfInBounds_toArray, List.set_cons_zero, List.set_cons_succ])
                refine AnyT.one (i := 6) (o := ({ dst := some 88, op := Op.call { callee := Callee.value (Operand.func _), args := #[Operand.tmp 82, Operand.tmp 87], argTypes := _ }, type := _, pos := _, after := _, guard := none } : Oper)) (by kernel_rfl) rfl (fun K hK => ?_)
                go_simp
                refine (dMul _ _ _ B0 17 17 17 17 _ _ (t_s.out.below HBa.out) (t_r1x1.out.base HZ_B0B1.out) (by omega) (by omega) (by omega) (by omega) (by omega) (by omega)).mono ?_
                rintro e Wq2_ ⟨r1x2_v, rfl, ht_, hb_⟩
                obtain ⟨r1x2_n, r1x2_a, r1x2_m, r1x2_c, r1x2_p, rfl, ht2_⟩ := ht_.numform
                clear ht_
                have t_r1x2 : Hid (Tell Wq2_ B1 (.agg #[.bool r1x2_n, .slice r1x2_a r1x2_m r1x2_c, .int .i64 r1x2_p, .slice none 0 0]) 34 34 (xv x * xv d)) := ht2_.base (Nat.le_trans ZB1.out (Below.size HBa.out))
                clear ht2_
                replace t_r1x1 : Hid (Tell _ _ _ _ _ _) := t_r1x1.out.below hb_
                replace HBa : Hid (Below w10_.heap.size w10_ Wq2_) := bstep HBa.out hb_
                clear hb_
                (try go_wp2_with fail)
                refine hK.out _ _ (fun _ => ⟨(M.out.below HBa.out).cells, (b_s.out.below HBa.out).cells⟩) (fun hHeld1 => ?_)
                replace hHeld0 := hHeld1 (by decide)
                clear hK K hHeld1
                (try simp only [Act.put, List.setIfInBounds_toArray, List.set_cons_zero, List.set_cons_succ])
                refine AnyT.one (i := 7) (o := ({ dst := none, op := Op.store _ (Operand.tmp 16) (Operand.tmp 88), type := _, pos := _, after := _, guard := none } : Oper)) (by kernel_rfl) rfl (fun K hK => ?_)
                clear hHeld0
                obtain ⟨⟨z0_, z1_, z2_, z3_⟩, ⟨z5_, z6_, z7_, z8_⟩, z4_⟩ := hfz_ _ HBa.out
                go_simp
                refine hK.out _ _ (fun h => absurd rfl h) (fun _ => ?_)
                clear hK K
                (try simp only [Act.put, List.setIfInBounds_toArray, List.set_cons_zero, List.set_cons_succ])
                refine AnyT.done (by kernel_rfl) ?_
                refine NoPanic.normal ?_
                have bs_ := bes_puts Wq2_ k_s (.bool r1x2_n) (.slice r1x2_a r1x2_m r1x2_c) (.int .i64 r1x2_p) (.slice none 0 0)
                have mB_ := (b_s.out.below HBa.out).put (.bool r1x2_n) (.slice r1x2_a r1x2_m r1x2_c) (.int .i64 r1x2_p) (.slice none 0 0)
                have tB_ := t_r1x2.out.put (b := k_s) KB_s.out (.bool r1x2_n) (.slice r1x2_a r1x2_m r1x2_c) (.int .i64 r1x2_p) (.slice none 0 0)
                clear z0_ z1_ z2_ z3_ z4_ z5_ z6_ z7_ z8_ hfz_
                replace BW : Hid (Below _ _ _) := bstep BW.out HBa.out
                replace UM : Hid (URow _ _ _ _ _) := UM.out.below HBa.out
                replace M : Hid (MBox _ _ _ _ _ _) := M.out.below HBa.out
                replace Ux : Hid (URow _ _ _ _ _) := Ux.out.below HBa.out
                replace Uy : Hid (URow _ _ _ _ _) := Uy.out.below HBa.out
                replace ZB0 : Hid (_ ≤ _) := Nat.le_trans ZB0.out (Below.size HBa.out)
                replace b_s : Hid (BoxF _ _ _ _ _ _) := b_s.out.below HBa.out
                replace t_s : Hid (Tell _ _ _ _ _ _) := t_s.out.below HBa.out
                replace ZB1 : Hid (_ ≤ _) := Nat.le_trans ZB1.out (Below.size HBa.out)
                replace BW : Hid (Below _ _ _) := Bes.old BW.out bs_ L_s.out
                replace UM : Hid (URow _ _ _ _ _) := UM.out.puts A_sUM.out (.bool r1x2_n) (.slice r1x2_a r1x2_m r1x2_c) (.int .i64 r1x2_p) (.slice none 0 0)
                replace M : Hid (MBox _ _ _ _ _ _) := M.out.bes bs_ (ne_some K_sM.out)
                replace Ux : Hid (URow _ _ _ _ _) := Ux.out.puts A_sUx.out (.bool r1x2_n) (.slice r1x2_a r1x2_m r1x2_c) (.int .i64 r1x2_p) (.slice none 0 0)
                replace Uy : Hid (URow _ _ _ _ _) := Uy.out.puts A_sUy.out (.bool r1x2_n) (.slice r1x2_a r1x2_m r1x2_c) (.int .i64 r1x2_p) (.slice none 0 0)
                replace ZB0 : Hid (_ ≤ _) := Nat.le_trans ZB0.out (Bes.size bs_)
                replace ZB1 : Hid (_ ≤ _) := Nat.le_trans ZB1.out (Bes.size bs_)
                replace b_s : Hid (BoxF _ _ _ _ _ _) := mB_
                replace t_s : Hid (Tell _ B1 (.agg #[.bool r1x2_n, .slice r1x2_a r1x2_m r1x2_c, .int .i64 r1x2_p, .slice none 0 0]) 34 34 (xv x * xv d)) := tB_
                clear mB_ tB_ bs_ HBa
                generalize ((((Wq2_.setCell ⟨k_s, 0, none⟩ (.bool r1x2_n)).setCell ⟨k_s, 1, none⟩ (.slice r1x2_a r1x2_m r1x2_c)).setCell ⟨k_s, 2, none⟩ (.int .i64 r1x2_p)).setCell ⟨k_s, 3, none⟩ (.slice none 0 0)) = w11_ at BW UM M Ux Uy ZB0 b_s t_s ZB1 ⊢
                clear t_r1x1 t_r1x2
                have TS0 : Hid (Tell w11_ B0 (.agg #[.bool r1x2_n, .slice r1x2_a r1x2_m r1x2_c, .int .i64 r1x2_p, .slice none 0 0]) 34 34 (Dg * 268435456)) := (t_s.out.base HZ_B0B1.out).eq ((dg_mul x d FX.out FDd.out).trans (by rw [HDG.out]))
                clear t_s
                obtain ⟨⟨b_s_0, b_s_1, b_s_2, b_s_3⟩, ⟨b_s_5, b_s_6, b_s_7, b_s_8⟩, b_s_4⟩ := b_s.out
                go_wp2_with fail
                refine (dAbs _ _ B0 34 34 _ TS0.out (by omega) (by omega)).mono ?_
                rintro e w12_ ⟨l_v, rfl, ht_, hb_⟩
                obtain ⟨l_n, l_a, l_m, l_c, l_p, rfl, ht2_⟩ := ht_.numform
                replace ht2_ := ht2_.base (b' := B1) ZB1.out
                clear ht_
                clear b_s_0 b_s_1 b_s_2 b_s_3 b_s_4 b_s_5 b_s_6 b_s_7 b_s_8
                replace BW : Hid (Below _ _ _) := bstep BW.out hb_
                replace UM : Hid (URow _ _ _ _ _) := UM.out.below hb_
                replace M : Hid (MBox _ _ _ _ _ _) := M.out.below hb_
                replace Ux : Hid (URow _ _ _ _ _) := Ux.out.below hb_
                replace Uy : Hid (URow _ _ _ _ _) := Uy.out.below hb_
                replace ZB0 : Hid (_ ≤ _) := Nat.le_trans ZB0.out (Below.size hb_)
                replace b_s : Hid (BoxF _ _ _ _ _ _) := b_s.out.below hb_
                replace ZB1 : Hid (_ ≤ _) := Nat.le_trans ZB1.out (Below.size hb_)
                replace TS0 : Hid (Tell _ _ _ _ _ _) := TS0.out.below hb_
                clear hb_
                go_upto_region 24 with fail
                have mB_ := BoxF.made w12_ (.bool l_n) (.slice l_a l_m l_c) (.int .i64 l_p) (.slice none 0 0) 41
                have tB_ := ht2_.alloc (.cells #[.bool l_n, .slice l_a l_m l_c, .int .i64 l_p, .slice none 0 0] 41)
                have b_ := bmore (Below.refl w12_.heap.size w12_) (.cells #[.bool l_n, .slice l_a l_m l_c, .int .i64 l_p, .slice none 0 0] 41)
                clear ht2_
                have hsz_ : (w12_.alloc (.cells #[.bool l_n, .slice l_a l_m l_c, .int .i64 l_p, .slice none 0 0] 41)).heap.size = w12_.heap.size + 1 := by simp
                generalize (w12_.alloc (.cells #[.bool l_n, .slice l_a l_m l_c, .int .i64 l_p, .slice none 0 0] 41)) = w13_ at mB_ b_ tB_ hsz_ ⊢
                obtain ⟨k_l, hk_l⟩ : ∃ k, k = w12_.heap.size := ⟨_, rfl⟩
                have N_sl : Hid (k_s ≠ k_l) := by have := b_s.out.2.2; show _ ≠ _; omega
                have L_l : Hid (w.heap.size ≤ k_l) := by rw [hk_l]; exact Below.size BW.out
                have K_lM : Hid (k_l ≠ k_M) := by have := M.out.2.2.2.2; show _ ≠ _; omega
                have A_lUM : Hid (Apt (some k_l) (some ⟨gM, 0, none⟩) (N * N)) := UM.out.apt (fun k e => by injection e with e; omega)
                have A_lUx : Hid (Apt (some k_l) (some ⟨gx, 0, none⟩) N) := Ux.out.apt (fun k e => by injection e with e; omega)
                have A_lUy : Hid (Apt (some k_l) (some ⟨gy, 0, none⟩) N) := Uy.out.apt (fun k e => by injection e with e; omega)
                obtain ⟨B2, hB2⟩ : ∃ B, B = w13_.heap.size := ⟨_, rfl⟩
                have ZB2 : Hid (B2 ≤ w13_.heap.size) := by show _ ≤ _; omega
                have KB_l : Hid (k_l < B2) := by show _ < _; omega
                have HZ_B0B2 : Hid (B0 ≤ B2) := by have := ZB0.out; show _ ≤ _; omega
                have HZ_B1B2 : Hid (B1 ≤ B2) := by have := ZB1.out; show _ ≤ _; omega
                rw [← hk_l] at mB_ ⊢
                replace BW : Hid (Below _ _ _) := bstep BW.out b_
                replace UM : Hid (URow _ _ _ _ _) := UM.out.below b_
                replace M : Hid (MBox _ _ _ _ _ _) := M.out.below b_
                replace Ux : Hid (URow _ _ _ _ _) := Ux.out.below b_
                replace Uy : Hid (URow _ _ _ _ _) := Uy.out.below b_
                replace ZB0 : Hid (_ ≤ _) := Nat.le_trans ZB0.out (Below.size b_)
                replace b_s : Hid (BoxF _ _ _ _ _ _) := b_s.out.below b_
                replace ZB1 : Hid (_ ≤ _) := Nat.le_trans ZB1.out (Below.size b_)
                replace TS0 : Hid (Tell _ _ _ _ _ _) := TS0.out.below b_
                have b_l : Hid (BoxF w13_ k_l (.bool l_n) (.slice l_a l_m l_c) (.int .i64 l_p) (.slice none 0 0)) := mB_
                have t_l : Hid (Tell w13_ B1 (.agg #[.bool l_n, .slice l_a l_m l_c, .int .i64 l_p, .slice none 0 0]) 34 34 (((Dg * 268435456).natAbs : Int))) := tB_
                clear mB_ b_ tB_ hk_l hsz_
                have KB_s2 : Hid (k_s < B2) := by have := KB_s.out; have := HZ_B1B2.out; show _ < _; omega
                clear hB2
                go_wp2_with fail
                go_loopw [18] (fun s18_ wr => ∃ (j : Nat) (s_n : Bool) (s_a : Option Addr) (s_m s_c : Nat) (s_p : Int) (l_n : Bool) (l_a : Option Addr) (l_m l_c : Nat) (l_p : Int), s18_ = .int .i64 (j : Int) ∧ j ≤ N ∧ Hid (Below w.heap.size w wr) ∧ Hid (URow wr (some ⟨gM, 0, none⟩) (N * N) (N * N) zM) ∧ Hid (MBox wr k_M (N : Int) (N : Int) (N : Int) (.slice (some ⟨gM, 0, none⟩) (N * N) (N * N))) ∧ Hid (URow wr (some ⟨gx, 0, none⟩) N cx0 zX) ∧ Hid (URow wr (some ⟨gy, 0, none⟩) N N XS) ∧ Hid (B0 ≤ wr.heap.size) ∧ Hid (B1 ≤ wr.heap.size) ∧ Hid (B2 ≤ wr.heap.size) ∧ Hid (BoxF wr k_s (.bool s_n) (.slice s_a s_m s_c) (.int .i64 s_p) (.slice none 0 0)) ∧ Hid (Tell wr B0 (.agg #[.bool s_n, .slice s_a s_m s_c, .int .i64 s_p, .slice none 0 0]) 34 (34 + (j : Int)) ((fsum PP (gp a2 i j) + Dg) * 268435456)) ∧ Hid (BoxF wr k_l (.bool l_n) (.slice l_a l_m l_c) (.int .i64 l_p) (.slice none 0 0)) ∧ Hid (Tell wr B1 (.agg #[.bool l_n, .slice l_a l_m l_c, .int .i64 l_p, .slice none 0 0]) 34 (34 + (j : Int)) (((fabs PP (gp a2 i j) + Dg.natAbs : Nat) : Int) * 268435456))) (fun s18_ _ => N - (intOf s18_).toNat)
                case atStart => exact ⟨0, r1x2_n, r1x2_a, r1x2_m, r1x2_c, r1x2_p, l_n, l_a, l_m, l_c, l_p, rfl, Nat.zero_le _, BW, UM, M, Ux, Uy, ZB0, ZB1, ZB2, b_s, (TS0.out.wide _ (by omega)).eq (by rw [gp_zero]; show _ = (0 + Dg) * 268435456; rw [Int.zero_add]), b_l, (t_l.out.wide _ (by omega)).eq (by rw [gp_zero, Int.natAbs_mul]; show _ = ((0 + Dg.natAbs : Nat) : Int) * 268435456; rw [Nat.zero_add]; rfl)⟩
                case round =>
                  clear BW UM M Ux Uy ZB0 ZB1 ZB2 b_s b_l
                  obtain ⟨j, s_n, s_a, s_m, s_c, s_p, l_n, l_a, l_m, l_c, l_p, rfl, hj_, BW, UM, M, Ux, Uy, ZB0, ZB1, ZB2, b_s, t_s, b_l, t_l⟩ := hrel
                  obtain ⟨w14_, rfl⟩ : ∃ x, x = wr := ⟨wr, rfl⟩
                  by_cases hlt2 : (j : Int) < (N : Int)
                  · skip
                    go_wp2_with fail
                    refine (lIn i j a2 _).mono ?_
                    rintro e w' ⟨rfl, hw⟩
                    have hw2 := hw.symm
                    clear hw
                    subst hw2
                    by_cases hin : (if a2 then decide (i < j) else decide (j < i)) = true
                    · rw [hin]
                      obtain ⟨hg1, hg2⟩ := gp_in a2 i j hin
                      clear hin
                      obtain ⟨l2_, q2⟩ := Uy.out.cellg j (by omega)
                      obtain ⟨v0, v1⟩ := YR.out j
                      obtain ⟨y0, y1⟩ := UM.out.2.2.1 (i * N + j)
                      have vf := (SN.out j (by omega)).1
                      have yf := HFM.out i j (by omega) (by omega)
                      have hpp := HPP.out (gp a2 i j)
                      rw [hg2] at hpp
                      obtain ⟨v, hv⟩ : ∃ v, XS j = v := ⟨_, rfl⟩
                      obtain ⟨y, hy⟩ : ∃ v, zM (i * N + j) = v := ⟨_, rfl⟩
                      rw [hv] at q2 v0 v1 vf hpp
                      rw [hy] at y0 y1 yf hpp
                      have HY1 : Hid (_ = _) := hy
                      have HXY : Hid (xv y * xv v = PP (gp a2 i j) * 268435456) := (xv_mul y v yf vf).trans (by rw [hpp])
                      have HG1 : Hid (_ = _) := hg1
                      clear hv hy vf yf hpp hg1 hg2
                      obtain ⟨M_0, M_1, M_2, M_3, M_4⟩ := M.out
                      go_wp2_with fail
                      clear M_0 M_1 M_2 M_3 M_4
                      go_cut [19] (fun t wx => ∃ (k_p : Nat) (p_n : Bool) (p_a : Option Addr) (p_m p_c : Nat) (p_p : Int), t = .pointer (some ⟨k_p, 0, none⟩) ∧ Hid (k_s ≠ k_p) ∧ Hid (k_l ≠ k_p) ∧ Hid (BoxF wx k_p (.bool p_n) (.slice p_a p_m p_c) (.int .i64 p_p) (.slice none 0 0)) ∧ Hid (Tell wx B2 (.agg #[.bool p_n, .slice p_a p_m p_c, .int .i64 p_p, .slice none 0 0]) 34 34 (xv y * xv v)) ∧ Hid (Below w.heap.size w wx) ∧ Hid (URow wx (some ⟨gM, 0, none⟩) (N * N) (N * N) zM) ∧ Hid (MBox wx k_M (N : Int) (N : Int) (N : Int) (.slice (some ⟨gM, 0, none⟩) (N * N) (N * N))) ∧ Hid (URow wx (some ⟨gx, 0, none⟩) N cx0 zX) ∧ Hid (URow wx (some ⟨gy, 0, none⟩) N N XS) ∧ Hid (B0 ≤ wx.heap.size) ∧ Hid (B1 ≤ wx.heap.size) ∧ Hid (B2 ≤ wx.heap.size) ∧ Hid (BoxF wx k_s (.bool s_n) (.slice s_a s_m s_c) (.int .i64 s_p) (.slice none 0 0)) ∧ Hid (Tell wx B0 (.agg #[.bool s_n, .slice s_a s_m s_c, .int .i64 s_p, .slice none 0 0]) 34 (34 + (j : Int)) ((fsum PP (gp a2 i j) + Dg) * 268435456)) ∧ Hid (BoxF wx k_l (.bool l_n) (.slice l_a l_m l_c) (.int .i64 l_p) (.slice none 0 0)) ∧ Hid (Tell wx B1 (.agg #[.bool l_n, .slice l_a l_m l_c, .int .i64 l_p, .slice none 0 0]) 34 (34 + (j : Int)) (((fabs PP (gp a2 i j) + Dg.natAbs : Nat) : Int) * 268435456)))
                      case first =>
                        have HBa : Hid (Below w14_.heap.size w14_ w14_) := Below.refl _ _
                        have dh : ∀ w : World, w.drew.heap = w.heap := fun _ => rfl
                        have ct : Cnt 1 := Cnt.mk _
                        go_region_held3 (fun w' => (w'.cell? ⟨k_M, 0, none⟩ = some (.int .i64 (N : Int)) ∧ w'.cell? ⟨k_M, 1, none⟩ = some (.int .i64 (N : Int)) ∧ w'.cell? ⟨k_M, 2, none⟩ = some (.int .i64 (N : Int)) ∧ w'.cell? ⟨k_M, 3, none⟩ = some (.slice (some ⟨gM, 0, none⟩) (N * N) (N * N))) ∧ (w'.cell? ⟨gy, j, none⟩ = some (.int .u64 v))) (exact ⟨(M.out.below (by with_reducible repeat (first | (refine Below.drew ?_) | (refine bmore ?_ _) | (refine Below.setCell ?_ (by first | omega | (simp [dh] <;> omega)) _) | exact HBa.out | exact Below.refl _ _))).cells, ((Below.cell (by with_reducible repeat (first | (refine Below.drew ?_) | (refine bmore ?_ _) | (refine Below.setCell ?_ (by first | omega | (simp [dh] <;> omega)) _) | exact HBa.out | exact Below.refl _ _)) l2_).trans q2)⟩) (first | (have ck : Cnt 1 := ct; go_at_call 13; refine (mAtN N N N _ _ _ zM i j _ TM.out (UM.out.below (by with_reducible repeat (first | (refine Below.drew ?_) | (refine bmore ?_ _) | (refine Below.setCell ?_ (by first | omega | (simp [dh] <;> omega)) _) | exact HBa.out | exact Below.refl _ _))) (by omega) (by omega)).mono ?_; rintro e Wq0_ ⟨rfl, hb_⟩; rw [HY1.out]; obtain ⟨pc0, pf0⟩ := bcell hb_; have hr0 : ∀ b, b < _ → b < Wq0_.heap.size := (fun b h => Nat.lt_of_lt_of_le h hb_.size); have hq0 := hb_.size; (try simp [dh] at hq0); have hbt_ : Below w14_.heap.size w14_ Wq0_ := bstep (by with_reducible repeat (first | (refine Below.drew ?_) | (refine bmore ?_ _) | (refine Below.setCell ?_ (by first | omega | (simp [dh] <;> omega)) _) | exact (Below.refl _ _) | exact Below.refl _ _)) hb_; replace HBa : Hid (Below w14_.heap.size w14_ Wq0_) := bstep HBa.out hbt_; have hsz0 := HBa.out.size; (try (have hT00 : w14_.heap.size < Wq0_.heap.size := by omega)); replace ct : Cnt 2 := Cnt.mk _; clear hb_ hbt_ ck) | (have ck : Cnt 2 := ct; go_at_call 11; refine (lExact y _ y0 y1).mono ?_; rintro e Wq1_ ⟨r2x1_v, rfl, ht_, hb_⟩; obtain ⟨r2x1_n, r2x1_a, r2x1_m, r2x1_c, r2x1_p, rfl, ht2_⟩ := ht_.numform; clear ht_; obtain ⟨pc1, pf1⟩ := bcell hb_; have hr1 : ∀ b, b < _ → b < Wq1_.heap.size := (fun b h => Nat.lt_of_lt_of_le h hb_.size); have hq1 := hb_.size; (try simp [dh] at hq1); have hbt_ : Below Wq0_.heap.size Wq0_ Wq1_ := bstep (by with_reducible repeat (first | (refine Below.drew ?_) | (refine bmore ?_ _) | (refine Below.setCell ?_ (by first | omega | (simp [dh] <;> omega)) _) | exact (Below.refl _ _) | exact Below.refl _ _)) hb_; have t_r2x1 : Hid (Tell Wq1_ B2 (.agg #[.bool r2x1_n, .slice r2x1_a r2x1_m r2x1_c, .int .i64 r2x1_p, .slice none 0 0]) 17 17 (xv y)) := ht2_.base (Nat.le_trans ZB2.out (Below.size (B := w14_.heap.size) (by with_reducible repeat (first | (refine Below.drew ?_) | (refine bmore ?_ _) | (refine Below.setCell ?_ (by first | omega | (simp [dh] <;> omega)) _) | exact HBa.out | exact Below.refl _ _)))); clear ht2_; replace HBa : Hid (Below w14_.heap.size w14_ Wq1_) := bstep HBa.out hbt_; have hsz1 := HBa.out.size; (try (have hT10 : w14_.heap.size < Wq1_.heap.size := by omega)); (try (have hT11 : Wq0_.heap.size < Wq1_.heap.size := by omega)); replace ct : Cnt 3 := Cnt.mk _; clear hb_ hbt_ ck) | (have ck : Cnt 3 := ct; go_at_call 11; refine (lExact v _ v0 v1).mono ?_; rintro e Wq2_ ⟨r2x2_v, rfl, ht_, hb_⟩; obtain ⟨r2x2_n, r2x2_a, r2x2_m, r2x2_c, r2x2_p, rfl, ht2_⟩ := ht_.numform; clear ht_; obtain ⟨pc2, pf2⟩ := bcell hb_; have hr2 : ∀ b, b < _ → b < Wq2_.heap.size := (fun b h => Nat.lt_of_lt_of_le h hb_.size); have hq2 := hb_.size; (try simp [dh] at hq2); have hbt_ : Below Wq1_.heap.size Wq1_ Wq2_ := bstep (by with_reducible repeat (first | (refine Below.drew ?_) | (refine bmore ?_ _) | (refine Below.setCell ?_ (by first | omega | (simp [dh] <;> omega)) _) | exact (Below.refl _ _) | exact Below.refl _ _)) hb_; have t_r2x2 : Hid (Tell Wq2_ B2 (.agg #[.bool r2x2_n, .slice r2x2_a r2x2_m r2x2_c, .int .i64 r2x2_p, .slice none 0 0]) 17 17 (xv v)) := ht2_.base (Nat.le_trans ZB2.out (Below.size (B := w14_.heap.size) (by with_reducible repeat (first | (refine Below.drew ?_) | (refine bmore ?_ _) | (refine Below.setCell ?_ (by first | omega | (simp [dh] <;> omega)) _) | exact HBa.out | exact Below.refl _ _)))); clear ht2_; replace t_r2x1 : Hid (Tell _ _ _ _ _ _) := t_r2x1.out.below hbt_; replace HBa : Hid (Below w14_.heap.size w14_ Wq2_) := bstep HBa.out hbt_; have hsz2 := HBa.out.size; (try (have hT20 : w14_.heap.size < Wq2_.heap.size := by omega)); (try (have hT21 : Wq0_.heap.size < Wq2_.heap.size := by omega)); (try (have hT22 : Wq1_.heap.size < Wq2_.heap.size := by omega)); replace ct : Cnt 4 := Cnt.mk _; clear hb_ hbt_ ck) | (have ck : Cnt 4 := ct; go_at_call 12; refine (dMul _ _ _ B2 17 17 17 17 _ _ (t_r2x1.out.below (by with_reducible repeat (first | (refine Below.drew ?_) | (refine bmore ?_ _) | (refine Below.setCell ?_ (by first | omega | (simp [dh] <;> omega)) _) | exact (Below.refl _ _) | exact Below.refl _ _))) (t_r2x2.out.below (by with_reducible repeat (first | (refine Below.drew ?_) | (refine bmore ?_ _) | (refine Below.setCell ?_ (by first | omega | (simp [dh] <;> omega)) _) | exact (Below.refl _ _) | exact Below.refl _ _))) (by omega) (by omega) (by omega) (by omega) (by omega) (by omega)).mono ?_; rintro e Wq3_ ⟨r2x3_v, rfl, ht_, hb_⟩; obtain ⟨r2x3_n, r2x3_a, r2x3_m, r2x3_c, r2x3_p, rfl, ht2_⟩ := ht_.numform; clear ht_; obtain ⟨pc3, pf3⟩ := bcell hb_; have hr3 : ∀ b, b < _ → b < Wq3_.heap.size := (fun b h => Nat.lt_of_lt_of_le h hb_.size); have hq3 := hb_.size; (try simp [dh] at hq3); have hbt_ : Below Wq2_.heap.size Wq2_ Wq3_ := bstep (by with_reducible repeat (first | (refine Below.drew ?_) | (refine bmore ?_ _) | (refine Below.setCell ?_ (by first | omega | (simp [dh] <;> omega)) _) | exact (Below.refl _ _) | exact Below.refl _ _)) hb_; obtain ⟨Br_, hBr_, t_r2x3⟩ := tell_base ht2_; have hBq_ : w14_.heap.size ≤ Br_ := (by rw [hBr_]; exact Below.size (B := w14_.heap.size) (by with_reducible repeat (first | (refine Below.drew ?_) | (refine bmore ?_ _) | (refine Below.setCell ?_ (by first | omega | (simp [dh] <;> omega)) _) | exact HBa.out | exact Below.refl _ _))); (try simp [dh] at hBr_); clear ht2_; replace t_r2x3 : Tell Wq3_ Br_ (.agg #[.bool r2x3_n, .slice r2x3_a r2x3_m r2x3_c, .int .i64 r2x3_p, .slice none 0 0]) 34 34 (xv y * xv v) := t_r2x3; replace t_r2x1 : Hid (Tell _ _ _ _ _ _) := t_r2x1.out.below hbt_; replace t_r2x2 : Hid (Tell _ _ _ _ _ _) := t_r2x2.out.below hbt_; replace HBa : Hid (Below w14_.heap.size w14_ Wq3_) := bstep HBa.out hbt_; have hsz3 := HBa.out.size; (try (have hT30 : w14_.heap.size < Wq3_.heap.size := by omega)); (try (have hT31 : Wq0_.heap.size < Wq3_.heap.size := by omega)); (try (have hT32 : Wq1_.heap.size < Wq3_.heap.size := by omega)); (try (have hT33 : Wq2_.heap.size < Wq3_.heap.size := by omega)); replace ct : Cnt 5 := Cnt.mk _; clear hb_ hbt_ ck))
                        all_goals
                          go_wp2
                          go_meet
                          refine ⟨_, r2x3_n, r2x3_a, r2x3_m, r2x3_c, r2x3_p, rfl, (by have := b_s.out.2.2; show _ ≠ _; first | omega | (simp [dh] <;> omega)), (by have := b_l.out.2.2; show _ ≠ _; first | omega | (simp [dh] <;> omega)), (by show BoxF _ _ _ _ _ _; first | (with_reducible exact BoxF.made _ _ _ _ _ _) | (with_reducible refine BoxF.four ?_ ?_ ?_ ?_ ?_ ?_ ?_ ?_ ?_) <;> (first | (simp [go_sem, pc0, pf0, hr0, pc1, pf1, hr1, pc2, pf2, hr2, pc3, pf3, hr3]; done) | (simp [go_sem, pc0, pf0, hr0, pc1, pf1, hr1, pc2, pf2, hr2, pc3, pf3, hr3, hT00, hT10, hT20, hT30]; done) | (simp [go_sem, pc0, pf0, hr0, pc1, pf1, hr1, pc2, pf2, hr2, pc3, pf3, hr3, hT11, hT21, hT31]; done) | (simp [go_sem, pc0, pf0, hr0, pc1, pf1, hr1, pc2, pf2, hr2, pc3, pf3, hr3, hT22, hT32]; done) | (simp [go_sem, pc0, pf0, hr0, pc1, pf1, hr1, pc2, pf2, hr2, pc3, pf3, hr3, hT33]; done) | (simp [dh]; omega) | omega)), (by show Tell _ _ _ _ _ _; refine Tell.base (b := Br_) ?_ (Nat.le_trans ZB2.out hBq_); with_reducible repeat (first | exact t_r2x3 | (refine Tell.drew ?_) | (refine Tell.alloc ?_ _) | (refine Tell.set ?_ (by first | omega | (simp [dh] <;> omega)) _))), bstep BW.out (by with_reducible repeat (first | (refine Below.drew ?_) | (refine bmore ?_ _) | (refine Below.setCell ?_ (by first | omega | (simp [dh] <;> omega)) _) | exact HBa.out | exact Below.refl _ _)), UM.out.below (by with_reducible repeat (first | (refine Below.drew ?_) | (refine bmore ?_ _) | (refine Below.setCell ?_ (by first | omega | (simp [dh] <;> omega)) _) | exact HBa.out | exact Below.refl _ _)), M.out.below (by with_reducible repeat (first | (refine Below.drew ?_) | (refine bmore ?_ _) | (refine Below.setCell ?_ (by first | omega | (simp [dh] <;> omega)) _) | exact HBa.out | exact Below.refl _ _)), Ux.out.below (by with_reducible repeat (first | (refine Below.drew ?_) | (refine bmore ?_ _) | (refine Below.setCell ?_ (by first | omega | (simp [dh] <;> omega)) _) | exact HBa.out | exact Below.refl _ _)), Uy.out.below (by with_reducible repeat (first | (refine Below.drew ?_) | (refine bmore ?_ _) | (refine Below.setCell ?_ (by first | omega | (simp [dh] <;> omega)) _) | exact HBa.out | exact Below.refl _ _)), Nat.le_trans ZB0.out (Below.size (B := w14_.heap.size) (by with_reducible repeat (first | (refine Below.drew ?_) | (refine bmore ?_ _) | (refine Below.setCell ?_ (by first | omega | (simp [dh] <;> omega)) _) | exact HBa.out | exact Below.refl _ _))), Nat.le_trans ZB1.out (Below.size (B := w14_.heap.size) (by with_reducible repeat (first | (refine Below.drew ?_) | (refine bmore ?_ _) | (refine Below.setCell ?_ (by first | omega | (simp [dh] <;> omega)) _) | exact HBa.out | exact Below.refl _ _))), Nat.le_trans ZB2.out (Below.size (B := w14_.heap.size) (by with_reducible repeat (first | (refine Below.drew ?_) | (refine bmore ?_ _) | (refine Below.setCell ?_ (by first | omega | (simp [dh] <;> omega)) _) | exact HBa.out | exact Below.refl _ _))), b_s.out.below (by with_reducible repeat (first | (refine Below.drew ?_) | (refine bmore ?_ _) | (refine Below.setCell ?_ (by first | omega | (simp [dh] <;> omega)) _) | exact HBa.out | exact Below.refl _ _)), t_s.out.below (by with_reducible repeat (first | (refine Below.drew ?_) | (refine bmore ?_ _) | (refine Below.setCell ?_ (by first | omega | (simp [dh] <;> omega)) _) | exact HBa.out | exact Below.refl _ _)), b_l.out.below (by with_reducible repeat (first | (refine Below.drew ?_) | (refine bmore ?_ _) | (refine Below.setCell ?_ (by first | omega | (simp [dh] <;> omega)) _) | exact HBa.out | exact Below.refl _ _)), t_l.out.below (by with_reducible repeat (first | (refine Below.drew ?_) | (refine bmore ?_ _) | (refine Below.setCell ?_ (by first | omega | (simp [dh] <;> omega)) _) | exact HBa.out | exact Below.refl _ _))⟩
                      case rest =>
                        clear BW UM M Ux Uy ZB0 ZB1 ZB2 b_s t_s b_l t_l
                        obtain ⟨k_p, p_n, p_a, p_m, p_c, p_p, rfl, N_sp, N_lp, b_p, t_p, BW, UM, M, Ux, Uy, ZB0, ZB1, ZB2, b_s, t_s, b_l, t_l⟩ := hcut
                        obtain ⟨w15_, rfl⟩ : ∃ x, x = wc := ⟨wc, rfl⟩
                        clear q2 l2_
                        obtain ⟨⟨b_s_0, b_s_1, b_s_2, b_s_3⟩, ⟨b_s_5, b_s_6, b_s_7, b_s_8⟩, b_s_4⟩ := b_s.out
                        obtain ⟨⟨b_p_0, b_p_1, b_p_2, b_p_3⟩, ⟨b_p_5, b_p_6, b_p_7, b_p_8⟩, b_p_4⟩ := b_p.out
                        go_wp2_with fail
                        refine (dAdd _ _ _ B0 34 (34 + (j : Int)) _ _ t_s.out ((t_p.out.base HZ_B0B2.out).wide (34 + (j : Int)) (by omega)) (by omega) (by omega) (by omega)).mono ?_
                        rintro e w16_ ⟨r3x0_v, rfl, ht_, hb_⟩
                        obtain ⟨r3x0_n, r3x0_a, r3x0_m, r3x0_c, r3x0_p, rfl, ht2_⟩ := ht_.numform
                        have t_r3x0 : Hid (Tell w16_ B2 (.agg #[.bool r3x0_n, .slice r3x0_a r3x0_m r3x0_c, .int .i64 r3x0_p, .slice none 0 0]) 34 ((34 + (j : Int)) + 1) ((fsum PP (gp a2 i j) + Dg) * 268435456 + xv y * xv v)) := ht2_.base ZB2.out
                        clear ht_ ht2_
                        clear b_s_0 b_s_1 b_s_2 b_s_3 b_s_4 b_s_5 b_s_6 b_s_7 b_s_8 b_p_0 b_p_1 b_p_2 b_p_3 b_p_4 b_p_5 b_p_6 b_p_7 b_p_8
                        have HBa : Hid (Below w15_.heap.size w15_ w16_) := hb_
                        clear hb_
                        obtain ⟨⟨z0_, z1_, z2_, z3_⟩, ⟨z5_, z6_, z7_, z8_⟩, z4_⟩ := b_s.out.below HBa.out
                        have hfz_ := z4_
                        go_upto_region 30 with fail
                        have bs_ := bes_puts w16_ k_s (.bool r3x0_n) (.slice r3x0_a r3x0_m r3x0_c) (.int .i64 r3x0_p) (.slice none 0 0)
                        have mB_ := (b_s.out.below HBa.out).put (.bool r3x0_n) (.slice r3x0_a r3x0_m r3x0_c) (.int .i64 r3x0_p) (.slice none 0 0)
                        have tB_ := t_r3x0.out.put (b := k_s) KB_s2.out (.bool r3x0_n) (.slice r3x0_a r3x0_m r3x0_c) (.int .i64 r3x0_p) (.slice none 0 0)
                        clear z0_ z1_ z2_ z3_ z4_ z5_ z6_ z7_ z8_ hfz_
                        replace BW : Hid (Below _ _ _) := bstep BW.out HBa.out
                        replace UM : Hid (URow _ _ _ _ _) := UM.out.below HBa.out
                        replace M : Hid (MBox _ _ _ _ _ _) := M.out.below HBa.out
                        replace Ux : Hid (URow _ _ _ _ _) := Ux.out.below HBa.out
                        replace Uy : Hid (URow _ _ _ _ _) := Uy.out.below HBa.out
                        replace ZB0 : Hid (_ ≤ _) := Nat.le_trans ZB0.out (Below.size HBa.out)
                        replace ZB1 : Hid (_ ≤ _) := Nat.le_trans ZB1.out (Below.size HBa.out)
                        replace ZB2 : Hid (_ ≤ _) := Nat.le_trans ZB2.out (Below.size HBa.out)
                        replace b_s : Hid (BoxF _ _ _ _ _ _) := b_s.out.below HBa.out
                        replace t_s : Hid (Tell _ _ _ _ _ _) := t_s.out.below HBa.out
                        replace b_l : Hid (BoxF _ _ _ _ _ _) := b_l.out.below HBa.out
                        replace t_l : Hid (Tell _ _ _ _ _ _) := t_l.out.below HBa.out
                        replace b_p : Hid (BoxF _ _ _ _ _ _) := b_p.out.below HBa.out
                        replace t_p : Hid (Tell _ _ _ _ _ _) := t_p.out.below HBa.out
                        replace BW : Hid (Below _ _ _) := Bes.old BW.out bs_ L_s.out
                        replace UM : Hid (URow _ _ _ _ _) := UM.out.puts A_sUM.out (.bool r3x0_n) (.slice r3x0_a r3x0_m r3x0_c) (.int .i64 r3x0_p) (.slice none 0 0)
                        replace M : Hid (MBox _ _ _ _ _ _) := M.out.bes bs_ (ne_some K_sM.out)
                        replace Ux : Hid (URow _ _ _ _ _) := Ux.out.puts A_sUx.out (.bool r3x0_n) (.slice r3x0_a r3x0_m r3x0_c) (.int .i64 r3x0_p) (.slice none 0 0)
                        replace Uy : Hid (URow _ _ _ _ _) := Uy.out.puts A_sUy.out (.bool r3x0_n) (.slice r3x0_a r3x0_m r3x0_c) (.int .i64 r3x0_p) (.slice none 0 0)
                        replace ZB0 : Hid (_ ≤ _) := Nat.le_trans ZB0.out (Bes.size bs_)
                        replace ZB1 : Hid (_ ≤ _) := Nat.le_trans ZB1.out (Bes.size bs_)
                        replace ZB2 : Hid (_ ≤ _) := Nat.le_trans ZB2.out (Bes.size bs_)
                        replace b_l : Hid (BoxF _ _ _ _ _ _) := b_l.out.puts N_sl.out (.bool r3x0_n) (.slice r3x0_a r3x0_m r3x0_c) (.int .i64 r3x0_p) (.slice none 0 0)
                        replace t_l : Hid (Tell _ _ _ _ _ _) := t_l.out.put (b := k_s) KB_s.out (.bool r3x0_n) (.slice r3x0_a r3x0_m r3x0_c) (.int .i64 r3x0_p) (.slice none 0 0)
                        replace b_p : Hid (BoxF _ _ _ _ _ _) := b_p.out.puts N_sp.out (.bool r3x0_n) (.slice r3x0_a r3x0_m r3x0_c) (.int .i64 r3x0_p) (.slice none 0 0)
                        replace t_p : Hid (Tell _ _ _ _ _ _) := t_p.out.put (b := k_s) KB_s2.out (.bool r3x0_n) (.slice r3x0_a r3x0_m r3x0_c) (.int .i64 r3x0_p) (.slice none 0 0)
                        replace b_s : Hid (BoxF _ _ _ _ _ _) := mB_
                        replace t_s : Hid (Tell _ B2 (.agg #[.bool r3x0_n, .slice r3x0_a r3x0_m r3x0_c, .int .i64 r3x0_p, .slice none 0 0]) 34 ((34 + (j : Int)) + 1) ((fsum PP (gp a2 i j) + Dg) * 268435456 + xv y * xv v)) := tB_
                        clear mB_ tB_ bs_ HBa
                        generalize ((((w16_.setCell ⟨k_s, 0, none⟩ (.bool r3x0_n)).setCell ⟨k_s, 1, none⟩ (.slice r3x0_a r3x0_m r3x0_c)).setCell ⟨k_s, 2, none⟩ (.int .i64 r3x0_p)).setCell ⟨k_s, 3, none⟩ (.slice none 0 0)) = w17_ at BW UM M Ux Uy ZB0 ZB1 ZB2 b_s t_s b_l t_l b_p t_p ⊢
                        clear t_r3x0
                        obtain ⟨⟨b_l_0, b_l_1, b_l_2, b_l_3⟩, ⟨b_l_5, b_l_6, b_l_7, b_l_8⟩, b_l_4⟩ := b_l.out
                        obtain ⟨⟨b_p_0, b_p_1, b_p_2, b_p_3⟩, ⟨b_p_5, b_p_6, b_p_7, b_p_8⟩, b_p_4⟩ := b_p.out
                        go_wp2_with fail
                        clear b_l_0 b_l_1 b_l_2 b_l_3 b_l_4 b_l_5 b_l_6 b_l_7 b_l_8 b_p_0 b_p_1 b_p_2 b_p_3 b_p_4 b_p_5 b_p_6 b_p_7 b_p_8
                        have HBa : Hid (Below w17_.heap.size w17_ w17_.drew) := (Below.refl _ _).drew
                        have hfz_ := fun (w' : World) (h : Below w17_.heap.size w17_ w') => b_l.out.below h
                        refine wp_region_noPanic ?_
                        refine AnyT.start (T := (fun w' => (w'.cell? ⟨k_l, 0, none⟩ = some (.bool l_n) ∧ w'.cell? ⟨k_l, 1, none⟩ = some (.slice l_a l_m l_c) ∧ w'.cell? ⟨k_l, 2, none⟩ = some (.int .i64 l_p) ∧ w'.cell? ⟨k_l, 3, none⟩ = some (.slice none 0 0)) ∧ (w'.cell? ⟨k_p, 0, none⟩ = some (.bool p_n) ∧ w'.cell? ⟨k_p, 1, none⟩ = some (.slice p_a p_m p_c) ∧ w'.cell? ⟨k_p, 2, none⟩ = some (.int .i64 p_p) ∧ w'.cell? ⟨k_p, 3, none⟩ = some (.slice none 0 0)))) (z := 4) (by kernel_rfl) ?_
                        have hHeld0 := (⟨(b_l.out.below HBa.out).cells, (b_p.out.below HBa.out).cells⟩ : (fun w' => (w'.cell? ⟨k_l, 0, none⟩ = some (.bool l_n) ∧ w'.cell? ⟨k_l, 1, none⟩ = some (.slice l_a l_m l_c) ∧ w'.cell? ⟨k_l, 2, none⟩ = some (.int .i64 l_p) ∧ w'.cell? ⟨k_l, 3, none⟩ = some (.slice none 0 0)) ∧ (w'.cell? ⟨k_p, 0, none⟩ = some (.bool p_n) ∧ w'.cell? ⟨k_p, 1, none⟩ = some (.slice p_a p_m p_c) ∧ w'.cell? ⟨k_p, 2, none⟩ = some (.int .i64 p_p) ∧ w'.cell? ⟨k_p, 3, none⟩ = some (.slice none 0 0))) w17_.drew)
                        refine AnyT.take (i := 0) (oi := ({ dst := some 114, op := Op.load _ (Operand.tmp 17), type := _, pos := _, after := _, guard := none } : Oper)) (v := ?_) rfl (by kernel_rfl) (by kernel_rfl) (by kernel_rfl) (by kernel_rfl) (fun _ _ _ h => h) (Or.inl ⟨by rfl, ?_⟩) hHeld0 ?_
                        rotate_left
                        · intro w' hSw; (try dsimp only at hSw); go_simp <;> (try with_reducible rfl)
                        (try simp only [Act.put, List.setIfInBounds_toArray, List.set_cons_zero, List.set_cons_succ])
                        refine AnyT.take (i := 1) (oi := ({ dst := some 115, op := Op.load _ (Operand.tmp 19), type := _, pos := _, after := _, guard := none } : Oper)) (v := ?_) rfl (by kernel_rfl) (by kernel_rfl) (by kernel_rfl) (by kernel_rfl) (fun _ _ _ h => h) (Or.inl ⟨by rfl, ?_⟩) hHeld0 ?_
                        rotate_left
                        · intro w' hSw; (try dsimp only at hSw); go_simp <;> (try with_reducible rfl)
                        (try simp only [Act.put, List.setIfInBounds_toArray, List.set_cons_zero, List.set_cons_succ])
                        refine AnyT.one (i := 2) (o := ({ dst := some 116, op := Op.call { callee := Callee.value (Operand.func _), args := #[Operand.tmp 115], argTypes := _ }, type := _, pos := _, after := _, guard := none } : Oper)) (by kernel_rfl) rfl (fun K hK => ?_)
                        go_simp
                        refine (dAbs _ _ B2 34 34 _ (t_p.out.below HBa.out) (by omega) (by omega)).mono ?_
                        rintro e Wq0_ ⟨r4x0_v, rfl, ht_, hb_⟩
                        obtain ⟨r4x0_n, r4x0_a, r4x0_m, r4x0_c, r4x0_p, rfl, ht2_⟩ := ht_.numform
                        clear ht_
                        have t_r4x0 : Hid (Tell Wq0_ B2 (.agg #[.bool r4x0_n, .slice r4x0_a r4x0_m r4x0_c, .int .i64 r4x0_p, .slice none 0 0]) 34 34 (((xv y * xv v).natAbs : Int))) := ht2_.base (Nat.le_trans ZB2.out (Below.size HBa.out))
                        clear ht2_
                        replace HBa : Hid (Below w17_.heap.size w17_ Wq0_) := bstep HBa.out hb_
                        clear hb_
                        (try go_wp2_with fail)
                        refine hK.out _ _ (fun _ => ⟨(b_l.out.below HBa.out).cells, (b_p.out.below HBa.out).cells⟩) (fun hHeld1 => ?_)
                        replace hHeld0 := hHeld1 (by decide)
                        clear hK K hHeld1
                        (try simp only [Act.put, List.setIfInBounds_toArray, List.set_cons_zero, List.set_cons_succ])
                        refine AnyT.one (i := 3) (o := ({ dst := some 117, op := Op.call { callee := Callee.value (Operand.func _), args := #[Operand.tmp 114, Operand.tmp 116], argTypes := _ }, type := _, pos := _, after := _, guard := none } : Oper)) (by kernel_rfl) rfl (fun K hK => ?_)
                        go_simp
                        refine (dAdd _ _ _ B1 34 (34 + (j : Int)) _ _ (t_l.out.below HBa.out) ((t_r4x0.out.base HZ_B1B2.out).wide (34 + (j : Int)) (by omega)) (by omega) (by omega) (by omega)).mono ?_
                        rintro e Wq1_ ⟨r4x1_v, rfl, ht_, hb_⟩
                        obtain ⟨r4x1_n, r4x1_a, r4x1_m, r4x1_c, r4x1_p, rfl, ht2_⟩ := ht_.numform
                        clear ht_
                        have t_r4x1 : Hid (Tell Wq1_ B2 (.agg #[.bool r4x1_n, .slice r4x1_a r4x1_m r4x1_c, .int .i64 r4x1_p, .slice none 0 0]) 34 ((34 + (j : Int)) + 1) (((fabs PP (gp a2 i j) + Dg.natAbs : Nat) : Int) * 268435456 + ((xv y * xv v).natAbs : Int))) := ht2_.base (Nat.le_trans ZB2.out (Below.size HBa.out))
                        clear ht2_
                        replace t_r4x0 : Hid (Tell _ _ _ _ _ _) := t_r4x0.out.below hb_
                        replace HBa : Hid (Below w17_.heap.size w17_ Wq1_) := bstep HBa.out hb_
                        clear hb_
                        (try go_wp2_with fail)
                        refine hK.out _ _ (fun _ => ⟨(b_l.out.below HBa.out).cells, (b_p.out.below HBa.out).cells⟩) (fun hHeld1 => ?_)
                        replace hHeld0 := hHeld1 (by decide)
                        clear hK K hHeld1
                        (try simp only [Act.put, List.setIfInBounds_toArray, List.set_cons_zero, List.set_cons_succ])
                        refine AnyT.one (i := 4) (o := ({ dst := none, op := Op.store _ (Operand.tmp 17) (Operand.tmp 117), type := _, pos := _, after := _, guard := none } : Oper)) (by kernel_rfl) rfl (fun K hK => ?_)
                        clear hHeld0
                        obtain ⟨⟨z0_, z1_, z2_, z3_⟩, ⟨z5_, z6_, z7_, z8_⟩, z4_⟩ := hfz_ _ HBa.out
                        go_simp
                        refine hK.out _ _ (fun h => absurd rfl h) (fun _ => ?_)
                        clear hK K
                        (try simp only [Act.put, List.setIfInBounds_toArray, List.set_cons_zero, List.set_cons_succ])
                        refine AnyT.done (by kernel_rfl) ?_
                        refine NoPanic.normal ?_
                        have bs_ := bes_puts Wq1_ k_l (.bool r4x1_n) (.slice r4x1_a r4x1_m r4x1_c) (.int .i64 r4x1_p) (.slice none 0 0)
                        have mB_ := (b_l.out.below HBa.out).put (.bool r4x1_n) (.slice r4x1_a r4x1_m r4x1_c) (.int .i64 r4x1_p) (.slice none 0 0)
                        have tB_ := t_r4x1.out.put (b := k_l) KB_l.out (.bool r4x1_n) (.slice r4x1_a r4x1_m r4x1_c) (.int .i64 r4x1_p) (.slice none 0 0)
                        clear z0_ z1_ z2_ z3_ z4_ z5_ z6_ z7_ z8_ hfz_
                        replace BW : Hid (Below _ _ _) := bstep BW.out HBa.out
                        replace UM : Hid (URow _ _ _ _ _) := UM.out.below HBa.out
                        replace M : Hid (MBox _ _ _ _ _ _) := M.out.below HBa.out
                        replace Ux : Hid (URow _ _ _ _ _) := Ux.out.below HBa.out
                        replace Uy : Hid (URow _ _ _ _ _) := Uy.out.below HBa.out
                        replace ZB0 : Hid (_ ≤ _) := Nat.le_trans ZB0.out (Below.size HBa.out)
                        replace ZB1 : Hid (_ ≤ _) := Nat.le_trans ZB1.out (Below.size HBa.out)
                        replace ZB2 : Hid (_ ≤ _) := Nat.le_trans ZB2.out (Below.size HBa.out)
                        replace b_s : Hid (BoxF _ _ _ _ _ _) := b_s.out.below HBa.out
                        replace t_s : Hid (Tell _ _ _ _ _ _) := t_s.out.below HBa.out
                        replace b_l : Hid (BoxF _ _ _ _ _ _) := b_l.out.below HBa.out
                        replace t_l : Hid (Tell _ _ _ _ _ _) := t_l.out.below HBa.out
                        replace b_p : Hid (BoxF _ _ _ _ _ _) := b_p.out.below HBa.out
                        replace t_p : Hid (Tell _ _ _ _ _ _) := t_p.out.below HBa.out
                        replace BW : Hid (Below _ _ _) := Bes.old BW.out bs_ L_l.out
                        replace UM : Hid (URow _ _ _ _ _) := UM.out.puts A_lUM.out (.bool r4x1_n) (.slice r4x1_a r4x1_m r4x1_c) (.int .i64 r4x1_p) (.slice none 0 0)
                        replace M : Hid (MBox _ _ _ _ _ _) := M.out.bes bs_ (ne_some K_lM.out)
                        replace Ux : Hid (URow _ _ _ _ _) := Ux.out.puts A_lUx.out (.bool r4x1_n) (.slice r4x1_a r4x1_m r4x1_c) (.int .i64 r4x1_p) (.slice none 0 0)
                        replace Uy : Hid (URow _ _ _ _ _) := Uy.out.puts A_lUy.out (.bool r4x1_n) (.slice r4x1_a r4x1_m r4x1_c) (.int .i64 r4x1_p) (.slice none 0 0)
                        replace ZB0 : Hid (_ ≤ _) := Nat.le_trans ZB0.out (Bes.size bs_)
                        replace ZB1 : Hid (_ ≤ _) := Nat.le_trans ZB1.out (Bes.size bs_)
                        replace ZB2 : Hid (_ ≤ _) := Nat.le_trans ZB2.out (Bes.size bs_)
                        replace b_s : Hid (BoxF _ _ _ _ _ _) := b_s.out.puts (Ne.symm N_sl.out) (.bool r4x1_n) (.slice r4x1_a r4x1_m r4x1_c) (.int .i64 r4x1_p) (.slice none 0 0)
                        replace t_s : Hid (Tell _ _ _ _ _ _) := t_s.out.put (b := k_l) KB_l.out (.bool r4x1_n) (.slice r4x1_a r4x1_m r4x1_c) (.int .i64 r4x1_p) (.slice none 0 0)
                        replace b_p : Hid (BoxF _ _ _ _ _ _) := b_p.out.puts N_lp.out (.bool r4x1_n) (.slice r4x1_a r4x1_m r4x1_c) (.int .i64 r4x1_p) (.slice none 0 0)
                        replace t_p : Hid (Tell _ _ _ _ _ _) := t_p.out.put (b := k_l) KB_l.out (.bool r4x1_n) (.slice r4x1_a r4x1_m r4x1_c) (.int .i64 r4x1_p) (.slice none 0 0)
                        replace b_l : Hid (BoxF _ _ _ _ _ _) := mB_
                        replace t_l : Hid (Tell _ B2 (.agg #[.bool r4x1_n, .slice r4x1_a r4x1_m r4x1_c, .int .i64 r4x1_p, .slice none 0 0]) 34 ((34 + (j : Int)) + 1) (((fabs PP (gp a2 i j) + Dg.natAbs : Nat) : Int) * 268435456 + ((xv y * xv v).natAbs : Int))) := tB_
                        clear mB_ tB_ bs_ HBa
                        generalize ((((Wq1_.setCell ⟨k_l, 0, none⟩ (.bool r4x1_n)).setCell ⟨k_l, 1, none⟩ (.slice r4x1_a r4x1_m r4x1_c)).setCell ⟨k_l, 2, none⟩ (.int .i64 r4x1_p)).setCell ⟨k_l, 3, none⟩ (.slice none 0 0)) = w18_ at BW UM M Ux Uy ZB0 ZB1 ZB2 b_s t_s b_l t_l b_p t_p ⊢
                        clear t_r4x0 t_r4x1
                        have ES : (fsum PP (gp a2 i j) + Dg) * 268435456 + xv y * xv v = (fsum PP (gp a2 i (j + 1)) + Dg) * 268435456 := by
                          rw [HG1.out, HXY.out]
                          show _ = (fsum PP (gp a2 i j) + PP (gp a2 i j) + Dg) * 268435456
                          generalize fsum PP (gp a2 i j) = f
                          generalize PP (gp a2 i j) = p
                          omega
                        have EL : ((fabs PP (gp a2 i j) + Dg.natAbs : Nat) : Int) * 268435456 + ((xv y * xv v).natAbs : Int) = ((fabs PP (gp a2 i (j + 1)) + Dg.natAbs : Nat) : Int) * 268435456 := by
                          rw [HG1.out, HXY.out]
                          show _ = ((fabs PP (gp a2 i j) + (PP (gp a2 i j)).natAbs + Dg.natAbs : Nat) : Int) * 268435456
                          generalize fabs PP (gp a2 i j) = f
                          generalize PP (gp a2 i j) = p
                          omega
                        have TS : Hid (Tell _ B0 _ 34 (34 + ((j + 1 : Nat) : Int)) ((fsum PP (gp a2 i (j + 1)) + Dg) * 268435456)) := ((t_s.out.base HZ_B0B2.out).wide _ (by omega)).eq ES
                        have TL : Hid (Tell _ B1 _ 34 (34 + ((j + 1 : Nat) : Int)) (((fabs PP (gp a2 i (j + 1)) + Dg.natAbs : Nat) : Int) * 268435456)) := ((t_l.out.base HZ_B1B2.out).wide _ (by omega)).eq EL
                        clear ES EL t_s t_l t_p b_p
                        go_wp2
                        go_roundw
                        case rel => exact ⟨j + 1, _, _, _, _, _, _, _, _, _, _, by go_num, by omega, BW, UM, M, Ux, Uy, ZB0, ZB1, ZB2, b_s, TS, b_l, TL⟩
                        case measure => simp [intOf]; omega
                    · have hin2 : (if a2 then decide (i < j) else decide (j < i)) = false := by cases h : (if a2 then decide (i < j) else decide (j < i)) <;> simp_all
                      rw [hin2]
                      have hgo := gp_out a2 i j hin2
                      have TS : Hid (Tell _ B0 _ 34 (34 + ((j + 1 : Nat) : Int)) ((fsum PP (gp a2 i (j + 1)) + Dg) * 268435456)) := (t_s.out.wide _ (by omega)).eq (by rw [hgo])
                      have TL : Hid (Tell _ B1 _ 34 (34 + ((j + 1 : Nat) : Int)) (((fabs PP (gp a2 i (j + 1)) + Dg.natAbs : Nat) : Int) * 268435456)) := (t_l.out.wide _ (by omega)).eq (by rw [hgo])
                      clear hgo hin hin2 t_s t_l
                      go_wp2
                      go_roundw
                      case rel => exact ⟨j + 1, _, _, _, _, _, _, _, _, _, _, by go_num, by omega, BW, UM, M, Ux, Uy, ZB0, ZB1, ZB2, b_s, TS, b_l, TL⟩
                      case measure => simp [intOf]; omega
                  · obtain rfl : N = j := by omega
                    have HGA : Hid (_ = _) := gp_all a2 N i (by omega)
                    rw [HGA.out] at t_s t_l
                    obtain ⟨A, hA⟩ : ∃ A, fsum PP (tn a2 N i) + Dg = A := ⟨_, rfl⟩
                    obtain ⟨F, hF⟩ : ∃ F, fabs PP (tn a2 N i) + Dg.natAbs = F := ⟨_, rfl⟩
                    have sn2 := SN2.out
                    rw [hA, hF] at sn2
                    rw [hA] at t_s
                    rw [hF] at t_l
                    obtain ⟨l3_, q3⟩ := Ux.out.cellg i (by omega)
                    obtain ⟨b0, b1⟩ := XR.out i
                    have bf := OK.out i (by omega)
                    obtain ⟨bv, hbv⟩ : ∃ v, zX i = v := ⟨_, rfl⟩
                    rw [hbv] at sn2 q3 b0 b1 bf
                    obtain ⟨cc, hcc⟩ : ∃ c, cmpZ (((A * 268435456 - xv bv * pw (34 - 17)).natAbs : Int) * pw (35 - 34)) ((F : Int) * 268435456 * (2 * (N : Int) + 2) * 2048) = c := ⟨_, rfl⟩
                    have hc0 : cc ≤ 0 := by
                      rw [← hcc]
                      exact cmp_nonpos _ _ (tri_cmp A bv F N bf sn2)
                    have HCC : Hid (_ = _) := hcc
                    have hw2 : IntKind.i64.wrap (2 * (N : Int)) = 2 * (N : Int) := by rw [IntKind.wrap_i64]; omega
                    have hw3 : IntKind.i64.wrap (2 * (N : Int) + 2) = 2 * (N : Int) + 2 := by rw [IntKind.wrap_i64]; omega
                    clear hcc hbv sn2 bf hA hF
                    obtain ⟨⟨b_s_0, b_s_1, b_s_2, b_s_3⟩, ⟨b_s_5, b_s_6, b_s_7, b_s_8⟩, b_s_4⟩ := b_s.out
                    obtain ⟨⟨b_l_0, b_l_1, b_l_2, b_l_3⟩, ⟨b_l_5, b_l_6, b_l_7, b_l_8⟩, b_l_4⟩ := b_l.out
                    go_wp2_with fail
                    clear b_s_0 b_s_1 b_s_2 b_s_3 b_s_4 b_s_5 b_s_6 b_s_7 b_s_8 b_l_0 b_l_1 b_l_2 b_l_3 b_l_4 b_l_5 b_l_6 b_l_7 b_l_8
                    have ct : Cnt 1 := Cnt.mk _
                    have dh : ∀ w : World, w.drew.heap = w.heap := fun _ => rfl
                    have HBa : Hid (Below w14_.heap.size w14_ w14_) := Below.refl _ _
                    go_region_held3 (fun w' => (w'.cell? ⟨gx, i, none⟩ = some (.int .u64 bv)) ∧ (w'.cell? ⟨k_s, 0, none⟩ = some (.bool s_n) ∧ w'.cell? ⟨k_s, 1, none⟩ = some (.slice s_a s_m s_c) ∧ w'.cell? ⟨k_s, 2, none⟩ = some (.int .i64 s_p) ∧ w'.cell? ⟨k_s, 3, none⟩ = some (.slice none 0 0)) ∧ (w'.cell? ⟨k_l, 0, none⟩ = some (.bool l_n) ∧ w'.cell? ⟨k_l, 1, none⟩ = some (.slice l_a l_m l_c) ∧ w'.cell? ⟨k_l, 2, none⟩ = some (.int .i64 l_p) ∧ w'.cell? ⟨k_l, 3, none⟩ = some (.slice none 0 0))) (exact ⟨((Below.cell (by with_reducible repeat (first | (refine Below.drew ?_) | (refine bmore ?_ _) | exact HBa.out | exact Below.refl _ _)) l3_).trans q3), (b_s.out.below (by with_reducible repeat (first | (refine Below.drew ?_) | (refine bmore ?_ _) | exact HBa.out | exact Below.refl _ _))).cells, (b_l.out.below (by with_reducible repeat (first | (refine Below.drew ?_) | (refine bmore ?_ _) | exact HBa.out | exact Below.refl _ _))).cells⟩) (first | (have ck : Cnt 1 := ct; go_at_call 11; refine (lExact bv _ b0 b1).mono ?_; rintro e Wq0_ ⟨r2x0_v, rfl, ht_, hb_⟩; obtain ⟨r2x0_n, r2x0_a, r2x0_m, r2x0_c, r2x0_p, rfl, ht2_⟩ := ht_.numform; clear ht_; obtain ⟨pc0, pf0⟩ := bcell hb_; have hr0 : ∀ b, b < _ → b < Wq0_.heap.size := (fun b h => Nat.lt_of_lt_of_le h hb_.size); have hq0 := hb_.size; (try simp [dh] at hq0); have hbt_ : Below w14_.heap.size w14_ Wq0_ := bstep (by with_reducible repeat (first | (refine Below.drew ?_) | (refine bmore ?_ _) | exact (Below.refl _ _) | exact Below.refl _ _)) hb_; have t_r2x0 : Hid (Tell Wq0_ B0 (.agg #[.bool r2x0_n, .slice r2x0_a r2x0_m r2x0_c, .int .i64 r2x0_p, .slice none 0 0]) 17 17 (xv bv)) := ht2_.base (Nat.le_trans ZB0.out (Below.size (B := w14_.heap.size) (by with_reducible repeat (first | (refine Below.drew ?_) | (refine bmore ?_ _) | exact HBa.out | exact Below.refl _ _)))); clear ht2_; replace HBa : Hid (Below w14_.heap.size w14_ Wq0_) := bstep HBa.out hbt_; have hsz0 := HBa.out.size; (try (have hT00 : w14_.heap.size < Wq0_.heap.size := by omega)); replace ct : Cnt 2 := Cnt.mk _; clear hb_ hbt_ ck) | (have ck : Cnt 2 := ct; go_at_call 17; refine (dSub _ _ _ B0 34 (34 + (N : Int)) _ _ (t_s.out.below (by with_reducible repeat (first | (refine Below.drew ?_) | (refine bmore ?_ _) | exact HBa.out | exact Below.refl _ _))) ((t_r2x0.out.below (by with_reducible repeat (first | (refine Below.drew ?_) | (refine bmore ?_ _) | exact (Below.refl _ _) | exact Below.refl _ _))).up 34 (34 + (N : Int)) (by omega) (by omega)) (by omega) (by omega) (by omega)).mono ?_; rintro e Wq1_ ⟨r2x1_v, rfl, ht_, hb_⟩; obtain ⟨r2x1_n, r2x1_a, r2x1_m, r2x1_c, r2x1_p, rfl, ht2_⟩ := ht_.numform; clear ht_; obtain ⟨pc1, pf1⟩ := bcell hb_; have hr1 : ∀ b, b < _ → b < Wq1_.heap.size := (fun b h => Nat.lt_of_lt_of_le h hb_.size); have hq1 := hb_.size; (try simp [dh] at hq1); have hbt_ : Below Wq0_.heap.size Wq0_ Wq1_ := bstep (by with_reducible repeat (first | (refine Below.drew ?_) | (refine bmore ?_ _) | exact (Below.refl _ _) | exact Below.refl _ _)) hb_; have t_r2x1 : Hid (Tell Wq1_ B0 (.agg #[.bool r2x1_n, .slice r2x1_a r2x1_m r2x1_c, .int .i64 r2x1_p, .slice none 0 0]) 34 ((34 + (N : Int)) + 1) (A * 268435456 - xv bv * pw (34 - 17))) := ht2_.base (Nat.le_trans ZB0.out (Below.size (B := w14_.heap.size) (by with_reducible repeat (first | (refine Below.drew ?_) | (refine bmore ?_ _) | exact HBa.out | exact Below.refl _ _)))); clear ht2_; replace t_r2x0 : Hid (Tell _ _ _ _ _ _) := t_r2x0.out.below hbt_; replace HBa : Hid (Below w14_.heap.size w14_ Wq1_) := bstep HBa.out hbt_; have hsz1 := HBa.out.size; (try (have hT10 : w14_.heap.size < Wq1_.heap.size := by omega)); (try (have hT11 : Wq0_.heap.size < Wq1_.heap.size := by omega)); replace ct : Cnt 3 := Cnt.mk _; clear hb_ hbt_ ck) | (have ck : Cnt 3 := ct; go_at_call 14; refine (dAbs _ _ B0 34 ((34 + (N : Int)) + 1) _ (t_r2x1.out.below (by with_reducible repeat (first | (refine Below.drew ?_) | (refine bmore ?_ _) | exact (Below.refl _ _) | exact Below.refl _ _))) (by omega) (by omega)).mono ?_; rintro e Wq2_ ⟨r2x2_v, rfl, ht_, hb_⟩; obtain ⟨r2x2_n, r2x2_a, r2x2_m, r2x2_c, r2x2_p, rfl, ht2_⟩ := ht_.numform; clear ht_; obtain ⟨pc2, pf2⟩ := bcell hb_; have hr2 : ∀ b, b < _ → b < Wq2_.heap.size := (fun b h => Nat.lt_of_lt_of_le h hb_.size); have hq2 := hb_.size; (try simp [dh] at hq2); have hbt_ : Below Wq1_.heap.size Wq1_ Wq2_ := bstep (by with_reducible repeat (first | (refine Below.drew ?_) | (refine bmore ?_ _) | exact (Below.refl _ _) | exact Below.refl _ _)) hb_; have t_r2x2 : Hid (Tell Wq2_ B0 (.agg #[.bool r2x2_n, .slice r2x2_a r2x2_m r2x2_c, .int .i64 r2x2_p, .slice none 0 0]) 34 ((34 + (N : Int)) + 1) (((A * 268435456 - xv bv * pw (34 - 17)).natAbs : Int))) := ht2_.base (Nat.le_trans ZB0.out (Below.size (B := w14_.heap.size) (by with_reducible repeat (first | (refine Below.drew ?_) | (refine bmore ?_ _) | exact HBa.out | exact Below.refl _ _)))); clear ht2_; replace t_r2x0 : Hid (Tell _ _ _ _ _ _) := t_r2x0.out.below hbt_; replace t_r2x1 : Hid (Tell _ _ _ _ _ _) := t_r2x1.out.below hbt_; replace HBa : Hid (Below w14_.heap.size w14_ Wq2_) := bstep HBa.out hbt_; have hsz2 := HBa.out.size; (try (have hT20 : w14_.heap.size < Wq2_.heap.size := by omega)); (try (have hT21 : Wq0_.heap.size < Wq2_.heap.size := by omega)); (try (have hT22 : Wq1_.heap.size < Wq2_.heap.size := by omega)); replace ct : Cnt 4 := Cnt.mk _; clear hb_ hbt_ ck) | (have ck : Cnt 4 := ct; go_at_call 19; refine (dInt (2 * (N : Int) + 2) _ (by omega) (by omega)).mono ?_; rintro e Wq3_ ⟨r2x3_v, rfl, ht_, hb_⟩; obtain ⟨r2x3_n, r2x3_a, r2x3_m, r2x3_c, r2x3_p, rfl, ht2_⟩ := ht_.numform; clear ht_; obtain ⟨pc3, pf3⟩ := bcell hb_; have hr3 : ∀ b, b < _ → b < Wq3_.heap.size := (fun b h => Nat.lt_of_lt_of_le h hb_.size); have hq3 := hb_.size; (try simp [dh] at hq3); have hbt_ : Below Wq2_.heap.size Wq2_ Wq3_ := bstep (by with_reducible repeat (first | (refine Below.drew ?_) | (refine bmore ?_ _) | exact (Below.refl _ _) | exact Below.refl _ _)) hb_; have t_r2x3 : Hid (Tell Wq3_ B0 (.agg #[.bool r2x3_n, .slice r2x3_a r2x3_m r2x3_c, .int .i64 r2x3_p, .slice none 0 0]) 0 2 (2 * (N : Int) + 2)) := ht2_.base (Nat.le_trans ZB0.out (Below.size (B := w14_.heap.size) (by with_reducible repeat (first | (refine Below.drew ?_) | (refine bmore ?_ _) | exact HBa.out | exact Below.refl _ _)))); clear ht2_; replace t_r2x0 : Hid (Tell _ _ _ _ _ _) := t_r2x0.out.below hbt_; replace t_r2x1 : Hid (Tell _ _ _ _ _ _) := t_r2x1.out.below hbt_; replace t_r2x2 : Hid (Tell _ _ _ _ _ _) := t_r2x2.out.below hbt_; replace HBa : Hid (Below w14_.heap.size w14_ Wq3_) := bstep HBa.out hbt_; have hsz3 := HBa.out.size; (try (have hT30 : w14_.heap.size < Wq3_.heap.size := by omega)); (try (have hT31 : Wq0_.heap.size < Wq3_.heap.size := by omega)); (try (have hT32 : Wq1_.heap.size < Wq3_.heap.size := by omega)); (try (have hT33 : Wq2_.heap.size < Wq3_.heap.size := by omega)); replace ct : Cnt 5 := Cnt.mk _; clear hb_ hbt_ ck) | (have ck : Cnt 5 := ct; go_at_call 12; refine (dMul _ _ _ B0 34 0 (34 + (N : Int)) 2 _ _ ((t_l.out.below (by with_reducible repeat (first | (refine Below.drew ?_) | (refine bmore ?_ _) | exact HBa.out | exact Below.refl _ _))).base HZ_B0B1.out) (t_r2x3.out.below (by with_reducible repeat (first | (refine Below.drew ?_) | (refine bmore ?_ _) | exact (Below.refl _ _) | exact Below.refl _ _))) (by omega) (by omega) (by omega) (by omega) (by omega) (by omega)).mono ?_; rintro e Wq4_ ⟨r2x4_v, rfl, ht_, hb_⟩; obtain ⟨r2x4_n, r2x4_a, r2x4_m, r2x4_c, r2x4_p, rfl, ht2_⟩ := ht_.numform; clear ht_; obtain ⟨pc4, pf4⟩ := bcell hb_; have hr4 : ∀ b, b < _ → b < Wq4_.heap.size := (fun b h => Nat.lt_of_lt_of_le h hb_.size); have hq4 := hb_.size; (try simp [dh] at hq4); have hbt_ : Below Wq3_.heap.size Wq3_ Wq4_ := bstep (by with_reducible repeat (first | (refine Below.drew ?_) | (refine bmore ?_ _) | exact (Below.refl _ _) | exact Below.refl _ _)) hb_; have t_r2x4 : Hid (Tell Wq4_ B0 (.agg #[.bool r2x4_n, .slice r2x4_a r2x4_m r2x4_c, .int .i64 r2x4_p, .slice none 0 0]) 34 ((34 + (N : Int)) + 2) ((F : Int) * 268435456 * (2 * (N : Int) + 2))) := ht2_.base (Nat.le_trans ZB0.out (Below.size (B := w14_.heap.size) (by with_reducible repeat (first | (refine Below.drew ?_) | (refine bmore ?_ _) | exact HBa.out | exact Below.refl _ _)))); clear ht2_; replace t_r2x0 : Hid (Tell _ _ _ _ _ _) := t_r2x0.out.below hbt_; replace t_r2x1 : Hid (Tell _ _ _ _ _ _) := t_r2x1.out.below hbt_; replace t_r2x2 : Hid (Tell _ _ _ _ _ _) := t_r2x2.out.below hbt_; replace t_r2x3 : Hid (Tell _ _ _ _ _ _) := t_r2x3.out.below hbt_; replace HBa : Hid (Below w14_.heap.size w14_ Wq4_) := bstep HBa.out hbt_; have hsz4 := HBa.out.size; (try (have hT40 : w14_.heap.size < Wq4_.heap.size := by omega)); (try (have hT41 : Wq0_.heap.size < Wq4_.heap.size := by omega)); (try (have hT42 : Wq1_.heap.size < Wq4_.heap.size := by omega)); (try (have hT43 : Wq2_.heap.size < Wq4_.heap.size := by omega)); (try (have hT44 : Wq3_.heap.size < Wq4_.heap.size := by omega)); replace ct : Cnt 6 := Cnt.mk _; clear hb_ hbt_ ck) | (have ck : Cnt 6 := ct; go_at_call 20; refine (dTwoAt (-53) 1 1 2048 _ (by decide) (by decide) (by decide) (by decide)).mono ?_; rintro e Wq5_ ⟨r2x5_v, rfl, ht_, hb_⟩; obtain ⟨r2x5_n, r2x5_a, r2x5_m, r2x5_c, r2x5_p, rfl, ht2_⟩ := ht_.numform; clear ht_; obtain ⟨pc5, pf5⟩ := bcell hb_; have hr5 : ∀ b, b < _ → b < Wq5_.heap.size := (fun b h => Nat.lt_of_lt_of_le h hb_.size); have hq5 := hb_.size; (try simp [dh] at hq5); have hbt_ : Below Wq4_.heap.size Wq4_ Wq5_ := bstep (by with_reducible repeat (first | (refine Below.drew ?_) | (refine bmore ?_ _) | exact (Below.refl _ _) | exact Below.refl _ _)) hb_; have t_r2x5 : Hid (Tell Wq5_ B0 (.agg #[.bool r2x5_n, .slice r2x5_a r2x5_m r2x5_c, .int .i64 r2x5_p, .slice none 0 0]) 1 1 (2048)) := ht2_.base (Nat.le_trans ZB0.out (Below.size (B := w14_.heap.size) (by with_reducible repeat (first | (refine Below.drew ?_) | (refine bmore ?_ _) | exact HBa.out | exact Below.refl _ _)))); clear ht2_; replace t_r2x0 : Hid (Tell _ _ _ _ _ _) := t_r2x0.out.below hbt_; replace t_r2x1 : Hid (Tell _ _ _ _ _ _) := t_r2x1.out.below hbt_; replace t_r2x2 : Hid (Tell _ _ _ _ _ _) := t_r2x2.out.below hbt_; replace t_r2x3 : Hid (Tell _ _ _ _ _ _) := t_r2x3.out.below hbt_; replace t_r2x4 : Hid (Tell _ _ _ _ _ _) := t_r2x4.out.below hbt_; replace HBa : Hid (Below w14_.heap.size w14_ Wq5_) := bstep HBa.out hbt_; have hsz5 := HBa.out.size; (try (have hT50 : w14_.heap.size < Wq5_.heap.size := by omega)); (try (have hT51 : Wq0_.heap.size < Wq5_.heap.size := by omega)); (try (have hT52 : Wq1_.heap.size < Wq5_.heap.size := by omega)); (try (have hT53 : Wq2_.heap.size < Wq5_.heap.size := by omega)); (try (have hT54 : Wq3_.heap.size < Wq5_.heap.size := by omega)); (try (have hT55 : Wq4_.heap.size < Wq5_.heap.size := by omega)); replace ct : Cnt 7 := Cnt.mk _; clear hb_ hbt_ ck) | (have ck : Cnt 7 := ct; go_at_call 12; refine (dMul _ _ _ B0 34 1 ((34 + (N : Int)) + 2) 1 _ _ (t_r2x4.out.below (by with_reducible repeat (first | (refine Below.drew ?_) | (refine bmore ?_ _) | exact (Below.refl _ _) | exact Below.refl _ _))) (t_r2x5.out.below (by with_reducible repeat (first | (refine Below.drew ?_) | (refine bmore ?_ _) | exact (Below.refl _ _) | exact Below.refl _ _))) (by omega) (by omega) (by omega) (by omega) (by omega) (by omega)).mono ?_; rintro e Wq6_ ⟨r2x6_v, rfl, ht_, hb_⟩; obtain ⟨r2x6_n, r2x6_a, r2x6_m, r2x6_c, r2x6_p, rfl, ht2_⟩ := ht_.numform; clear ht_; obtain ⟨pc6, pf6⟩ := bcell hb_; have hr6 : ∀ b, b < _ → b < Wq6_.heap.size := (fun b h => Nat.lt_of_lt_of_le h hb_.size); have hq6 := hb_.size; (try simp [dh] at hq6); have hbt_ : Below Wq5_.heap.size Wq5_ Wq6_ := bstep (by with_reducible repeat (first | (refine Below.drew ?_) | (refine bmore ?_ _) | exact (Below.refl _ _) | exact Below.refl _ _)) hb_; have t_r2x6 : Hid (Tell Wq6_ B0 (.agg #[.bool r2x6_n, .slice r2x6_a r2x6_m r2x6_c, .int .i64 r2x6_p, .slice none 0 0]) 35 ((34 + (N : Int)) + 2 + 1) ((F : Int) * 268435456 * (2 * (N : Int) + 2) * 2048)) := ht2_.base (Nat.le_trans ZB0.out (Below.size (B := w14_.heap.size) (by with_reducible repeat (first | (refine Below.drew ?_) | (refine bmore ?_ _) | exact HBa.out | exact Below.refl _ _)))); clear ht2_; replace t_r2x0 : Hid (Tell _ _ _ _ _ _) := t_r2x0.out.below hbt_; replace t_r2x1 : Hid (Tell _ _ _ _ _ _) := t_r2x1.out.below hbt_; replace t_r2x2 : Hid (Tell _ _ _ _ _ _) := t_r2x2.out.below hbt_; replace t_r2x3 : Hid (Tell _ _ _ _ _ _) := t_r2x3.out.below hbt_; replace t_r2x4 : Hid (Tell _ _ _ _ _ _) := t_r2x4.out.below hbt_; replace t_r2x5 : Hid (Tell _ _ _ _ _ _) := t_r2x5.out.below hbt_; replace HBa : Hid (Below w14_.heap.size w14_ Wq6_) := bstep HBa.out hbt_; have hsz6 := HBa.out.size; (try (have hT60 : w14_.heap.size < Wq6_.heap.size := by omega)); (try (have hT61 : Wq0_.heap.size < Wq6_.heap.size := by omega)); (try (have hT62 : Wq1_.heap.size < Wq6_.heap.size := by omega)); (try (have hT63 : Wq2_.heap.size < Wq6_.heap.size := by omega)); (try (have hT64 : Wq3_.heap.size < Wq6_.heap.size := by omega)); (try (have hT65 : Wq4_.heap.size < Wq6_.heap.size := by omega)); (try (have hT66 : Wq5_.heap.size < Wq6_.heap.size := by omega)); replace ct : Cnt 8 := Cnt.mk _; clear hb_ hbt_ ck) | (have ck : Cnt 8 := ct; go_at_call 18; refine (dCmp _ _ _ B0 35 ((34 + (N : Int)) + 2 + 1) _ _ ((t_r2x2.out.below (by with_reducible repeat (first | (refine Below.drew ?_) | (refine bmore ?_ _) | exact (Below.refl _ _) | exact Below.refl _ _))).up 35 ((34 + (N : Int)) + 2 + 1) (by omega) (by omega)) (t_r2x6.out.below (by with_reducible repeat (first | (refine Below.drew ?_) | (refine bmore ?_ _) | exact (Below.refl _ _) | exact Below.refl _ _))) (by omega) (by omega)).mono ?_; rintro e Wq7_ ⟨rfl, hb_⟩; rw [HCC.out]; obtain ⟨pc7, pf7⟩ := bcell hb_; have hr7 : ∀ b, b < _ → b < Wq7_.heap.size := (fun b h => Nat.lt_of_lt_of_le h hb_.size); have hq7 := hb_.size; (try simp [dh] at hq7); have hbt_ : Below Wq6_.heap.size Wq6_ Wq7_ := bstep (by with_reducible repeat (first | (refine Below.drew ?_) | (refine bmore ?_ _) | exact (Below.refl _ _) | exact Below.refl _ _)) hb_; replace t_r2x0 : Hid (Tell _ _ _ _ _ _) := t_r2x0.out.below hbt_; replace t_r2x1 : Hid (Tell _ _ _ _ _ _) := t_r2x1.out.below hbt_; replace t_r2x2 : Hid (Tell _ _ _ _ _ _) := t_r2x2.out.below hbt_; replace t_r2x3 : Hid (Tell _ _ _ _ _ _) := t_r2x3.out.below hbt_; replace t_r2x4 : Hid (Tell _ _ _ _ _ _) := t_r2x4.out.below hbt_; replace t_r2x5 : Hid (Tell _ _ _ _ _ _) := t_r2x5.out.below hbt_; replace t_r2x6 : Hid (Tell _ _ _ _ _ _) := t_r2x6.out.below hbt_; replace HBa : Hid (Below w14_.heap.size w14_ Wq7_) := bstep HBa.out hbt_; have hsz7 := HBa.out.size; (try (have hT70 : w14_.heap.size < Wq7_.heap.size := by omega)); (try (have hT71 : Wq0_.heap.size < Wq7_.heap.size := by omega)); (try (have hT72 : Wq1_.heap.size < Wq7_.heap.size := by omega)); (try (have hT73 : Wq2_.heap.size < Wq7_.heap.size := by omega)); (try (have hT74 : Wq3_.heap.size < Wq7_.heap.size := by omega)); (try (have hT75 : Wq4_.heap.size < Wq7_.heap.size := by omega)); (try (have hT76 : Wq5_.heap.size < Wq7_.heap.size := by omega)); (try (have hT77 : Wq6_.heap.size < Wq7_.heap.size := by omega)); replace ct : Cnt 9 := Cnt.mk _; clear hb_ hbt_ ck))
                    replace BW : Hid (Below _ _ _) := bstep BW.out HBa.out
                    replace UM : Hid (URow _ _ _ _ _) := UM.out.below HBa.out
                    replace M : Hid (MBox _ _ _ _ _ _) := M.out.below HBa.out
                    replace Ux : Hid (URow _ _ _ _ _) := Ux.out.below HBa.out
                    replace Uy : Hid (URow _ _ _ _ _) := Uy.out.below HBa.out
                    replace ZB0 : Hid (_ ≤ _) := Nat.le_trans ZB0.out (Below.size HBa.out)
                    replace ZB1 : Hid (_ ≤ _) := Nat.le_trans ZB1.out (Below.size HBa.out)
                    replace ZB2 : Hid (_ ≤ _) := Nat.le_trans ZB2.out (Below.size HBa.out)
                    replace b_s : Hid (BoxF _ _ _ _ _ _) := b_s.out.below HBa.out
                    replace t_s : Hid (Tell _ _ _ _ _ _) := t_s.out.below HBa.out
                    replace b_l : Hid (BoxF _ _ _ _ _ _) := b_l.out.below HBa.out
                    replace t_l : Hid (Tell _ _ _ _ _ _) := t_l.out.below HBa.out
                    clear HBa ct dh t_r2x0 t_r2x1 t_r2x2 t_r2x3 t_r2x4 t_r2x5 t_r2x6 pc0 pf0 hr0 hq0 hsz0 pc1 pf1 hr1 hq1 hsz1 pc2 pf2 hr2 hq2 hsz2 pc3 pf3 hr3 hq3 hsz3 pc4 pf4 hr4 hq4 hsz4 pc5 pf5 hr5 hq5 hsz5 pc6 pf6 hr6 hq6 hsz6 pc7 pf7 hr7 hq7 hsz7
                    go_wp2
                    go_roundw
                    case rel => exact ⟨i + 1, by go_num, by omega, BW, UM, M, Ux, Uy⟩
                    case measure => simp [intOf]; omega
          · obtain rfl : N = i := by omega
            go_wp2
            go_ret
            exact ⟨ret_eq rfl, BW.out⟩

/-! ### THE ROW's STEP: WRITTEN OUT: LEAVE IT -/
set_option maxRecDepth 100000 in
theorem lifted (os : Os) (started : os.Started) (H : Type) (enc : TypeId × Value → H) :
    ReturnsInHanded {} Tryz.checked os 3 .any (Rows.solveNearsSpec.pre6 enc Tryz.prog Tryz.f3 Rows.solveNearsRow.domain false) (Rows.solveNearsSpec.post enc Tryz.prog Tryz.f3 false true false false) := by
  refine returnsInHanded_of_change (C := Tryz.checked) own started (by kernel_rfl) Tryz.func3
    (ChangeSpec.witness6 (enc := enc) (C := Tryz.checked) false ⟨#[], #[.int .i64 0, .slice none 0 0, .bool false, .bool false], []⟩ 8 (by kernel_rfl) (by kernel_rfl) (by kernel_rfl) (by kernel_rfl)) ?_
  intro W base args ds gs before hval0 hW hcnd _
  have hval : ∀ (j : Nat) t v, Tryz.f3.params[j]? = some t → args[j]? = some v → Value.okWide Tryz.prog W .any base t v := hval0
  have hW' := hW
  obtain ⟨p, q, hA0, hV, rfl, hfz, hnd⟩ := hW
  have hA : DataW.TrodAll enc Tryz.prog W 0 (fun _ => true) true Tryz.f3.params.toList args.toList ds p := hA0
  rw [Tryz.params3] at hA hval
  obtain ⟨v0, vs0, d0, ds0, p0, q0, hargs, rfl, rfl, h0, r0⟩ := trodAll_cons hA
  obtain ⟨v1, vs1, d1, ds1, p1, q1, rfl, rfl, rfl, h1, r1⟩ := trodAll_cons r0
  obtain ⟨v2, vs2, d2, ds2, p2, q2, rfl, rfl, rfl, h2, r2⟩ := trodAll_cons r1
  obtain ⟨v3, vs3, d3, ds3, p3, q3, rfl, rfl, rfl, h3, r3⟩ := trodAll_cons r2
  obtain ⟨rfl, rfl, rfl⟩ := trodAll_nil r3
  obtain rfl : args = #[v0, v1, v2, v3] := by cases args; simp_all
  obtain ⟨rfl, rfl⟩ := trodVars_none hV
  obtain ⟨a0, rfl, rfl, rfl, w0⟩ := open_int Tryz.underlying3 (hval 0 3 v0 rfl rfl) h0
  obtain ⟨a1, len1, cap1, rfl⟩ := okWide_slice Tryz.underlying22 (hval 1 22 v1 rfl rfl)
  have k1 := h1
  have lt1 : ∀ x ∈ p1, x.block < W.heap.size := by obtain ⟨m, hm⟩ := k1; exact DataW.trod_lt m _ _ _ hm
  obtain ⟨z1, w1⟩ : ∃ zs, IsRow .u64 W a1 len1 cap1 zs := by
    obtain ⟨fuel, hf⟩ := h1
    rcases open_ints Tryz.underlying22 Tryz.underlying36 (by kernel_rfl) hf with ⟨hcs, _⟩ | ⟨x, l, c, zs, hcs, _, hl, hm, hz, _, hcell, hwz⟩
    · simp [Value.cells] at hcs
      obtain ⟨rfl, rfl, rfl⟩ := hcs
      exact ⟨[], .inl ⟨rfl, rfl, rfl, rfl⟩⟩
    · simp [Value.cells] at hcs
      obtain ⟨rfl, rfl, rfl⟩ := hcs
      exact ⟨zs, .inr ⟨_, rfl, hl, hm, by simpa using hz, hcell, hwz⟩⟩
  obtain ⟨a2, rfl, rfl, rfl⟩ := open_bool Tryz.underlying4 (hval 2 4 v2 rfl rfl) h2
  obtain ⟨a3, rfl, rfl, rfl⟩ := open_bool Tryz.underlying4 (hval 3 4 v3 rfl rfl) h3
  clear hA0 hval0
  refine (walk a0 a1 len1 cap1 z1 a2 a3 W w0 w1).mono fun e W' ⟨he, bel⟩ => ?_
  subst he
  exact ⟨_, rfl, _, _, _, [], _, [], hW', trodAll_mk1 (shut_bool Tryz.underlying4 _), (trodAll_cons_mk (shut_int Tryz.underlying3 w0) (trodAll_cons_mk (Below.trod laidOut (by kernel_rfl) (of_decide_eq_true (by kernel_rfl)) k1 bel lt1) (trodAll_cons_mk (shut_bool Tryz.underlying4 _) (trodAll_cons_mk (shut_bool Tryz.underlying4 _) trodAll_mk0)))), rfl, bel.frame _, fun h => by cases h⟩

theorem over : Rows.solveNearsRow.holds Tryz.pinned (OpenSpec.ofChange Rows.solveNearsSpec) :=
  OpenClaim.holds_of_wide 3 Tryz.f3 rfl rfl rfl rfl rfl rfl rfl ⟨rfl, rfl, rfl, rfl, rfl⟩ rfl rfl rfl rfl rfl (by kernel_rfl) Tryz.func3 (by kernel_rfl)
    (of_decide_eq_true (by kernel_rfl)) (by unfold Func.isWrapper; first | (rw [if_pos (by decide +kernel)]; kernel_rfl) | (rw [if_neg (by decide +kernel)]; exact ⟨rfl, rfl⟩))
    (fun os started H enc _ => lifted os started H enc)

/-- ████ THE STATEMENT ████ -/
theorem proved : Rows.SolveNearsSaid := over
#print axioms proved
end Go.Proofs.YtpakpgjbgehhjaaGreat.solveNears
