/-
  The law SolvePivots returns true at every input (any size, any slice of patterns, any least), and leaves its arguments as they were. No conditions.
-/
import Derived.Test.YtpakpgjbgehhjaaGreatRows
import Derived.WalkKit
import Derived.ProofKit
import Derived.OpenShut
import Derived.Test.YtpakpgjbgehhjaaGreatGrAK
import Derived.Test.YtpakpgjbgehhjaaGreatGrAS
import Derived.Test.YtpakpgjbgehhjaaGreatGrAT
import Derived.Test.YtpakpgjbgehhjaaGreatGrL
import Derived.Test.YtpakpgjbgehhjaaGreatGrO
import Derived.Test.YtpakpgjbgehhjaaGreatGrR
import Derived.Test.YtpakpgjbgehhjaaGreatGrU
import Derived.Test.YtpakpgjbgehhjaaGreatGrZ
import Derived.ShutString
import Derived.ChangeOld
import Derived.Below
namespace Go.Proofs.YtpakpgjbgehhjaaGreat.solvePivots
open Go.ChangeShapes Go.WideShapes Go.ChangeAt Go.RowKit
open Go.ChangeMaps (open_string shut_string)
set_option linter.unusedVariables false

theorem own : ownKnob Tryz.prog.godebug = none := by kernel_rfl
theorem laidOut : laidOutB Tryz.prog = true := by kernel_rfl

/-- WHAT THE WALK IS TOLD OF A SLICE OF INTEGERS THAT CAME IN: it is nil; or it leads to a row of 'cap' cells, the numbers 'zs' (the first 'len' are its elements, the rest its spare room), each fitting its kind. -/
def IsRow (k : IntKind) (w : World) (a : Option Addr) (len cap : Nat) (zs : List Int) : Prop :=
  (a = none ∧ len = 0 ∧ cap = 0 ∧ zs = []) ∨
  ∃ x, a = some x ∧ len ≤ cap ∧ cap ≤ maxLen ∧ zs.length = cap ∧ (∀ i, i < zs.length → w.cell? (x.add i) = some (.int k (zs.getD i 0))) ∧ ∀ n ∈ zs, (Lit.int k n).wf = true

set_option linter.unusedSimpArgs false
theorem row_of (w : World) (a : Option Addr) (len cap : Nat) (zs : List Int) (h : IsRow .u64 w a len cap zs) : URow w a len cap (fun i => zs.getD i 0) := by
  rcases h with ⟨rfl, rfl, rfl, rfl⟩ | ⟨x, rfl, h1, h2, h3, h4, h5⟩
  · exact ⟨Nat.le_refl _, Nat.zero_le _, fun i => by simp, fun h => absurd h (Nat.lt_irrefl 0)⟩
  · refine ⟨h1, h2, fun i => ?_, fun hp => ?_⟩
    · show 0 ≤ zs.getD i 0 ∧ zs.getD i 0 < 18446744073709551616
      rcases Nat.lt_or_ge i zs.length with g | g
      · have hm : zs.getD i 0 ∈ zs := by
          rw [List.getD_eq_getElem?_getD, List.getElem?_eq_getElem g]
          exact List.getElem_mem g
        obtain ⟨q1, q2⟩ := bounds_u64 (h5 _ hm)
        exact ⟨q1, by omega⟩
      · rw [List.getD_eq_getElem?_getD, List.getElem?_eq_none g]
        simp
    · obtain ⟨b, o, s⟩ := x
      have hs : s = none := by simpa [Addr.add] using World.cell?_spot (h4 0 (by omega))
      subst hs
      have hb : b < w.heap.size := by
        have := World.block_lt_of_cell? _ _ (h4 0 (by omega))
        simpa [Addr.add] using this
      refine ⟨b, o, rfl, hb, fun i hi => ?_⟩
      have := h4 i (by omega)
      rw [add_plain] at this
      exact this
set_option maxRecDepth 100000 in
set_option maxHeartbeats 8000000 in
theorem walk (a0 : Int) (a1 : Option Addr) (len1 cap1 : Nat) (z1 : List Int) (a2 : Int) (w : World) (w0 : (Lit.int .i64 a0).wf = true) (w1 : IsRow .u64 w a1 len1 cap1 z1) (w2 : (Lit.int .u64 a2).wf = true) :
    Calls Tryz.prog 4 #[.int .i64 a0, .slice a1 len1 cap1, .int .u64 a2] w fun e w' => e = .returned (.bool true) ∧ Below w.heap.size w w' := by
  have hr := row_of w a1 len1 cap1 z1 w1
  generalize (fun i => z1.getD i 0) = U at hr
  clear w0 w1
  obtain ⟨a20, a22⟩ := bounds_u64 w2
  have a21 : a2 < 18446744073709551616 := by omega
  clear w2 a22
  have a0e := and_7_i a0
  obtain ⟨N, hN⟩ : ∃ R : Nat, (R : Int) = a0 % 8 := ⟨(a0 % 8).toNat, by omega⟩
  rw [← hN] at a0e
  have hN7 : N ≤ 7 := by omega
  clear hN
  obtain ⟨DD, hDD⟩ : ∃ d, d = N * N := ⟨_, rfl⟩
  have hNN : DD ≤ 49 := by rw [hDD]; exact Nat.mul_le_mul hN7 hN7
  have HDD : Hid (DD = N * N) := hDD
  clear hDD
  obtain ⟨lx, cx⟩ := hr.lenB
  have HR : Hid (URow _ _ _ _ _) := hr
  clear hr
  by_cases hl : 100 < len1
  · have hl2 : (100 : Int) < (len1 : Int) := by omega
    go_enter Tryz.func4, Tryz.ntmps4
    go_wp2_with fail
    refine (lHead12 _).mono ?_
    rintro e w1 ⟨rfl, hb1⟩
    go_wp2
    go_ret
    exact ⟨ret_eq rfl, hb1⟩
  have hl2 : ¬ (100 : Int) < (len1 : Int) := by omega
  have hdl : decide ((100 : Int) < (len1 : Int)) = false := decide_eq_false hl2
  obtain ⟨zM, hzM⟩ : ∃ z : Nat → Int, z = mC U len1 0 0 := ⟨_, rfl⟩
  obtain ⟨zX, hzX⟩ : ∃ z : Nat → Int, z = mC U len1 5 4607182418800017408 := ⟨_, rfl⟩
  have HzM : Hid (_ = _) := hzM
  have HzX : Hid (_ = _) := hzX
  clear hzM hzX
  have TM : Hid (Rgt (N : Int) (N : Int) (N : Int) DD) := by rw [HDD.out]; exact tight N N (by omega) (by omega)
  go_enter Tryz.func4, Tryz.ntmps4
  go_wp2_with fail
  refine (lHead12 _).mono ?_
  rintro e w1 ⟨rfl, hb1⟩
  have BW : Hid (Below w.heap.size w w1) := hb1
  have UA : Hid (URow w1 a1 len1 cap1 U) := HR.out.below hb1
  clear hb1 HR
  go_wp2_with fail
  refine (lMade12 N 0 a1 len1 cap1 U _ UA.out (by omega) (by omega) (by omega)).mono ?_
  rintro e w1_ ⟨gM, rfl, _, hU_, hb1_⟩
  rw [← HzM.out] at hU_
  rw [← HDD.out] at hU_ ⊢
  replace BW : Hid (Below _ _ _) := bstep BW.out hb1_
  replace UA : Hid (URow _ _ _ _ _) := UA.out.below hb1_
  clear hb1_
  have UM : Hid (URow w1_ (some ⟨gM, 0, none⟩) DD DD zM) := hU_
  clear hU_
  go_wp2_with fail
  have m_ := MBox.made w1_ (N : Int) (N : Int) (N : Int) (.slice (some ⟨gM, 0, none⟩) DD DD)
  have b_ : Below w1_.heap.size w1_ (w1_.alloc (.cells #[.int .i64 (N : Int), .int .i64 (N : Int), .int .i64 (N : Int), .slice (some ⟨gM, 0, none⟩) DD DD] 25)) := (Below.refl _ _).alloc (Nat.le_refl _) _
  obtain ⟨k_M, hk_M⟩ : ∃ k, k = w1_.heap.size := ⟨_, rfl⟩
  have L_M : Hid (w.heap.size ≤ k_M) := by rw [hk_M]; exact BW.out.size
  rw [← hk_M] at m_ ⊢
  generalize (w1_.alloc (.cells #[.int .i64 (N : Int), .int .i64 (N : Int), .int .i64 (N : Int), .slice (some ⟨gM, 0, none⟩) DD DD] 25)) = w2_ at m_ b_ ⊢
  replace BW : Hid (Below _ _ _) := bstep BW.out b_
  replace UA : Hid (URow _ _ _ _ _) := UA.out.below b_
  replace UM : Hid (URow _ _ _ _ _) := UM.out.below b_
  have M : Hid (MBox w2_ k_M (N : Int) (N : Int) (N : Int) (.slice (some ⟨gM, 0, none⟩) DD DD)) := m_
  clear m_ b_ hk_M
  refine (lList12 N 5 a1 len1 cap1 U _ UA.out (by omega) (by omega) (by omega)).mono ?_
  rintro e w3_ ⟨gx, cx0, rfl, hgx_, hO_, hU_, hb3_⟩
  rw [← HzX.out] at hU_
  clear hgx_ hO_
  replace BW : Hid (Below _ _ _) := bstep BW.out hb3_
  replace UA : Hid (URow _ _ _ _ _) := UA.out.below hb3_
  replace UM : Hid (URow _ _ _ _ _) := UM.out.below hb3_
  replace M : Hid (MBox _ _ _ _ _ _) := M.out.below hb3_
  clear hb3_
  have Ux : Hid (URow w3_ (some ⟨gx, 0, none⟩) N cx0 zX) := hU_
  clear hU_
  clear UA
  obtain ⟨M_0, M_1, M_2, M_3, M_4⟩ := M.out
  go_wp2_with fail
  have nc_ := calc_new w3_
  have bV_ : Below w3_.heap.size w3_ (w3_.alloc (.cells #[.int .u8 0] 31)) := bmore (Below.refl _ _) _
  clear M_0 M_1 M_2 M_3 M_4
  generalize (w3_.alloc (.cells #[.int .u8 0] 31)) = w4_ at nc_ bV_ ⊢
  obtain ⟨kc, hkc_⟩ : ∃ k, k = w3_.heap.size := ⟨_, rfl⟩
  rw [← hkc_] at nc_ ⊢
  have Oc : Hid (w.heap.size ≤ kc) := by show _ ≤ _; have := BW.out.size; omega
  have A_c_UM : Hid (Apt (some kc) (some ⟨gM, 0, none⟩) DD) := UM.out.apt (fun k e => by injection e with e; omega)
  have A_c_M : Hid (kc ≠ k_M) := by have := M.out.2.2.2.2; show _ ≠ _; omega
  have A_c_Ux : Hid (Apt (some kc) (some ⟨gx, 0, none⟩) N) := Ux.out.apt (fun k e => by injection e with e; omega)
  replace BW : Hid (Below _ _ _) := bstep BW.out bV_
  replace UM : Hid (URow _ _ _ _ _) := UM.out.below bV_
  replace M : Hid (MBox _ _ _ _ _ _) := M.out.below bV_
  replace Ux : Hid (URow _ _ _ _ _) := Ux.out.below bV_
  clear bV_ hkc_
  have Hc : Hid (IsCalc w4_ (.pointer (some ⟨kc, 0, none⟩)) (some kc) (0)) := nc_
  clear nc_
  refine (mClone N N N _ _ _ zM _ TM.out UM.out (by rw [← HDD.out]; omega)).mono ?_
  rintro e w5_ ⟨gV, xV, rfl, hg_, hU_, hC_, hb5_⟩
  rw [← HDD.out]
  have UV_ : URow w5_ (some ⟨gV, 0, none⟩) DD DD (fun j => xV[j]?.getD 0) := hU_.rowZ (hC_.1.trans HDD.out.symm) (by omega) hC_.2.1
  have HSAME : Hid (∀ i k, i < N → k < N → zM (i * N + k) = (fun j => xV[j]?.getD 0) (i * N + k)) := fun i k hi hk => by
    have e := hC_.2.2 i k hi hk
    rw [Nat.zero_add, Nat.zero_add] at e
    exact e.symm
  have Nkc_gV : Hid (kc ≠ gV) := fun e => absurd (Nat.lt_of_lt_of_le (Hc.out.lt _ rfl) hg_) (by rw [e]; exact Nat.lt_irrefl _)
  clear hU_ hC_ hg_
  replace BW : Hid (Below _ _ _) := bstep BW.out hb5_
  replace UM : Hid (URow _ _ _ _ _) := UM.out.below hb5_
  replace M : Hid (MBox _ _ _ _ _ _) := M.out.below hb5_
  replace Ux : Hid (URow _ _ _ _ _) := Ux.out.below hb5_
  replace Hc : Hid (IsCalc _ _ _ _) := Hc.out.later hb5_
  clear hb5_
  have UV : Hid (URow w5_ (some ⟨gV, 0, none⟩) DD DD (fun j => xV[j]?.getD 0)) := UV_
  clear UV_
  obtain ⟨M_0, M_1, M_2, M_3, M_4⟩ := M.out
  go_wp2_with fail
  have m_ := MBox.made w5_ (N : Int) (N : Int) (N : Int) (.slice (some ⟨gV, 0, none⟩) DD DD)
  have b_ : Below w5_.heap.size w5_ (w5_.alloc (.cells #[.int .i64 (N : Int), .int .i64 (N : Int), .int .i64 (N : Int), .slice (some ⟨gV, 0, none⟩) DD DD] 25)) := (Below.refl _ _).alloc (Nat.le_refl _) _
  obtain ⟨k_V, hk_V⟩ : ∃ k, k = w5_.heap.size := ⟨_, rfl⟩
  have L_V : Hid (w.heap.size ≤ k_V) := by rw [hk_V]; exact BW.out.size
  have Nkc_V : Hid (kc ≠ k_V) := by have := Hc.out.lt _ rfl; show _ ≠ _; omega
  rw [← hk_V] at m_ ⊢
  clear M_0 M_1 M_2 M_3 M_4
  generalize (w5_.alloc (.cells #[.int .i64 (N : Int), .int .i64 (N : Int), .int .i64 (N : Int), .slice (some ⟨gV, 0, none⟩) DD DD] 25)) = w6_ at m_ b_ ⊢
  replace BW : Hid (Below _ _ _) := bstep BW.out b_
  replace UM : Hid (URow _ _ _ _ _) := UM.out.below b_
  replace M : Hid (MBox _ _ _ _ _ _) := M.out.below b_
  replace Ux : Hid (URow _ _ _ _ _) := Ux.out.below b_
  replace Hc : Hid (IsCalc _ _ _ _) := Hc.out.later b_
  replace UV : Hid (URow _ _ _ _ _) := UV.out.below b_
  have V : Hid (MBox w6_ k_V (N : Int) (N : Int) (N : Int) (.slice (some ⟨gV, 0, none⟩) DD DD)) := m_
  clear m_ b_ hk_V
  by_cases hbig : 4 < N
  · skip
    have hbig2 : (4 : Int) < (N : Int) := by omega
    refine (sPivotMany (.pointer (some ⟨kc, 0, none⟩)) N N _ _ _ _ _ _ _ TM.out (by omega) hbig).mono ?_
    rintro e w7_ ⟨rfl, hb7_⟩
    replace BW : Hid (Below _ _ _) := bstep BW.out hb7_
    replace UM : Hid (URow _ _ _ _ _) := UM.out.below hb7_
    replace M : Hid (MBox _ _ _ _ _ _) := M.out.below hb7_
    replace Ux : Hid (URow _ _ _ _ _) := Ux.out.below hb7_
    replace Hc : Hid (IsCalc _ _ _ _) := Hc.out.later hb7_
    replace UV : Hid (URow _ _ _ _ _) := UV.out.below hb7_
    replace V : Hid (MBox _ _ _ _ _ _) := V.out.below hb7_
    clear hb7_
    obtain ⟨M_0, M_1, M_2, M_3, M_4⟩ := M.out
    obtain ⟨V_0, V_1, V_2, V_3, V_4⟩ := V.out
    go_wp2_with fail
    refine (mSame N N N N _ _ _ _ _ _ zM (fun j => xV[j]?.getD 0) _ TM.out TM.out UM.out UV.out HSAME.out).mono ?_
    rintro e w8_ ⟨rfl, hb8_⟩
    clear M_0 M_1 M_2 M_3 M_4 V_0 V_1 V_2 V_3 V_4
    replace BW : Hid (Below _ _ _) := bstep BW.out hb8_
    replace UM : Hid (URow _ _ _ _ _) := UM.out.below hb8_
    replace M : Hid (MBox _ _ _ _ _ _) := M.out.below hb8_
    replace Ux : Hid (URow _ _ _ _ _) := Ux.out.below hb8_
    replace Hc : Hid (IsCalc _ _ _ _) := Hc.out.later hb8_
    replace UV : Hid (URow _ _ _ _ _) := UV.out.below hb8_
    replace V : Hid (MBox _ _ _ _ _ _) := V.out.below hb8_
    clear hb8_
    go_wp2
    go_ret
    exact ⟨ret_eq rfl, BW.out⟩
  have hbig2 : ¬ (4 : Int) < (N : Int) := by omega
  have hbig3 : decide ((4 : Int) < (N : Int)) = false := decide_eq_false hbig2
  by_cases hp : AllF zM N N N ∧ 0 < a2 ∧ a2 < 9218868437227405312
  rotate_left
  · skip
    refine (sPivotPlain (.pointer (some ⟨kc, 0, none⟩)) N N _ _ _ zM _ _ a2 _ TM.out UM.out (by omega) a20 a21 hp).mono ?_
    rintro e w7_ ⟨rfl, hb7_⟩
    replace BW : Hid (Below _ _ _) := bstep BW.out hb7_
    replace UM : Hid (URow _ _ _ _ _) := UM.out.below hb7_
    replace M : Hid (MBox _ _ _ _ _ _) := M.out.below hb7_
    replace Ux : Hid (URow _ _ _ _ _) := Ux.out.below hb7_
    replace Hc : Hid (IsCalc _ _ _ _) := Hc.out.later hb7_
    replace UV : Hid (URow _ _ _ _ _) := UV.out.below hb7_
    replace V : Hid (MBox _ _ _ _ _ _) := V.out.below hb7_
    clear hb7_
    obtain ⟨M_0, M_1, M_2, M_3, M_4⟩ := M.out
    obtain ⟨V_0, V_1, V_2, V_3, V_4⟩ := V.out
    go_wp2_with fail
    refine (mSame N N N N _ _ _ _ _ _ zM (fun j => xV[j]?.getD 0) _ TM.out TM.out UM.out UV.out HSAME.out).mono ?_
    rintro e w8_ ⟨rfl, hb8_⟩
    clear M_0 M_1 M_2 M_3 M_4 V_0 V_1 V_2 V_3 V_4
    replace BW : Hid (Below _ _ _) := bstep BW.out hb8_
    replace UM : Hid (URow _ _ _ _ _) := UM.out.below hb8_
    replace M : Hid (MBox _ _ _ _ _ _) := M.out.below hb8_
    replace Ux : Hid (URow _ _ _ _ _) := Ux.out.below hb8_
    replace Hc : Hid (IsCalc _ _ _ _) := Hc.out.later hb8_
    replace UV : Hid (URow _ _ _ _ _) := UV.out.below hb8_
    replace V : Hid (MBox _ _ _ _ _ _) := V.out.below hb8_
    clear hb8_
    have HPN : Hid (¬ (AllF zM N N N ∧ 0 < a2 ∧ a2 < 9218868437227405312)) := hp
    clear hp
    by_cases fM : AllF zM N N N
    rotate_left
    · skip
      obtain ⟨M_0, M_1, M_2, M_3, M_4⟩ := M.out
      go_wp2_with fail
      refine (mFinNo N N N _ _ _ zM _ TM.out UM.out fM).mono ?_
      rintro e w9_ ⟨rfl, hb9_⟩
      clear M_0 M_1 M_2 M_3 M_4
      replace BW : Hid (Below _ _ _) := bstep BW.out hb9_
      replace UM : Hid (URow _ _ _ _ _) := UM.out.below hb9_
      replace M : Hid (MBox _ _ _ _ _ _) := M.out.below hb9_
      replace Ux : Hid (URow _ _ _ _ _) := Ux.out.below hb9_
      replace Hc : Hid (IsCalc _ _ _ _) := Hc.out.later hb9_
      replace UV : Hid (URow _ _ _ _ _) := UV.out.below hb9_
      replace V : Hid (MBox _ _ _ _ _ _) := V.out.below hb9_
      clear hb9_
      go_wp2
      go_ret
      exact ⟨ret_eq rfl, BW.out⟩
    obtain ⟨M_0, M_1, M_2, M_3, M_4⟩ := M.out
    go_wp2_with fail
    refine (mFinOk N N N _ _ _ zM _ TM.out UM.out fM).mono ?_
    rintro e w9_ ⟨rfl, hb9_⟩
    clear M_0 M_1 M_2 M_3 M_4
    replace BW : Hid (Below _ _ _) := bstep BW.out hb9_
    replace UM : Hid (URow _ _ _ _ _) := UM.out.below hb9_
    replace M : Hid (MBox _ _ _ _ _ _) := M.out.below hb9_
    replace Ux : Hid (URow _ _ _ _ _) := Ux.out.below hb9_
    replace Hc : Hid (IsCalc _ _ _ _) := Hc.out.later hb9_
    replace UV : Hid (URow _ _ _ _ _) := UV.out.below hb9_
    replace V : Hid (MBox _ _ _ _ _ _) := V.out.below hb9_
    clear hb9_
    have HPL : Hid (¬ (0 < a2 ∧ a2 < 9218868437227405312)) := fun g => HPN.out ⟨fM, g⟩
    clear fM
    go_wp2_with fail
    refine (finite_any a2 _ a20 a21).mono ?_
    rintro e w' ⟨rfl, hw⟩
    have hw2 := hw.symm
    clear hw
    subst hw2
    by_cases f1 : a2 / 4503599627370496 % 2048 < 2047
    rotate_left
    · rw [decide_eq_false f1]
      clear f1
      go_wp2
      go_ret
      exact ⟨ret_eq rfl, BW.out⟩
    rw [decide_eq_true f1]
    have F1 : Hid (a2 / 4503599627370496 % 2048 < 2047) := f1
    clear f1
    go_wp2_with fail
    refine (neg_any a2 _ a20 a21).mono ?_
    rintro e w' ⟨rfl, hw⟩
    have hw2 := hw.symm
    clear hw
    subst hw2
    by_cases f2 : 9223372036854775808 ≤ a2
    · rw [decide_eq_true f2]
      clear f2
      go_wp2
      go_ret
      exact ⟨ret_eq rfl, BW.out⟩
    rw [decide_eq_false f2]
    have hz : a2 % 9223372036854775808 = 0 := by
      have := F1.out
      have := HPL.out
      omega
    clear f2
    go_wp2_with fail
    refine (abs_any a2 _ a20 a21).mono ?_
    rintro e w' ⟨rfl, hw⟩
    have hw2 := hw.symm
    clear hw
    subst hw2
    rw [hz]
    go_wp2
    go_ret
    exact ⟨ret_eq rfl, BW.out⟩
  obtain ⟨hF0, hL0, hL1⟩ := hp
  have HFM : Hid (AllF zM N N N) := hF0
  have L0 : Hid (0 < a2) := hL0
  have L1 : Hid (a2 < 9218868437227405312) := hL1
  have hfin : decide (a2 / 4503599627370496 % 2048 < 2047) = true := decide_eq_true (by omega)
  have hneg : decide (9223372036854775808 ≤ a2) = false := decide_eq_false (by omega)
  have habs : a2 % 9223372036854775808 = a2 := by omega
  have hne0 : (a2 == 0) = false := by rw [beq_eq_false_iff_ne]; omega
  have HFI : Hid (_ = _) := hfin
  have HNG : Hid (_ = _) := hneg
  have HAB : Hid (_ = _) := habs
  clear hF0 hL0 hL1 hfin hneg habs
  obtain ⟨FF, hFF⟩ : ∃ f : Nat → Nat, f = fun j => (sv (zM j)).natAbs := ⟨_, rfl⟩
  have HFF : Hid (∀ j, FF j = (sv (zM j)).natAbs) := by rw [hFF]; exact fun _ => rfl
  clear hFF
  obtain ⟨MX, hMX⟩ : ∃ m, m = mxN FF DD := ⟨_, rfl⟩
  have HMX : Hid (MX = mxN FF DD) := hMX
  have HM : Hid (∀ i k, i < N → k < N → (sv (zM (i * N + k))).natAbs ≤ MX) := fun i k hi hk => by
    rw [hMX, ← HFF.out]
    exact mxN_le FF DD _ (by rw [HDD.out]; exact pl_lt hi hk)
  have HFD : Hid (∀ j, j < DD → mag (zM j) < 9218868437227405312) := fun j hj => by
    have hj2 : j < N * N := by rw [← HDD.out]; exact hj
    have hp : 0 < N := by
      refine Nat.pos_of_ne_zero fun e => ?_
      rw [e] at hj2
      omega
    have h1 : j / N < N := Nat.div_lt_of_lt_mul hj2
    have h2 : j % N < N := Nat.mod_lt _ hp
    have h3 := HFM.out (j / N) (j % N) h1 h2
    rw [Nat.mul_comm, Nat.div_add_mod] at h3
    exact h3
  clear hMX
  refine (sPivotOk (.pointer (some ⟨kc, 0, none⟩)) (some kc) 0 N N MX _ _ _ zM _ _ zX a2 _ Hc.out (by decide) (by decide) TM.out UM.out Ux.out A_c_Ux.out (by omega) HFM.out L0.out L1.out HM.out).mono ?_
  rintro e w7_ ⟨gy, tl, rfl, hg_, ⟨zY, FD, hU_, hC_, hP_⟩, hb7_⟩
  have HP : Hid (PvI zM zX zY N N MX tl a2 FD) := hP_
  have Nkc_gy : Hid (kc ≠ gy) := fun e => absurd (Nat.lt_of_lt_of_le (Hc.out.lt _ rfl) hg_) (by rw [e]; exact Nat.lt_irrefl _)
  clear hg_ hP_
  replace BW : Hid (Below _ _ _) := Bes.old BW.out hb7_ Oc.out
  replace UM : Hid (URow _ _ _ _ _) := UM.out.bes hb7_ A_c_UM.out
  replace M : Hid (MBox _ _ _ _ _ _) := M.out.bes hb7_ (ne_some A_c_M.out)
  replace Ux : Hid (URow _ _ _ _ _) := Ux.out.bes hb7_ A_c_Ux.out
  replace UV : Hid (URow _ _ _ _ _) := UV.out.bes hb7_ (Apt.ne Nkc_gV.out)
  replace V : Hid (MBox _ _ _ _ _ _) := V.out.bes hb7_ (ne_some Nkc_V.out)
  clear hb7_
  clear Hc
  have Hc : Hid (IsCalc w7_ (.pointer (some ⟨kc, 0, none⟩)) (some kc) (FD)) := hC_
  clear hC_
  have Uy : Hid (URow w7_ (some ⟨gy, 0, none⟩) N N zY) := hU_
  clear hU_
  obtain ⟨M_0, M_1, M_2, M_3, M_4⟩ := M.out
  obtain ⟨V_0, V_1, V_2, V_3, V_4⟩ := V.out
  go_wp2_with fail
  refine (mSame N N N N _ _ _ _ _ _ zM (fun j => xV[j]?.getD 0) _ TM.out TM.out UM.out UV.out HSAME.out).mono ?_
  rintro e w8_ ⟨rfl, hb8_⟩
  clear M_0 M_1 M_2 M_3 M_4 V_0 V_1 V_2 V_3 V_4
  replace BW : Hid (Below _ _ _) := bstep BW.out hb8_
  replace UM : Hid (URow _ _ _ _ _) := UM.out.below hb8_
  replace M : Hid (MBox _ _ _ _ _ _) := M.out.below hb8_
  replace Ux : Hid (URow _ _ _ _ _) := Ux.out.below hb8_
  replace UV : Hid (URow _ _ _ _ _) := UV.out.below hb8_
  replace V : Hid (MBox _ _ _ _ _ _) := V.out.below hb8_
  replace Hc : Hid (IsCalc _ _ _ _) := Hc.out.later hb8_
  replace Uy : Hid (URow _ _ _ _ _) := Uy.out.below hb8_
  clear hb8_
  clear UV V
  obtain ⟨M_0, M_1, M_2, M_3, M_4⟩ := M.out
  go_wp2_with fail
  refine (mFinOk N N N _ _ _ zM _ TM.out UM.out HFM.out).mono ?_
  rintro e w9_ ⟨rfl, hb9_⟩
  clear M_0 M_1 M_2 M_3 M_4
  replace BW : Hid (Below _ _ _) := bstep BW.out hb9_
  replace UM : Hid (URow _ _ _ _ _) := UM.out.below hb9_
  replace M : Hid (MBox _ _ _ _ _ _) := M.out.below hb9_
  replace Ux : Hid (URow _ _ _ _ _) := Ux.out.below hb9_
  replace Hc : Hid (IsCalc _ _ _ _) := Hc.out.later hb9_
  replace Uy : Hid (URow _ _ _ _ _) := Uy.out.below hb9_
  clear hb9_
  go_wp2_with fail
  refine (finite_any a2 _ a20 a21).mono ?_
  rintro e w' ⟨rfl, hw⟩
  have hw2 := hw.symm
  clear hw
  subst hw2
  rw [HFI.out]
  go_wp2_with fail
  refine (neg_any a2 _ a20 a21).mono ?_
  rintro e w' ⟨rfl, hw⟩
  have hw2 := hw.symm
  clear hw
  subst hw2
  rw [HNG.out]
  go_wp2_with fail
  refine (abs_any a2 _ a20 a21).mono ?_
  rintro e w' ⟨rfl, hw⟩
  have hw2 := hw.symm
  clear hw
  subst hw2
  rw [HAB.out]
  obtain ⟨c1, c2, c3⟩ := calc_cell Hc.out
  obtain ⟨G0, hG⟩ : ∃ G, bits .and .u8 FD 22 = G := ⟨_, rfl⟩
  by_cases hG0 : G0 = 0
  rotate_left
  · have hg0 : (G0 == 0) = false := by rw [beq_eq_false_iff_ne]; exact hG0
    go_wp2
    go_ret
    exact ⟨ret_eq rfl, BW.out⟩
  subst hG0
  have HF22 : Hid (bits .and .u8 FD 22 = 0) := hG
  obtain ⟨M_0, M_1, M_2, M_3, M_4⟩ := M.out
  go_wp2_with fail
  have m0_ := BoxF.made w9_ (.bool false) (.slice none 0 0) (.int .i64 0) (.slice none 0 0) 41
  have b_ : Below w9_.heap.size w9_ (w9_.alloc (.cells #[.bool false, .slice none 0 0, .int .i64 0, .slice none 0 0] 41)) := bmore (Below.refl _ _) _
  obtain ⟨k_m, hk_m⟩ : ∃ k, k = w9_.heap.size := ⟨_, rfl⟩
  have L_m : Hid (w.heap.size ≤ k_m) := by rw [hk_m]; exact Nat.le_trans BW.out.size (by omega)
  have K_mM : Hid (k_m ≠ k_M) := by have := M.out.2.2.2.2; show _ ≠ _; omega
  have A_mUM : Hid (Apt (some k_m) (some ⟨gM, 0, none⟩) DD) := UM.out.apt (fun k e => by injection e with e; omega)
  have A_mUx : Hid (Apt (some k_m) (some ⟨gx, 0, none⟩) N) := Ux.out.apt (fun k e => by injection e with e; omega)
  have A_mUy : Hid (Apt (some k_m) (some ⟨gy, 0, none⟩) N) := Uy.out.apt (fun k e => by injection e with e; omega)
  rw [← hk_m] at m0_ ⊢
  clear M_0 M_1 M_2 M_3 M_4
  generalize (w9_.alloc (.cells #[.bool false, .slice none 0 0, .int .i64 0, .slice none 0 0] 41)) = w10_ at m0_ b_ ⊢
  replace BW : Hid (Below _ _ _) := bstep BW.out b_
  replace UM : Hid (URow _ _ _ _ _) := UM.out.below b_
  replace M : Hid (MBox _ _ _ _ _ _) := M.out.below b_
  replace Ux : Hid (URow _ _ _ _ _) := Ux.out.below b_
  replace Uy : Hid (URow _ _ _ _ _) := Uy.out.below b_
  have b_m : Hid (BoxF w10_ k_m (.bool false) (.slice none 0 0) (.int .i64 0) (.slice none 0 0)) := m0_
  clear b_ m0_ hk_m
  clear c1 c2 c3 Hc hG
  obtain ⟨B0, hB0⟩ : ∃ B, B = w10_.heap.size := ⟨_, rfl⟩
  have ZB0 : Hid (B0 ≤ w10_.heap.size) := by show _ ≤ _; omega
  have KB_m : Hid (k_m < B0) := by rw [hB0]; exact b_m.out.2.2
  clear hB0
  go_wp2_with fail
  go_loopw [104] (fun s104_ wr => ∃ (i : Nat) (m_n : Bool) (m_a : Option Addr) (m_m m_c : Nat) (m_p : Int), s104_ = .int .i64 (i : Int) ∧ i ≤ DD ∧ Hid (Below w.heap.size w wr) ∧ Hid (URow wr (some ⟨gM, 0, none⟩) DD DD zM) ∧ Hid (MBox wr k_M (N : Int) (N : Int) (N : Int) (.slice (some ⟨gM, 0, none⟩) DD DD)) ∧ Hid (URow wr (some ⟨gx, 0, none⟩) N cx0 zX) ∧ Hid (URow wr (some ⟨gy, 0, none⟩) N N zY) ∧ Hid (B0 ≤ wr.heap.size) ∧ Hid (BoxF wr k_m (.bool m_n) (.slice m_a m_m m_c) (.int .i64 m_p) (.slice none 0 0)) ∧ Hid (Tell wr B0 (.agg #[.bool m_n, .slice m_a m_m m_c, .int .i64 m_p, .slice none 0 0]) 17 17 (((mxN FF i : Nat) : Int) * 16384))) (fun s104_ _ => DD - (intOf s104_).toNat)
  case atStart => exact ⟨0, false, none, 0, 0, 0, rfl, Nat.zero_le _, BW, UM, M, Ux, Uy, ZB0, b_m, (Tell.zero _ _ _ _ _ (by decide)).eq rfl⟩
  case round =>
    clear BW UM M Ux Uy ZB0 b_m
    obtain ⟨i, m_n, m_a, m_m, m_c, m_p, rfl, hi_, BW, UM, M, Ux, Uy, ZB0, b_m, t_m⟩ := hrel
    obtain ⟨w11_, rfl⟩ : ∃ x, x = wr := ⟨wr, rfl⟩
    by_cases hlt : (i : Int) < (DD : Int)
    · as_aux_lemma =>
        obtain ⟨l1_, q1⟩ := UM.out.cellg i (by omega)
        obtain ⟨y0, y1⟩ := UM.out.2.2.1 i
        have yf := HFD.out i (by omega)
        have hff := HFF.out i
        obtain ⟨y, hy⟩ : ∃ v, zM i = v := ⟨_, rfl⟩
        rw [hy] at q1 y0 y1 yf hff
        have YF : Hid (mag y < 9218868437227405312) := yf
        have HYF : Hid (FF i = (sv y).natAbs) := hff
        obtain ⟨cc, hcc⟩ : ∃ c, cmpZ ((xv y).natAbs : Int) (((mxN FF i : Nat) : Int) * 16384) = c := ⟨_, rfl⟩
        have HCC : Hid (_ = _) := hcc
        clear hy yf hff hcc
        obtain ⟨⟨b_m_0, b_m_1, b_m_2, b_m_3⟩, ⟨b_m_5, b_m_6, b_m_7, b_m_8⟩, b_m_4⟩ := b_m.out
        go_wp2_with fail
        clear b_m_0 b_m_1 b_m_2 b_m_3 b_m_4 b_m_5 b_m_6 b_m_7 b_m_8
        have ct : Cnt 1 := Cnt.mk _
        have dh : ∀ w : World, w.drew.heap = w.heap := fun _ => rfl
        have HBa : Hid (Below w11_.heap.size w11_ w11_) := Below.refl _ _
        go_region_held3 (fun w' => (w'.cell? ⟨k_m, 0, none⟩ = some (.bool m_n) ∧ w'.cell? ⟨k_m, 1, none⟩ = some (.slice m_a m_m m_c) ∧ w'.cell? ⟨k_m, 2, none⟩ = some (.int .i64 m_p) ∧ w'.cell? ⟨k_m, 3, none⟩ = some (.slice none 0 0))) (exact (b_m.out.below (by with_reducible repeat (first | (refine Below.drew ?_) | (refine bmore ?_ _) | exact HBa.out | exact Below.refl _ _))).cells) (first | (have ck : Cnt 1 := ct; go_at_call 11; refine (lExact y _ y0 y1).mono ?_; rintro e Wq0_ ⟨r1x0_v, rfl, ht_, hb_⟩; obtain ⟨r1x0_n, r1x0_a, r1x0_m, r1x0_c, r1x0_p, rfl, ht2_⟩ := ht_.numform; clear ht_; obtain ⟨pc0, pf0⟩ := bcell hb_; have hr0 : ∀ b, b < _ → b < Wq0_.heap.size := (fun b h => Nat.lt_of_lt_of_le h hb_.size); have hq0 := hb_.size; (try simp [dh] at hq0); have hbt_ : Below w11_.heap.size w11_ Wq0_ := bstep (by with_reducible repeat (first | (refine Below.drew ?_) | (refine bmore ?_ _) | exact (Below.refl _ _) | exact Below.refl _ _)) hb_; have t_r1x0 : Hid (Tell Wq0_ B0 (.agg #[.bool r1x0_n, .slice r1x0_a r1x0_m r1x0_c, .int .i64 r1x0_p, .slice none 0 0]) 17 17 (xv y)) := ht2_.base (Nat.le_trans ZB0.out (Below.size (B := w11_.heap.size) (by with_reducible repeat (first | (refine Below.drew ?_) | (refine bmore ?_ _) | exact HBa.out | exact Below.refl _ _)))); clear ht2_; replace HBa : Hid (Below w11_.heap.size w11_ Wq0_) := bstep HBa.out hbt_; have hsz0 := HBa.out.size; (try (have hT00 : w11_.heap.size < Wq0_.heap.size := by omega)); replace ct : Cnt 2 := Cnt.mk _; clear hb_ hbt_ ck) | (have ck : Cnt 2 := ct; go_at_call 14; refine (dAbs _ _ B0 17 17 _ (t_r1x0.out.below (by with_reducible repeat (first | (refine Below.drew ?_) | (refine bmore ?_ _) | exact (Below.refl _ _) | exact Below.refl _ _))) (by omega) (by omega)).mono ?_; rintro e Wq1_ ⟨r1x1_v, rfl, ht_, hb_⟩; obtain ⟨r1x1_n, r1x1_a, r1x1_m, r1x1_c, r1x1_p, rfl, ht2_⟩ := ht_.numform; clear ht_; obtain ⟨pc1, pf1⟩ := bcell hb_; have hr1 : ∀ b, b < _ → b < Wq1_.heap.size := (fun b h => Nat.lt_of_lt_of_le h hb_.size); have hq1 := hb_.size; (try simp [dh] at hq1); have hbt_ : Below Wq0_.heap.size Wq0_ Wq1_ := bstep (by with_reducible repeat (first | (refine Below.drew ?_) | (refine bmore ?_ _) | exact (Below.refl _ _) | exact Below.refl _ _)) hb_; have t_r1x1 : Hid (Tell Wq1_ B0 (.agg #[.bool r1x1_n, .slice r1x1_a r1x1_m r1x1_c, .int .i64 r1x1_p, .slice none 0 0]) 17 17 (((xv y).natAbs : Int))) := ht2_.base (Nat.le_trans ZB0.out (Below.size (B := w11_.heap.size) (by with_reducible repeat (first | (refine Below.drew ?_) | (refine bmore ?_ _) | exact HBa.out | exact Below.refl _ _)))); clear ht2_; replace t_r1x0 : Hid (Tell _ _ _ _ _ _) := t_r1x0.out.below hbt_; replace HBa : Hid (Below w11_.heap.size w11_ Wq1_) := bstep HBa.out hbt_; have hsz1 := HBa.out.size; (try (have hT10 : w11_.heap.size < Wq1_.heap.size := by omega)); (try (have hT11 : Wq0_.heap.size < Wq1_.heap.size := by omega)); replace ct : Cnt 3 := Cnt.mk _; clear hb_ hbt_ ck) | (have ck : Cnt 3 := ct; go_at_call 18; refine (dCmp _ _ _ B0 17 17 _ _ (t_r1x1.out.below (by with_reducible repeat (first | (refine Below.drew ?_) | (refine bmore ?_ _) | exact (Below.refl _ _) | exact Below.refl _ _))) (t_m.out.below (by with_reducible repeat (first | (refine Below.drew ?_) | (refine bmore ?_ _) | exact HBa.out | exact Below.refl _ _))) (by omega) (by omega)).mono ?_; rintro e Wq2_ ⟨rfl, hb_⟩; rw [HCC.out]; obtain ⟨pc2, pf2⟩ := bcell hb_; have hr2 : ∀ b, b < _ → b < Wq2_.heap.size := (fun b h => Nat.lt_of_lt_of_le h hb_.size); have hq2 := hb_.size; (try simp [dh] at hq2); have hbt_ : Below Wq1_.heap.size Wq1_ Wq2_ := bstep (by with_reducible repeat (first | (refine Below.drew ?_) | (refine bmore ?_ _) | exact (Below.refl _ _) | exact Below.refl _ _)) hb_; replace t_r1x0 : Hid (Tell _ _ _ _ _ _) := t_r1x0.out.below hbt_; replace t_r1x1 : Hid (Tell _ _ _ _ _ _) := t_r1x1.out.below hbt_; replace HBa : Hid (Below w11_.heap.size w11_ Wq2_) := bstep HBa.out hbt_; have hsz2 := HBa.out.size; (try (have hT20 : w11_.heap.size < Wq2_.heap.size := by omega)); (try (have hT21 : Wq0_.heap.size < Wq2_.heap.size := by omega)); (try (have hT22 : Wq1_.heap.size < Wq2_.heap.size := by omega)); replace ct : Cnt 4 := Cnt.mk _; clear hb_ hbt_ ck))
        replace BW : Hid (Below _ _ _) := bstep BW.out HBa.out
        replace UM : Hid (URow _ _ _ _ _) := UM.out.below HBa.out
        replace M : Hid (MBox _ _ _ _ _ _) := M.out.below HBa.out
        replace Ux : Hid (URow _ _ _ _ _) := Ux.out.below HBa.out
        replace Uy : Hid (URow _ _ _ _ _) := Uy.out.below HBa.out
        replace ZB0 : Hid (_ ≤ _) := Nat.le_trans ZB0.out (Below.size HBa.out)
        replace b_m : Hid (BoxF _ _ _ _ _ _) := b_m.out.below HBa.out
        replace t_m : Hid (Tell _ _ _ _ _ _) := t_m.out.below HBa.out
        clear HBa ct dh t_r1x0 t_r1x1 pc0 pf0 hr0 hq0 hsz0 pc1 pf1 hr1 hq1 hsz1 pc2 pf2 hr2 hq2 hsz2
        clear l1_ q1
        by_cases hc : 0 < cc
        · skip
          go_wp2_with fail
          refine (lExact y _ y0 y1).mono ?_
          rintro e w12_ ⟨q_v, rfl, ht_, hb_⟩
          obtain ⟨q_n, q_a, q_m, q_c, q_p, rfl, ht2_⟩ := ht_.numform
          have t_q : Hid (Tell w12_ B0 (.agg #[.bool q_n, .slice q_a q_m q_c, .int .i64 q_p, .slice none 0 0]) 17 17 (xv y)) := ht2_.base ZB0.out
          clear ht_ ht2_
          replace BW : Hid (Below _ _ _) := bstep BW.out hb_
          replace UM : Hid (URow _ _ _ _ _) := UM.out.below hb_
          replace M : Hid (MBox _ _ _ _ _ _) := M.out.below hb_
          replace Ux : Hid (URow _ _ _ _ _) := Ux.out.below hb_
          replace Uy : Hid (URow _ _ _ _ _) := Uy.out.below hb_
          replace ZB0 : Hid (_ ≤ _) := Nat.le_trans ZB0.out (Below.size hb_)
          replace b_m : Hid (BoxF _ _ _ _ _ _) := b_m.out.below hb_
          replace t_m : Hid (Tell _ _ _ _ _ _) := t_m.out.below hb_
          clear hb_
          go_wp2_with fail
          refine (dAbs _ _ B0 17 17 _ t_q.out (by omega) (by omega)).mono ?_
          rintro e w13_ ⟨r2x0_v, rfl, ht_, hb_⟩
          obtain ⟨r2x0_n, r2x0_a, r2x0_m, r2x0_c, r2x0_p, rfl, ht2_⟩ := ht_.numform
          have t_r2x0 : Hid (Tell w13_ B0 (.agg #[.bool r2x0_n, .slice r2x0_a r2x0_m r2x0_c, .int .i64 r2x0_p, .slice none 0 0]) 17 17 (((xv y).natAbs : Int))) := ht2_.base ZB0.out
          clear ht_ ht2_
          have HBa : Hid (Below w12_.heap.size w12_ w13_) := hb_
          clear hb_
          obtain ⟨⟨z0_, z1_, z2_, z3_⟩, ⟨z5_, z6_, z7_, z8_⟩, z4_⟩ := b_m.out.below HBa.out
          have hfz_ := z4_
          go_upto_region 27 with fail
          have bs_ := bes_puts w13_ k_m (.bool r2x0_n) (.slice r2x0_a r2x0_m r2x0_c) (.int .i64 r2x0_p) (.slice none 0 0)
          have mB_ := (b_m.out.below HBa.out).put (.bool r2x0_n) (.slice r2x0_a r2x0_m r2x0_c) (.int .i64 r2x0_p) (.slice none 0 0)
          have tB_ := t_r2x0.out.put (b := k_m) KB_m.out (.bool r2x0_n) (.slice r2x0_a r2x0_m r2x0_c) (.int .i64 r2x0_p) (.slice none 0 0)
          clear z0_ z1_ z2_ z3_ z4_ z5_ z6_ z7_ z8_ hfz_
          replace BW : Hid (Below _ _ _) := bstep BW.out HBa.out
          replace UM : Hid (URow _ _ _ _ _) := UM.out.below HBa.out
          replace M : Hid (MBox _ _ _ _ _ _) := M.out.below HBa.out
          replace Ux : Hid (URow _ _ _ _ _) := Ux.out.below HBa.out
          replace Uy : Hid (URow _ _ _ _ _) := Uy.out.below HBa.out
          replace ZB0 : Hid (_ ≤ _) := Nat.le_trans ZB0.out (Below.size HBa.out)
          replace b_m : Hid (BoxF _ _ _ _ _ _) := b_m.out.below HBa.out
          replace t_m : Hid (Tell _ _ _ _ _ _) := t_m.out.below HBa.out
          replace t_q : Hid (Tell _ _ _ _ _ _) := t_q.out.below HBa.out
          replace BW : Hid (Below _ _ _) := Bes.old BW.out bs_ L_m.out
          replace UM : Hid (URow _ _ _ _ _) := UM.out.puts A_mUM.out (.bool r2x0_n) (.slice r2x0_a r2x0_m r2x0_c) (.int .i64 r2x0_p) (.slice none 0 0)
          replace M : Hid (MBox _ _ _ _ _ _) := M.out.bes bs_ (ne_some K_mM.out)
          replace Ux : Hid (URow _ _ _ _ _) := Ux.out.puts A_mUx.out (.bool r2x0_n) (.slice r2x0_a r2x0_m r2x0_c) (.int .i64 r2x0_p) (.slice none 0 0)
          replace Uy : Hid (URow _ _ _ _ _) := Uy.out.puts A_mUy.out (.bool r2x0_n) (.slice r2x0_a r2x0_m r2x0_c) (.int .i64 r2x0_p) (.slice none 0 0)
          replace ZB0 : Hid (_ ≤ _) := Nat.le_trans ZB0.out (Bes.size bs_)
          replace t_q : Hid (Tell _ _ _ _ _ _) := t_q.out.put (b := k_m) KB_m.out (.bool r2x0_n) (.slice r2x0_a r2x0_m r2x0_c) (.int .i64 r2x0_p) (.slice none 0 0)
          replace b_m : Hid (BoxF _ _ _ _ _ _) := mB_
          replace t_m : Hid (Tell _ B0 (.agg #[.bool r2x0_n, .slice r2x0_a r2x0_m r2x0_c, .int .i64 r2x0_p, .slice none 0 0]) 17 17 (((xv y).natAbs : Int))) := tB_
          clear mB_ tB_ bs_ HBa
          generalize ((((w13_.setCell ⟨k_m, 0, none⟩ (.bool r2x0_n)).setCell ⟨k_m, 1, none⟩ (.slice r2x0_a r2x0_m r2x0_c)).setCell ⟨k_m, 2, none⟩ (.int .i64 r2x0_p)).setCell ⟨k_m, 3, none⟩ (.slice none 0 0)) = w14_ at BW UM M Ux Uy ZB0 b_m t_m t_q ⊢
          clear t_r2x0
          have TM2 : Hid (Tell _ B0 _ 17 17 (((mxN FF (i + 1) : Nat) : Int) * 16384)) := t_m.out.eq (by
            have h := (cmp_pos _ _).1 (by rw [HCC.out]; exact hc)
            rw [xv_absI y YF.out] at h
            rw [mx_up FF i (by rw [HYF.out]; omega), HYF.out]
            exact xv_absI y YF.out)
          clear hc t_m t_q
          go_wp2
          go_roundw
          case rel => exact ⟨i + 1, _, _, _, _, _, by go_num, by omega, BW, UM, M, Ux, Uy, ZB0, b_m, TM2⟩
          case measure => simp [intOf]; omega
        · skip
          have TM2 : Hid (Tell _ B0 _ 17 17 (((mxN FF (i + 1) : Nat) : Int) * 16384)) := t_m.out.eq (by
            have h : ¬ (((mxN FF i : Nat) : Int) * 16384 < ((xv y).natAbs : Int)) := fun g => hc (by rw [← HCC.out]; exact (cmp_pos _ _).2 g)
            rw [xv_absI y YF.out] at h
            rw [mx_stay FF i (by rw [HYF.out]; omega)])
          clear t_m
          go_wp2
          go_roundw
          case rel => exact ⟨i + 1, _, _, _, _, _, by go_num, by omega, BW, UM, M, Ux, Uy, ZB0, b_m, TM2⟩
          case measure => simp [intOf]; omega
    · obtain rfl : DD = i := by omega
      have FM : Hid (Tell w11_ 0 (.agg #[.bool m_n, .slice m_a m_m m_c, .int .i64 m_p, .slice none 0 0]) 17 17 ((MX : Int) * 16384)) := (t_m.out.base (Nat.zero_le _)).eq (by rw [HMX.out])
      have BV1 : Hid (Below w11_.heap.size w11_ w11_) := Below.refl _ _
      clear t_m
      obtain ⟨XY, hXY⟩ : ∃ f : Nat → Int, f = fun k => xv (zY k) := ⟨_, rfl⟩
      have HXY : Hid (∀ k, XY k = xv (zY k)) := by rw [hXY]; exact fun _ => rfl
      clear hXY
      go_wp2_with fail
      have m0_ := BoxF.made w11_ (.bool false) (.slice none 0 0) (.int .i64 0) (.slice none 0 0) 41
      have b_ : Below w11_.heap.size w11_ (w11_.alloc (.cells #[.bool false, .slice none 0 0, .int .i64 0, .slice none 0 0] 41)) := bmore (Below.refl _ _) _
      obtain ⟨k_s, hk_s⟩ : ∃ k, k = w11_.heap.size := ⟨_, rfl⟩
      have L_s : Hid (w.heap.size ≤ k_s) := by rw [hk_s]; exact Nat.le_trans BW.out.size (by omega)
      have K_sM : Hid (k_s ≠ k_M) := by have := M.out.2.2.2.2; show _ ≠ _; omega
      have A_sUM : Hid (Apt (some k_s) (some ⟨gM, 0, none⟩) DD) := UM.out.apt (fun k e => by injection e with e; omega)
      have A_sUx : Hid (Apt (some k_s) (some ⟨gx, 0, none⟩) N) := Ux.out.apt (fun k e => by injection e with e; omega)
      have A_sUy : Hid (Apt (some k_s) (some ⟨gy, 0, none⟩) N) := Uy.out.apt (fun k e => by injection e with e; omega)
      have LBV1_s : Hid (w11_.heap.size ≤ k_s) := by have := Below.size BV1.out; show _ ≤ _; omega
      have N_ms : Hid (k_m ≠ k_s) := by have := b_m.out.2.2; show _ ≠ _; omega
      rw [← hk_s] at m0_ ⊢
      generalize (w11_.alloc (.cells #[.bool false, .slice none 0 0, .int .i64 0, .slice none 0 0] 41)) = w12_ at m0_ b_ ⊢
      replace BW : Hid (Below _ _ _) := bstep BW.out b_
      replace UM : Hid (URow _ _ _ _ _) := UM.out.below b_
      replace M : Hid (MBox _ _ _ _ _ _) := M.out.below b_
      replace Ux : Hid (URow _ _ _ _ _) := Ux.out.below b_
      replace Uy : Hid (URow _ _ _ _ _) := Uy.out.below b_
      replace ZB0 : Hid (_ ≤ _) := Nat.le_trans ZB0.out (Below.size b_)
      replace b_m : Hid (BoxF _ _ _ _ _ _) := b_m.out.below b_
      replace BV1 : Hid (Below _ _ _) := bstep BV1.out b_
      have b_s : Hid (BoxF w12_ k_s (.bool false) (.slice none 0 0) (.int .i64 0) (.slice none 0 0)) := m0_
      clear b_ m0_ hk_s
      obtain ⟨B1, hB1⟩ : ∃ B, B = w12_.heap.size := ⟨_, rfl⟩
      have ZB1 : Hid (B1 ≤ w12_.heap.size) := by show _ ≤ _; omega
      have KB_s : Hid (k_s < B1) := by rw [hB1]; exact b_s.out.2.2
      clear hB1
      have OK : Hid (∀ k, k < 0 → mag (zX k) < 9218868437227405312) := fun k h => absurd h (Nat.not_lt_zero k)
      go_wp2_with fail
      go_loopw [18] (fun s18_ wr => ∃ (i : Nat) (s_n : Bool) (s_a : Option Addr) (s_m s_c : Nat) (s_p : Int), s18_ = .int .i64 (i : Int) ∧ i ≤ N ∧ Hid (Below w.heap.size w wr) ∧ Hid (URow wr (some ⟨gM, 0, none⟩) DD DD zM) ∧ Hid (MBox wr k_M (N : Int) (N : Int) (N : Int) (.slice (some ⟨gM, 0, none⟩) DD DD)) ∧ Hid (URow wr (some ⟨gx, 0, none⟩) N cx0 zX) ∧ Hid (URow wr (some ⟨gy, 0, none⟩) N N zY) ∧ Hid (B0 ≤ wr.heap.size) ∧ Hid (BoxF wr k_m (.bool m_n) (.slice m_a m_m m_c) (.int .i64 m_p) (.slice none 0 0)) ∧ Hid (Below w11_.heap.size w11_ wr) ∧ Hid (B1 ≤ wr.heap.size) ∧ Hid (∀ k, k < i → mag (zX k) < 9218868437227405312) ∧ Hid (BoxF wr k_s (.bool s_n) (.slice s_a s_m s_c) (.int .i64 s_p) (.slice none 0 0)) ∧ Hid (Tell wr B1 (.agg #[.bool s_n, .slice s_a s_m s_c, .int .i64 s_p, .slice none 0 0]) 17 (17 + (i : Int)) ((fabs XY i : Nat) : Int))) (fun s18_ _ => N - (intOf s18_).toNat)
      case atStart => exact ⟨0, false, none, 0, 0, 0, rfl, Nat.zero_le _, BW, UM, M, Ux, Uy, ZB0, b_m, BV1, ZB1, OK, b_s, (Tell.zero _ _ _ _ _ (by simp)).eq rfl⟩
      case round =>
        clear BW UM M Ux Uy ZB0 b_m BV1 ZB1 OK b_s
        obtain ⟨i, s_n, s_a, s_m, s_c, s_p, rfl, hi_, BW, UM, M, Ux, Uy, ZB0, b_m, BV1, ZB1, OK, b_s, t_s⟩ := hrel
        obtain ⟨w13_, rfl⟩ : ∃ x, x = wr := ⟨wr, rfl⟩
        by_cases hlt : (i : Int) < (N : Int)
        · as_aux_lemma =>
            obtain ⟨l1_, q1⟩ := Ux.out.cellg i (by omega)
            obtain ⟨x0, x1⟩ := Ux.out.2.2.1 i
            obtain ⟨x, hx⟩ : ∃ x, zX i = x := ⟨_, rfl⟩
            have HX1 : Hid (_ = _) := hx
            rw [hx] at q1 x0 x1
            clear hx
            go_wp2_with fail
            refine (finite_any x _ x0 x1).mono ?_
            rintro e w' ⟨rfl, hw⟩
            have hw2 := hw.symm
            clear hw
            subst hw2
            rw [pat_dec x x0 x1]
            by_cases hf : mag x < 9218868437227405312
            rotate_left
            · rw [decide_eq_false hf]
              clear hf
              go_wp2
              go_ret
              exact ⟨ret_eq rfl, BW.out⟩
            rw [decide_eq_true hf]
            have OK2 : Hid (∀ k, k < i + 1 → mag (zX k) < 9218868437227405312) := fun k hk => by
              rcases Nat.lt_or_ge k i with g | g
              · exact OK.out k g
              · rw [show k = i by omega, HX1.out]; exact hf
            clear hf l1_ q1 OK HX1 x0 x1
            obtain ⟨l2_, q2⟩ := Uy.out.cellg i (by omega)
            obtain ⟨v0, v1⟩ := Uy.out.2.2.1 i
            have hv1 := HXY.out i
            obtain ⟨v, hv⟩ : ∃ x, zY i = x := ⟨_, rfl⟩
            rw [hv] at q2 v0 v1 hv1
            have HV1 : Hid (XY i = xv v) := hv1
            clear hv hv1
            obtain ⟨⟨b_s_0, b_s_1, b_s_2, b_s_3⟩, ⟨b_s_5, b_s_6, b_s_7, b_s_8⟩, b_s_4⟩ := b_s.out
            go_wp2_with fail
            clear b_s_0 b_s_1 b_s_2 b_s_3 b_s_4 b_s_5 b_s_6 b_s_7 b_s_8
            have HBa : Hid (Below w13_.heap.size w13_ w13_.drew) := (Below.refl _ _).drew
            have hfz_ := fun (w' : World) (h : Below w13_.heap.size w13_ w') => b_s.out.below h
            refine wp_region_noPanic ?_
            refine AnyT.start (T := (fun w' => (w'.cell? ⟨gy, i, none⟩ = some (.int .u64 v)) ∧ (w'.cell? ⟨k_s, 0, none⟩ = some (.bool s_n) ∧ w'.cell? ⟨k_s, 1, none⟩ = some (.slice s_a s_m s_c) ∧ w'.cell? ⟨k_s, 2, none⟩ = some (.int .i64 s_p) ∧ w'.cell? ⟨k_s, 3, none⟩ = some (.slice none 0 0)))) (z := 8) (by kernel_rfl) ?_
            have hHeld0 := (⟨((Below.cell HBa.out l2_).trans q2), (b_s.out.below HBa.out).cells⟩ : (fun w' => (w'.cell? ⟨gy, i, none⟩ = some (.int .u64 v)) ∧ (w'.cell? ⟨k_s, 0, none⟩ = some (.bool s_n) ∧ w'.cell? ⟨k_s, 1, none⟩ = some (.slice s_a s_m s_c) ∧ w'.cell? ⟨k_s, 2, none⟩ = some (.int .i64 s_p) ∧ w'.cell? ⟨k_s, 3, none⟩ = some (.slice none 0 0))) w13_.drew)
            refine AnyT.take (i := 0) (oi := ({ dst := some 130, op := Op.load _ (Operand.tmp 17), type := _, pos := _, after := _, guard := none } : Oper)) (v := ?_) rfl (by kernel_rfl) (by kernel_rfl) (by kernel_rfl) (by kernel_rfl) (fun _ _ _ h => h) (Or.inl ⟨by rfl, ?_⟩) hHeld0 ?_
            rotate_left
            · intro w' hSw; (try dsimp only at hSw); go_simp <;> (try with_reducible rfl)
            (try simp only [Act.put, List.setIfInBounds_toArray, List.set_cons_zero, List.set_cons_succ])
            refine AnyT.take (i := 1) (oi := ({ dst := some 131, op := Op.move (Operand.tmp 11), type := _, pos := _, after := _, guard := none } : Oper)) (v := ?_) rfl (by kernel_rfl) (by kernel_rfl) (by kernel_rfl) (by kernel_rfl) (fun _ _ _ h => h) (Or.inl ⟨by rfl, ?_⟩) hHeld0 ?_
            rotate_left
            · intro w' hSw; (try dsimp only at hSw); go_simp <;> (try with_reducible rfl)
            (try simp only [Act.put, List.setIfInBounds_toArray, List.set_cons_zero, List.set_cons_succ])
            refine AnyT.take (i := 2) (oi := ({ dst := some 132, op := Op.move (Operand.tmp 18), type := _, pos := _, after := _, guard := none } : Oper)) (v := ?_) rfl (by kernel_rfl) (by kernel_rfl) (by kernel_rfl) (by kernel_rfl) (fun _ _ _ h => h) (Or.inl ⟨by rfl, ?_⟩) hHeld0 ?_
            rotate_left
            · intro w' hSw; (try dsimp only at hSw); go_simp <;> (try with_reducible rfl)
            (try simp only [Act.put, List.setIfInBounds_toArray, List.set_cons_zero, List.set_cons_succ])
            refine AnyT.take (i := 3) (oi := ({ dst := some 133, op := Op.indexAddr _ (Operand.tmp 131) (Operand.tmp 132), type := _, pos := _, after := _, guard := none } : Oper)) (v := ?_) rfl (by kernel_rfl) (by kernel_rfl) (by kernel_rfl) (by kernel_rfl) (fun _ _ _ h => h) (Or.inl ⟨by rfl, ?_⟩) hHeld0 ?_
            rotate_left
            · intro w' hSw; (try dsimp only at hSw); go_simp <;> (try with_reducible rfl)
            (try simp only [Act.put, List.setIfInBounds_toArray, List.set_cons_zero, List.set_cons_succ])
            refine AnyT.take (i := 4) (oi := ({ dst := some 134, op := Op.load _ (Operand.tmp 133), type := _, pos := _, after := _, guard := none } : Oper)) (v := ?_) rfl (by kernel_rfl) (by kernel_rfl) (by kernel_rfl) (by kernel_rfl) (fun _ _ _ h => h) (Or.inl ⟨by rfl, ?_⟩) hHeld0 ?_
            rotate_left
            · intro w' hSw; (try dsimp only at hSw); go_simp <;> (try with_reducible rfl)
            (try simp only [Act.put, List.setIfInBounds_toArray, List.set_cons_zero, List.set_cons_succ])
            refine AnyT.one (i := 5) (o := ({ dst := some 135, op := Op.call { callee := Callee.value (Operand.func _), args := #[Operand.tmp 134], argTypes := _ }, type := _, pos := _, after := _, guard := none } : Oper)) (by kernel_rfl) rfl (fun K hK => ?_)
            go_simp
            refine (lExact v _ v0 v1).mono ?_
            rintro e Wq0_ ⟨r1x0_v, rfl, ht_, hb_⟩
            obtain ⟨r1x0_n, r1x0_a, r1x0_m, r1x0_c, r1x0_p, rfl, ht2_⟩ := ht_.numform
            clear ht_
            have t_r1x0 : Hid (Tell Wq0_ B1 (.agg #[.bool r1x0_n, .slice r1x0_a r1x0_m r1x0_c, .int .i64 r1x0_p, .slice none 0 0]) 17 17 (xv v)) := ht2_.base (Nat.le_trans ZB1.out (Below.size HBa.out))
            clear ht2_
            replace HBa : Hid (Below w13_.heap.size w13_ Wq0_) := bstep HBa.out hb_
            clear hb_
            (try go_wp2_with fail)
            refine hK.out _ _ (fun _ => ⟨((Below.cell HBa.out l2_).trans q2), (b_s.out.below HBa.out).cells⟩) (fun hHeld1 => ?_)
            replace hHeld0 := hHeld1 (by decide)
            clear hK K hHeld1
            (try simp only [Act.put, List.setIfInBounds_toArray, List.set_cons_zero, List.set_cons_succ])
            refine AnyT.one (i := 6) (o := ({ dst := some 136, op := Op.call { callee := Callee.value (Operand.func _), args := #[Operand.tmp 135], argTypes := _ }, type := _, pos := _, after := _, guard := none } : Oper)) (by kernel_rfl) rfl (fun K hK => ?_)
            go_simp
            refine (dAbs _ _ B1 17 17 _ t_r1x0.out (by omega) (by omega)).mono ?_
            rintro e Wq1_ ⟨r1x1_v, rfl, ht_, hb_⟩
            obtain ⟨r1x1_n, r1x1_a, r1x1_m, r1x1_c, r1x1_p, rfl, ht2_⟩ := ht_.numform
            clear ht_
            have t_r1x1 : Hid (Tell Wq1_ B1 (.agg #[.bool r1x1_n, .slice r1x1_a r1x1_m r1x1_c, .int .i64 r1x1_p, .slice none 0 0]) 17 17 (((xv v).natAbs : Int))) := ht2_.base (Nat.le_trans ZB1.out (Below.size HBa.out))
            clear ht2_
            replace t_r1x0 : Hid (Tell _ _ _ _ _ _) := t_r1x0.out.below hb_
            replace HBa : Hid (Below w13_.heap.size w13_ Wq1_) := bstep HBa.out hb_
            clear hb_
            (try go_wp2_with fail)
            refine hK.out _ _ (fun _ => ⟨((Below.cell HBa.out l2_).trans q2), (b_s.out.below HBa.out).cells⟩) (fun hHeld1 => ?_)
            replace hHeld0 := hHeld1 (by decide)
            clear hK K hHeld1
            (try simp only [Act.put, List.setIfInBounds_toArray, List.set_cons_zero, List.set_cons_succ])
            refine AnyT.one (i := 7) (o := ({ dst := some 137, op := Op.call { callee := Callee.value (Operand.func _), args := #[Operand.tmp 130, Operand.tmp 136], argTypes := _ }, type := _, pos := _, after := _, guard := none } : Oper)) (by kernel_rfl) rfl (fun K hK => ?_)
            go_simp
            refine (dAdd _ _ _ B1 17 (17 + (i : Int)) _ _ (t_s.out.below HBa.out) (t_r1x1.out.wide (17 + (i : Int)) (by omega)) (by omega) (by omega) (by omega)).mono ?_
            rintro e Wq2_ ⟨r1x2_v, rfl, ht_, hb_⟩
            obtain ⟨r1x2_n, r1x2_a, r1x2_m, r1x2_c, r1x2_p, rfl, ht2_⟩ := ht_.numform
            clear ht_
            have t_r1x2 : Hid (Tell Wq2_ B1 (.agg #[.bool r1x2_n, .slice r1x2_a r1x2_m r1x2_c, .int .i64 r1x2_p, .slice none 0 0]) 17 ((17 + (i : Int)) + 1) (((fabs XY i : Nat) : Int) + ((xv v).natAbs : Int))) := ht2_.base (Nat.le_trans ZB1.out (Below.size HBa.out))
            clear ht2_
            replace t_r1x0 : Hid (Tell _ _ _ _ _ _) := t_r1x0.out.below hb_
            replace t_r1x1 : Hid (Tell _ _ _ _ _ _) := t_r1x1.out.below hb_
            replace HBa : Hid (Below w13_.heap.size w13_ Wq2_) := bstep HBa.out hb_
            clear hb_
            (try go_wp2_with fail)
            refine hK.out _ _ (fun _ => ⟨((Below.cell HBa.out l2_).trans q2), (b_s.out.below HBa.out).cells⟩) (fun hHeld1 => ?_)
            replace hHeld0 := hHeld1 (by decide)
            clear hK K hHeld1
            (try simp only [Act.put, List.setIfInBounds_toArray, List.set_cons_zero, List.set_cons_succ])
            refine AnyT.one (i := 8) (o := ({ dst := none, op := Op.store _ (Operand.tmp 17) (Operand.tmp 137), type := _, pos := _, after := _, guard := none } : Oper)) (by kernel_rfl) rfl (fun K hK => ?_)
            clear hHeld0
            obtain ⟨⟨z0_, z1_, z2_, z3_⟩, ⟨z5_, z6_, z7_, z8_⟩, z4_⟩ := hfz_ _ HBa.out
            go_simp
            refine hK.out _ _ (fun h => absurd rfl h) (fun _ => ?_)
            clear hK K
            (try simp only [Act.put, List.setIfInBounds_toArray, List.set_cons_zero, List.set_cons_succ])
            refine AnyT.done (by kernel_rfl) ?_
            refine NoPanic.normal ?_
            have bs_ := bes_puts Wq2_ k_s (.bool r1x2_n) (.slice r1x2_a r1x2_m r1x2_c) (.int .i64 r1x2_p) (.slice none 0 0)
            have mB_ := (b_s.out.below HBa.out).put (.bool r1x2_n) (.slice r1x2_a r1x2_m r1x2_c) (.int .i64 r1x2_p) (.slice none 0 0)
            have tB_ := t_r1x2.out.put (b := k_s) KB_s.out (.bool r1x2_n) (.slice r1x2_a r1x2_m r1x2_c) (.int .i64 r1x2_p) (.slice none 0 0)
            clear z0_ z1_ z2_ z3_ z4_ z5_ z6_ z7_ z8_ hfz_
            replace BW : Hid (Below _ _ _) := bstep BW.out HBa.out
            replace UM : Hid (URow _ _ _ _ _) := UM.out.below HBa.out
            replace M : Hid (MBox _ _ _ _ _ _) := M.out.below HBa.out
            replace Ux : Hid (URow _ _ _ _ _) := Ux.out.below HBa.out
            replace Uy : Hid (URow _ _ _ _ _) := Uy.out.below HBa.out
            replace ZB0 : Hid (_ ≤ _) := Nat.le_trans ZB0.out (Below.size HBa.out)
            replace b_m : Hid (BoxF _ _ _ _ _ _) := b_m.out.below HBa.out
            replace BV1 : Hid (Below _ _ _) := bstep BV1.out HBa.out
            replace ZB1 : Hid (_ ≤ _) := Nat.le_trans ZB1.out (Below.size HBa.out)
            replace b_s : Hid (BoxF _ _ _ _ _ _) := b_s.out.below HBa.out
            replace t_s : Hid (Tell _ _ _ _ _ _) := t_s.out.below HBa.out
            replace BW : Hid (Below _ _ _) := Bes.old BW.out bs_ L_s.out
            replace UM : Hid (URow _ _ _ _ _) := UM.out.puts A_sUM.out (.bool r1x2_n) (.slice r1x2_a r1x2_m r1x2_c) (.int .i64 r1x2_p) (.slice none 0 0)
            replace M : Hid (MBox _ _ _ _ _ _) := M.out.bes bs_ (ne_some K_sM.out)
            replace Ux : Hid (URow _ _ _ _ _) := Ux.out.puts A_sUx.out (.bool r1x2_n) (.slice r1x2_a r1x2_m r1x2_c) (.int .i64 r1x2_p) (.slice none 0 0)
            replace Uy : Hid (URow _ _ _ _ _) := Uy.out.puts A_sUy.out (.bool r1x2_n) (.slice r1x2_a r1x2_m r1x2_c) (.int .i64 r1x2_p) (.slice none 0 0)
            replace ZB0 : Hid (_ ≤ _) := Nat.le_trans ZB0.out (Bes.size bs_)
            replace b_m : Hid (BoxF _ _ _ _ _ _) := b_m.out.puts (Ne.symm N_ms.out) (.bool r1x2_n) (.slice r1x2_a r1x2_m r1x2_c) (.int .i64 r1x2_p) (.slice none 0 0)
            replace BV1 : Hid (Below _ _ _) := Bes.old BV1.out bs_ LBV1_s.out
            replace ZB1 : Hid (_ ≤ _) := Nat.le_trans ZB1.out (Bes.size bs_)
            replace b_s : Hid (BoxF _ _ _ _ _ _) := mB_
            replace t_s : Hid (Tell _ B1 (.agg #[.bool r1x2_n, .slice r1x2_a r1x2_m r1x2_c, .int .i64 r1x2_p, .slice none 0 0]) 17 ((17 + (i : Int)) + 1) (((fabs XY i : Nat) : Int) + ((xv v).natAbs : Int))) := tB_
            clear mB_ tB_ bs_ HBa
            generalize ((((Wq2_.setCell ⟨k_s, 0, none⟩ (.bool r1x2_n)).setCell ⟨k_s, 1, none⟩ (.slice r1x2_a r1x2_m r1x2_c)).setCell ⟨k_s, 2, none⟩ (.int .i64 r1x2_p)).setCell ⟨k_s, 3, none⟩ (.slice none 0 0)) = w14_ at BW UM M Ux Uy ZB0 b_m BV1 ZB1 b_s t_s ⊢
            clear t_r1x0 t_r1x1 t_r1x2
            have TS2 : Hid (Tell _ B1 _ 17 (17 + ((i + 1 : Nat) : Int)) ((fabs XY (i + 1) : Nat) : Int)) := (t_s.out.wide _ (by omega)).eq (by
              show _ = ((fabs XY i + (XY i).natAbs : Nat) : Int)
              rw [HV1.out]
              omega)
            clear t_s l2_ q2
            go_wp2
            go_roundw
            case rel => exact ⟨i + 1, _, _, _, _, _, by go_num, by omega, BW, UM, M, Ux, Uy, ZB0, b_m, BV1, ZB1, OK2, b_s, TS2⟩
            case measure => simp [intOf]; omega
        · obtain rfl : N = i := by omega
          obtain ⟨hYF, hNEAR⟩ := HP.out.near HF22.out OK.out
          have HYF : Hid (∀ i, i < N → mag (zY i) < 9218868437227405312) := hYF
          obtain ⟨SS, hSS⟩ : ∃ s, s = fabs (fun k => sv (zY k)) N := ⟨_, rfl⟩
          have HSS : Hid (fabs XY N = SS * 16384) := by
            rw [hSS]
            have key : ∀ n, n ≤ N → fabs XY n = fabs (fun k => sv (zY k)) n * 16384 := by
              intro n
              induction n with
              | zero => intro _; rfl
              | succ n ih =>
                intro h
                show fabs XY n + (XY n).natAbs = (fabs (fun k => sv (zY k)) n + (sv (zY n)).natAbs) * 16384
                rw [ih (by omega), HXY.out, Nat.add_mul]
                have := xv_absI (zY n) (hYF n (by omega))
                omega
            exact key N (Nat.le_refl _)
          rw [← hSS] at hNEAR
          obtain ⟨QQ, hQQ⟩ : ∃ q, q = 1000 * MX + 4 * (if tl = true then V (mag a2) else 0) * 9007199254740992 := ⟨_, rfl⟩
          rw [← hQQ] at hNEAR
          have HQQ : Hid (_ = _) := hQQ
          have HNEAR : Hid (∀ i, i < N → (fsum (fun k => sv (zM (i * N + k)) * sv (zY k)) N - sv (zX i) * ((2 ^ uu : Nat) : Int)).natAbs * 9007199254740992 ≤ QQ * SS) := hNEAR
          clear hYF hNEAR hSS hQQ
          have FS : Hid (Tell w13_ 0 (.agg #[.bool s_n, .slice s_a s_m s_c, .int .i64 s_p, .slice none 0 0]) 17 (17 + (N : Int)) ((SS : Int) * 16384)) := (t_s.out.base (Nat.zero_le _)).eq (by rw [HSS.out]; rfl)
          have BV2 : Hid (Below w13_.heap.size w13_ w13_) := Below.refl _ _
          have t_m : Hid (Tell w13_ 0 (.agg #[.bool m_n, .slice m_a m_m m_c, .int .i64 m_p, .slice none 0 0]) 17 17 ((MX : Int) * 16384)) := FM.out.below BV1.out
          clear t_s HSS
          obtain ⟨B2, hB2⟩ : ∃ B, B = w13_.heap.size := ⟨_, rfl⟩
          have ZB2 : Hid (B2 ≤ w13_.heap.size) := by show _ ≤ _; omega
          clear hB2
          have HAP : Hid (∀ k, w13_.heap.size ≤ k → Apt (some k) (some ⟨gM, 0, none⟩) DD ∧ Apt (some k) (some ⟨gx, 0, none⟩) N ∧ Apt (some k) (some ⟨gy, 0, none⟩) N ∧ k ≠ k_M ∧ w.heap.size ≤ k) := fun k hk => ⟨UM.out.apt (fun j e => by injection e with e; omega), Ux.out.apt (fun j e => by injection e with e; omega), Uy.out.apt (fun j e => by injection e with e; omega), by have := M.out.2.2.2.2; omega, Nat.le_trans (Below.size BW.out) hk⟩
          obtain ⟨⟨b_m_0, b_m_1, b_m_2, b_m_3⟩, ⟨b_m_5, b_m_6, b_m_7, b_m_8⟩, b_m_4⟩ := b_m.out
          go_wp2_with fail
          clear b_m_0 b_m_1 b_m_2 b_m_3 b_m_4 b_m_5 b_m_6 b_m_7 b_m_8
          go_cut [19] (fun t wx => ∃ (k_d : Nat) (d_n : Bool) (d_a : Option Addr) (d_m d_c : Nat) (d_p : Int), t = .pointer (some ⟨k_d, 0, none⟩) ∧ Hid (w13_.heap.size ≤ k_d) ∧ Hid (k_m ≠ k_d) ∧ Hid (k_s ≠ k_d) ∧ Hid (BoxF wx k_d (.bool d_n) (.slice d_a d_m d_c) (.int .i64 d_p) (.slice none 0 0)) ∧ Hid (Tell wx B2 (.agg #[.bool d_n, .slice d_a d_m d_c, .int .i64 d_p, .slice none 0 0]) 18 20 ((MX : Int) * 16384 * 1000 * 2048)) ∧ Hid (Below w.heap.size w wx) ∧ Hid (URow wx (some ⟨gM, 0, none⟩) DD DD zM) ∧ Hid (MBox wx k_M (N : Int) (N : Int) (N : Int) (.slice (some ⟨gM, 0, none⟩) DD DD)) ∧ Hid (URow wx (some ⟨gx, 0, none⟩) N cx0 zX) ∧ Hid (URow wx (some ⟨gy, 0, none⟩) N N zY) ∧ Hid (B0 ≤ wx.heap.size) ∧ Hid (BoxF wx k_m (.bool m_n) (.slice m_a m_m m_c) (.int .i64 m_p) (.slice none 0 0)) ∧ Hid (Below w11_.heap.size w11_ wx) ∧ Hid (B1 ≤ wx.heap.size) ∧ Hid (BoxF wx k_s (.bool s_n) (.slice s_a s_m s_c) (.int .i64 s_p) (.slice none 0 0)) ∧ Hid (Below w13_.heap.size w13_ wx) ∧ Hid (Tell wx 0 (.agg #[.bool m_n, .slice m_a m_m m_c, .int .i64 m_p, .slice none 0 0]) 17 17 ((MX : Int) * 16384)) ∧ Hid (B2 ≤ wx.heap.size))
          case first =>
            have HBa : Hid (Below w13_.heap.size w13_ w13_) := Below.refl _ _
            have dh : ∀ w : World, w.drew.heap = w.heap := fun _ => rfl
            have ct : Cnt 1 := Cnt.mk _
            go_region_held3 (fun w' => (w'.cell? ⟨k_m, 0, none⟩ = some (.bool m_n) ∧ w'.cell? ⟨k_m, 1, none⟩ = some (.slice m_a m_m m_c) ∧ w'.cell? ⟨k_m, 2, none⟩ = some (.int .i64 m_p) ∧ w'.cell? ⟨k_m, 3, none⟩ = some (.slice none 0 0))) (exact (b_m.out.below (by with_reducible repeat (first | (refine Below.drew ?_) | (refine bmore ?_ _) | (refine Below.setCell ?_ (by first | omega | (simp [dh] <;> omega)) _) | exact HBa.out | exact Below.refl _ _))).cells) (first | (have ck : Cnt 1 := ct; go_at_call 19; refine (dInt 1000 _ (by decide) (by decide)).mono ?_; rintro e Wq0_ ⟨r1x0_v, rfl, ht_, hb_⟩; obtain ⟨r1x0_n, r1x0_a, r1x0_m, r1x0_c, r1x0_p, rfl, ht2_⟩ := ht_.numform; clear ht_; obtain ⟨pc0, pf0⟩ := bcell hb_; have hr0 : ∀ b, b < _ → b < Wq0_.heap.size := (fun b h => Nat.lt_of_lt_of_le h hb_.size); have hq0 := hb_.size; (try simp [dh] at hq0); have hbt_ : Below w13_.heap.size w13_ Wq0_ := bstep (by with_reducible repeat (first | (refine Below.drew ?_) | (refine bmore ?_ _) | (refine Below.setCell ?_ (by first | omega | (simp [dh] <;> omega)) _) | exact (Below.refl _ _) | exact Below.refl _ _)) hb_; have t_r1x0 : Hid (Tell Wq0_ B2 (.agg #[.bool r1x0_n, .slice r1x0_a r1x0_m r1x0_c, .int .i64 r1x0_p, .slice none 0 0]) 0 2 (1000)) := ht2_.base (Nat.le_trans ZB2.out (Below.size (B := w13_.heap.size) (by with_reducible repeat (first | (refine Below.drew ?_) | (refine bmore ?_ _) | (refine Below.setCell ?_ (by first | omega | (simp [dh] <;> omega)) _) | exact HBa.out | exact Below.refl _ _)))); clear ht2_; replace HBa : Hid (Below w13_.heap.size w13_ Wq0_) := bstep HBa.out hbt_; have hsz0 := HBa.out.size; (try (have hT00 : w13_.heap.size < Wq0_.heap.size := by omega)); replace ct : Cnt 2 := Cnt.mk _; clear hb_ hbt_ ck) | (have ck : Cnt 2 := ct; go_at_call 12; refine (dMul _ _ _ 0 17 0 17 2 _ _ (t_m.out.below (by with_reducible repeat (first | (refine Below.drew ?_) | (refine bmore ?_ _) | (refine Below.setCell ?_ (by first | omega | (simp [dh] <;> omega)) _) | exact HBa.out | exact Below.refl _ _))) ((t_r1x0.out.below (by with_reducible repeat (first | (refine Below.drew ?_) | (refine bmore ?_ _) | (refine Below.setCell ?_ (by first | omega | (simp [dh] <;> omega)) _) | exact (Below.refl _ _) | exact Below.refl _ _))).base (Nat.zero_le _)) (by omega) (by omega) (by omega) (by omega) (by omega) (by omega)).mono ?_; rintro e Wq1_ ⟨r1x1_v, rfl, ht_, hb_⟩; obtain ⟨r1x1_n, r1x1_a, r1x1_m, r1x1_c, r1x1_p, rfl, ht2_⟩ := ht_.numform; clear ht_; obtain ⟨pc1, pf1⟩ := bcell hb_; have hr1 : ∀ b, b < _ → b < Wq1_.heap.size := (fun b h => Nat.lt_of_lt_of_le h hb_.size); have hq1 := hb_.size; (try simp [dh] at hq1); have hbt_ : Below Wq0_.heap.size Wq0_ Wq1_ := bstep (by with_reducible repeat (first | (refine Below.drew ?_) | (refine bmore ?_ _) | (refine Below.setCell ?_ (by first | omega | (simp [dh] <;> omega)) _) | exact (Below.refl _ _) | exact Below.refl _ _)) hb_; have t_r1x1 : Hid (Tell Wq1_ B2 (.agg #[.bool r1x1_n, .slice r1x1_a r1x1_m r1x1_c, .int .i64 r1x1_p, .slice none 0 0]) 17 19 ((MX : Int) * 16384 * 1000)) := ht2_.base (Nat.le_trans ZB2.out (Below.size (B := w13_.heap.size) (by with_reducible repeat (first | (refine Below.drew ?_) | (refine bmore ?_ _) | (refine Below.setCell ?_ (by first | omega | (simp [dh] <;> omega)) _) | exact HBa.out | exact Below.refl _ _)))); clear ht2_; replace t_r1x0 : Hid (Tell _ _ _ _ _ _) := t_r1x0.out.below hbt_; replace HBa : Hid (Below w13_.heap.size w13_ Wq1_) := bstep HBa.out hbt_; have hsz1 := HBa.out.size; (try (have hT10 : w13_.heap.size < Wq1_.heap.size := by omega)); (try (have hT11 : Wq0_.heap.size < Wq1_.heap.size := by omega)); replace ct : Cnt 3 := Cnt.mk _; clear hb_ hbt_ ck) | (have ck : Cnt 3 := ct; go_at_call 20; refine (dTwoAt (-53) 1 1 2048 _ (by decide) (by decide) (by decide) (by decide)).mono ?_; rintro e Wq2_ ⟨r1x2_v, rfl, ht_, hb_⟩; obtain ⟨r1x2_n, r1x2_a, r1x2_m, r1x2_c, r1x2_p, rfl, ht2_⟩ := ht_.numform; clear ht_; obtain ⟨pc2, pf2⟩ := bcell hb_; have hr2 : ∀ b, b < _ → b < Wq2_.heap.size := (fun b h => Nat.lt_of_lt_of_le h hb_.size); have hq2 := hb_.size; (try simp [dh] at hq2); have hbt_ : Below Wq1_.heap.size Wq1_ Wq2_ := bstep (by with_reducible repeat (first | (refine Below.drew ?_) | (refine bmore ?_ _) | (refine Below.setCell ?_ (by first | omega | (simp [dh] <;> omega)) _) | exact (Below.refl _ _) | exact Below.refl _ _)) hb_; have t_r1x2 : Hid (Tell Wq2_ B2 (.agg #[.bool r1x2_n, .slice r1x2_a r1x2_m r1x2_c, .int .i64 r1x2_p, .slice none 0 0]) 1 1 (2048)) := ht2_.base (Nat.le_trans ZB2.out (Below.size (B := w13_.heap.size) (by with_reducible repeat (first | (refine Below.drew ?_) | (refine bmore ?_ _) | (refine Below.setCell ?_ (by first | omega | (simp [dh] <;> omega)) _) | exact HBa.out | exact Below.refl _ _)))); clear ht2_; replace t_r1x0 : Hid (Tell _ _ _ _ _ _) := t_r1x0.out.below hbt_; replace t_r1x1 : Hid (Tell _ _ _ _ _ _) := t_r1x1.out.below hbt_; replace HBa : Hid (Below w13_.heap.size w13_ Wq2_) := bstep HBa.out hbt_; have hsz2 := HBa.out.size; (try (have hT20 : w13_.heap.size < Wq2_.heap.size := by omega)); (try (have hT21 : Wq0_.heap.size < Wq2_.heap.size := by omega)); (try (have hT22 : Wq1_.heap.size < Wq2_.heap.size := by omega)); replace ct : Cnt 4 := Cnt.mk _; clear hb_ hbt_ ck) | (have ck : Cnt 4 := ct; go_at_call 12; refine (dMul _ _ _ B2 17 1 19 1 _ _ (t_r1x1.out.below (by with_reducible repeat (first | (refine Below.drew ?_) | (refine bmore ?_ _) | (refine Below.setCell ?_ (by first | omega | (simp [dh] <;> omega)) _) | exact (Below.refl _ _) | exact Below.refl _ _))) (t_r1x2.out.below (by with_reducible repeat (first | (refine Below.drew ?_) | (refine bmore ?_ _) | (refine Below.setCell ?_ (by first | omega | (simp [dh] <;> omega)) _) | exact (Below.refl _ _) | exact Below.refl _ _))) (by omega) (by omega) (by omega) (by omega) (by omega) (by omega)).mono ?_; rintro e Wq3_ ⟨r1x3_v, rfl, ht_, hb_⟩; obtain ⟨r1x3_n, r1x3_a, r1x3_m, r1x3_c, r1x3_p, rfl, ht2_⟩ := ht_.numform; clear ht_; obtain ⟨pc3, pf3⟩ := bcell hb_; have hr3 : ∀ b, b < _ → b < Wq3_.heap.size := (fun b h => Nat.lt_of_lt_of_le h hb_.size); have hq3 := hb_.size; (try simp [dh] at hq3); have hbt_ : Below Wq2_.heap.size Wq2_ Wq3_ := bstep (by with_reducible repeat (first | (refine Below.drew ?_) | (refine bmore ?_ _) | (refine Below.setCell ?_ (by first | omega | (simp [dh] <;> omega)) _) | exact (Below.refl _ _) | exact Below.refl _ _)) hb_; obtain ⟨Br_, hBr_, t_r1x3⟩ := tell_base ht2_; have hBq_ : w13_.heap.size ≤ Br_ := (by rw [hBr_]; exact Below.size (B := w13_.heap.size) (by with_reducible repeat (first | (refine Below.drew ?_) | (refine bmore ?_ _) | (refine Below.setCell ?_ (by first | omega | (simp [dh] <;> omega)) _) | exact HBa.out | exact Below.refl _ _))); (try simp [dh] at hBr_); clear ht2_; replace t_r1x3 : Tell Wq3_ Br_ (.agg #[.bool r1x3_n, .slice r1x3_a r1x3_m r1x3_c, .int .i64 r1x3_p, .slice none 0 0]) 18 20 ((MX : Int) * 16384 * 1000 * 2048) := t_r1x3; replace t_r1x0 : Hid (Tell _ _ _ _ _ _) := t_r1x0.out.below hbt_; replace t_r1x1 : Hid (Tell _ _ _ _ _ _) := t_r1x1.out.below hbt_; replace t_r1x2 : Hid (Tell _ _ _ _ _ _) := t_r1x2.out.below hbt_; replace HBa : Hid (Below w13_.heap.size w13_ Wq3_) := bstep HBa.out hbt_; have hsz3 := HBa.out.size; (try (have hT30 : w13_.heap.size < Wq3_.heap.size := by omega)); (try (have hT31 : Wq0_.heap.size < Wq3_.heap.size := by omega)); (try (have hT32 : Wq1_.heap.size < Wq3_.heap.size := by omega)); (try (have hT33 : Wq2_.heap.size < Wq3_.heap.size := by omega)); replace ct : Cnt 5 := Cnt.mk _; clear hb_ hbt_ ck))
            all_goals
              go_wp2
              go_meet
              refine ⟨_, r1x3_n, r1x3_a, r1x3_m, r1x3_c, r1x3_p, rfl, (by show _ ≤ _; first | exact Nat.le_refl _ | omega | (simp [dh]; done) | (simp [dh] <;> omega)), (by have := b_m.out.2.2; show _ ≠ _; first | omega | (simp [dh] <;> omega)), (by have := b_s.out.2.2; show _ ≠ _; first | omega | (simp [dh] <;> omega)), (by show BoxF _ _ _ _ _ _; first | (with_reducible exact BoxF.made _ _ _ _ _ _) | (with_reducible refine BoxF.four ?_ ?_ ?_ ?_ ?_ ?_ ?_ ?_ ?_) <;> (first | (simp [go_sem, pc0, pf0, hr0, pc1, pf1, hr1, pc2, pf2, hr2, pc3, pf3, hr3]; done) | (simp [go_sem, pc0, pf0, hr0, pc1, pf1, hr1, pc2, pf2, hr2, pc3, pf3, hr3, hT00, hT10, hT20, hT30]; done) | (simp [go_sem, pc0, pf0, hr0, pc1, pf1, hr1, pc2, pf2, hr2, pc3, pf3, hr3, hT11, hT21, hT31]; done) | (simp [go_sem, pc0, pf0, hr0, pc1, pf1, hr1, pc2, pf2, hr2, pc3, pf3, hr3, hT22, hT32]; done) | (simp [go_sem, pc0, pf0, hr0, pc1, pf1, hr1, pc2, pf2, hr2, pc3, pf3, hr3, hT33]; done) | (simp [dh]; omega) | omega)), (by show Tell _ _ _ _ _ _; refine Tell.base (b := Br_) ?_ (Nat.le_trans ZB2.out hBq_); with_reducible repeat (first | exact t_r1x3 | (refine Tell.drew ?_) | (refine Tell.alloc ?_ _) | (refine Tell.set ?_ (by first | omega | (simp [dh] <;> omega)) _))), bstep BW.out (by with_reducible repeat (first | (refine Below.drew ?_) | (refine bmore ?_ _) | (refine Below.setCell ?_ (by first | omega | (simp [dh] <;> omega)) _) | exact HBa.out | exact Below.refl _ _)), UM.out.below (by with_reducible repeat (first | (refine Below.drew ?_) | (refine bmore ?_ _) | (refine Below.setCell ?_ (by first | omega | (simp [dh] <;> omega)) _) | exact HBa.out | exact Below.refl _ _)), M.out.below (by with_reducible repeat (first | (refine Below.drew ?_) | (refine bmore ?_ _) | (refine Below.setCell ?_ (by first | omega | (simp [dh] <;> omega)) _) | exact HBa.out | exact Below.refl _ _)), Ux.out.below (by with_reducible repeat (first | (refine Below.drew ?_) | (refine bmore ?_ _) | (refine Below.setCell ?_ (by first | omega | (simp [dh] <;> omega)) _) | exact HBa.out | exact Below.refl _ _)), Uy.out.below (by with_reducible repeat (first | (refine Below.drew ?_) | (refine bmore ?_ _) | (refine Below.setCell ?_ (by first | omega | (simp [dh] <;> omega)) _) | exact HBa.out | exact Below.refl _ _)), Nat.le_trans ZB0.out (Below.size (B := w13_.heap.size) (by with_reducible repeat (first | (refine Below.drew ?_) | (refine bmore ?_ _) | (refine Below.setCell ?_ (by first | omega | (simp [dh] <;> omega)) _) | exact HBa.out | exact Below.refl _ _))), b_m.out.below (by with_reducible repeat (first | (refine Below.drew ?_) | (refine bmore ?_ _) | (refine Below.setCell ?_ (by first | omega | (simp [dh] <;> omega)) _) | exact HBa.out | exact Below.refl _ _)), bstep BV1.out (by with_reducible repeat (first | (refine Below.drew ?_) | (refine bmore ?_ _) | (refine Below.setCell ?_ (by first | omega | (simp [dh] <;> omega)) _) | exact HBa.out | exact Below.refl _ _)), Nat.le_trans ZB1.out (Below.size (B := w13_.heap.size) (by with_reducible repeat (first | (refine Below.drew ?_) | (refine bmore ?_ _) | (refine Below.setCell ?_ (by first | omega | (simp [dh] <;> omega)) _) | exact HBa.out | exact Below.refl _ _))), b_s.out.below (by with_reducible repeat (first | (refine Below.drew ?_) | (refine bmore ?_ _) | (refine Below.setCell ?_ (by first | omega | (simp [dh] <;> omega)) _) | exact HBa.out | exact Below.refl _ _)), bstep BV2.out (by with_reducible repeat (first | (refine Below.drew ?_) | (refine bmore ?_ _) | (refine Below.setCell ?_ (by first | omega | (simp [dh] <;> omega)) _) | exact HBa.out | exact Below.refl _ _)), t_m.out.below (by with_reducible repeat (first | (refine Below.drew ?_) | (refine bmore ?_ _) | (refine Below.setCell ?_ (by first | omega | (simp [dh] <;> omega)) _) | exact HBa.out | exact Below.refl _ _)), Nat.le_trans ZB2.out (Below.size (B := w13_.heap.size) (by with_reducible repeat (first | (refine Below.drew ?_) | (refine bmore ?_ _) | (refine Below.setCell ?_ (by first | omega | (simp [dh] <;> omega)) _) | exact HBa.out | exact Below.refl _ _)))⟩
          case rest =>
            clear BW UM M Ux Uy ZB0 b_m BV1 ZB1 b_s BV2 t_m ZB2
            obtain ⟨k_d, d_n, d_a, d_m, d_c, d_p, rfl, LW_d, N_md, N_sd, b_d, t_d, BW, UM, M, Ux, Uy, ZB0, b_m, BV1, ZB1, b_s, BV2, t_m, ZB2⟩ := hcut
            obtain ⟨w14_, rfl⟩ : ∃ x, x = wc := ⟨wc, rfl⟩
            obtain ⟨ap1_, ap2_, ap3_, ap4_, ap5_⟩ := HAP.out k_d LW_d.out
            have A_dUM : Hid (Apt (some k_d) (some ⟨gM, 0, none⟩) DD) := ap1_
            have A_dUx : Hid (Apt (some k_d) (some ⟨gx, 0, none⟩) N) := ap2_
            have A_dUy : Hid (Apt (some k_d) (some ⟨gy, 0, none⟩) N) := ap3_
            have K_dM : Hid (k_d ≠ k_M) := ap4_
            have L_d : Hid (w.heap.size ≤ k_d) := ap5_
            clear ap1_ ap2_ ap3_ ap4_ ap5_ HAP
            clear b_m t_m BV1
            clear FM
            obtain ⟨B3, hB3⟩ : ∃ B, B = w14_.heap.size := ⟨_, rfl⟩
            have ZB3 : Hid (B3 ≤ w14_.heap.size) := by show _ ≤ _; omega
            have KB_d : Hid (k_d < B3) := by rw [hB3]; exact b_d.out.2.2
            clear hB3
            cases tl
            case false =>
              have TD : Hid (Tell w14_ 0 (.agg #[.bool d_n, .slice d_a d_m d_c, .int .i64 d_p, .slice none 0 0]) 18 21 ((QQ : Int) * 33554432)) := ((t_d.out.base (Nat.zero_le _)).wide 21 (by omega)).eq ((piv_bound0 MX).trans (by rw [HQQ.out, if_neg (by simp)]))
              clear t_d
              have FD3 : Hid (Tell w14_ 0 (.agg #[.bool d_n, .slice d_a d_m d_c, .int .i64 d_p, .slice none 0 0]) 18 21 ((QQ : Int) * 33554432)) := TD.out
              have BV3 : Hid (Below w14_.heap.size w14_ w14_) := Below.refl _ _
              clear TD
              go_wp2_with fail
              go_loopw [20] (fun s20_ wr => ∃ (i : Nat) , s20_ = .int .i64 (i : Int) ∧ i ≤ N ∧ Hid (Below w.heap.size w wr) ∧ Hid (URow wr (some ⟨gM, 0, none⟩) DD DD zM) ∧ Hid (MBox wr k_M (N : Int) (N : Int) (N : Int) (.slice (some ⟨gM, 0, none⟩) DD DD)) ∧ Hid (URow wr (some ⟨gx, 0, none⟩) N cx0 zX) ∧ Hid (URow wr (some ⟨gy, 0, none⟩) N N zY) ∧ Hid (B0 ≤ wr.heap.size) ∧ Hid (B1 ≤ wr.heap.size) ∧ Hid (BoxF wr k_s (.bool s_n) (.slice s_a s_m s_c) (.int .i64 s_p) (.slice none 0 0)) ∧ Hid (Below w13_.heap.size w13_ wr) ∧ Hid (B2 ≤ wr.heap.size) ∧ Hid (BoxF wr k_d (.bool d_n) (.slice d_a d_m d_c) (.int .i64 d_p) (.slice none 0 0)) ∧ Hid (B3 ≤ wr.heap.size) ∧ Hid (Below w14_.heap.size w14_ wr)) (fun s20_ _ => N - (intOf s20_).toNat)
              case atStart => exact ⟨0, rfl, Nat.zero_le _, BW, UM, M, Ux, Uy, ZB0, ZB1, b_s, BV2, ZB2, b_d, ZB3, BV3⟩
              case round =>
                clear BW UM M Ux Uy ZB0 ZB1 b_s BV2 ZB2 b_d ZB3 BV3
                obtain ⟨i, rfl, hi_, BW, UM, M, Ux, Uy, ZB0, ZB1, b_s, BV2, ZB2, b_d, ZB3, BV3⟩ := hrel
                obtain ⟨w15_, rfl⟩ : ∃ x, x = wr := ⟨wr, rfl⟩
                by_cases hlt : (i : Int) < (N : Int)
                · as_aux_lemma =>
                    obtain ⟨PP, hPP⟩ : ∃ f : Nat → Int, f = fun k => sv (zM (i * N + k)) * sv (zY k) := ⟨_, rfl⟩
                    have HPP : Hid (∀ k, PP k = sv (zM (i * N + k)) * sv (zY k)) := by rw [hPP]; exact fun _ => rfl
                    have hn_ := HNEAR.out i (by omega)
                    rw [← hPP] at hn_
                    have HNI : Hid (_ ≤ _) := hn_
                    clear hPP hn_
                    go_wp2_with fail
                    have m0_ := BoxF.made w15_ (.bool false) (.slice none 0 0) (.int .i64 0) (.slice none 0 0) 41
                    have b_ : Below w15_.heap.size w15_ (w15_.alloc (.cells #[.bool false, .slice none 0 0, .int .i64 0, .slice none 0 0] 41)) := bmore (Below.refl _ _) _
                    obtain ⟨k_r, hk_r⟩ : ∃ k, k = w15_.heap.size := ⟨_, rfl⟩
                    have L_r : Hid (w.heap.size ≤ k_r) := by rw [hk_r]; exact Nat.le_trans BW.out.size (by omega)
                    have K_rM : Hid (k_r ≠ k_M) := by have := M.out.2.2.2.2; show _ ≠ _; omega
                    have A_rUM : Hid (Apt (some k_r) (some ⟨gM, 0, none⟩) DD) := UM.out.apt (fun k e => by injection e with e; omega)
                    have A_rUx : Hid (Apt (some k_r) (some ⟨gx, 0, none⟩) N) := Ux.out.apt (fun k e => by injection e with e; omega)
                    have A_rUy : Hid (Apt (some k_r) (some ⟨gy, 0, none⟩) N) := Uy.out.apt (fun k e => by injection e with e; omega)
                    have LBV2_r : Hid (w13_.heap.size ≤ k_r) := by have := Below.size BV2.out; show _ ≤ _; omega
                    have LBV3_r : Hid (w14_.heap.size ≤ k_r) := by have := Below.size BV3.out; show _ ≤ _; omega
                    have N_sr : Hid (k_s ≠ k_r) := by have := b_s.out.2.2; show _ ≠ _; omega
                    have N_dr : Hid (k_d ≠ k_r) := by have := b_d.out.2.2; show _ ≠ _; omega
                    rw [← hk_r] at m0_ ⊢
                    generalize (w15_.alloc (.cells #[.bool false, .slice none 0 0, .int .i64 0, .slice none 0 0] 41)) = w16_ at m0_ b_ ⊢
                    replace BW : Hid (Below _ _ _) := bstep BW.out b_
                    replace UM : Hid (URow _ _ _ _ _) := UM.out.below b_
                    replace M : Hid (MBox _ _ _ _ _ _) := M.out.below b_
                    replace Ux : Hid (URow _ _ _ _ _) := Ux.out.below b_
                    replace Uy : Hid (URow _ _ _ _ _) := Uy.out.below b_
                    replace ZB0 : Hid (_ ≤ _) := Nat.le_trans ZB0.out (Below.size b_)
                    replace ZB1 : Hid (_ ≤ _) := Nat.le_trans ZB1.out (Below.size b_)
                    replace b_s : Hid (BoxF _ _ _ _ _ _) := b_s.out.below b_
                    replace BV2 : Hid (Below _ _ _) := bstep BV2.out b_
                    replace ZB2 : Hid (_ ≤ _) := Nat.le_trans ZB2.out (Below.size b_)
                    replace b_d : Hid (BoxF _ _ _ _ _ _) := b_d.out.below b_
                    replace ZB3 : Hid (_ ≤ _) := Nat.le_trans ZB3.out (Below.size b_)
                    replace BV3 : Hid (Below _ _ _) := bstep BV3.out b_
                    have b_r : Hid (BoxF w16_ k_r (.bool false) (.slice none 0 0) (.int .i64 0) (.slice none 0 0)) := m0_
                    clear b_ m0_ hk_r
                    obtain ⟨B5, hB5⟩ : ∃ B, B = w16_.heap.size := ⟨_, rfl⟩
                    have ZB5 : Hid (B5 ≤ w16_.heap.size) := by show _ ≤ _; omega
                    have KB_r : Hid (k_r < B5) := by rw [hB5]; exact b_r.out.2.2
                    clear hB5
                    go_wp2_with fail
                    go_loopw [22] (fun s22_ wr => ∃ (j : Nat) (r_n : Bool) (r_a : Option Addr) (r_m r_c : Nat) (r_p : Int), s22_ = .int .i64 (j : Int) ∧ j ≤ N ∧ Hid (Below w.heap.size w wr) ∧ Hid (URow wr (some ⟨gM, 0, none⟩) DD DD zM) ∧ Hid (MBox wr k_M (N : Int) (N : Int) (N : Int) (.slice (some ⟨gM, 0, none⟩) DD DD)) ∧ Hid (URow wr (some ⟨gx, 0, none⟩) N cx0 zX) ∧ Hid (URow wr (some ⟨gy, 0, none⟩) N N zY) ∧ Hid (B0 ≤ wr.heap.size) ∧ Hid (B1 ≤ wr.heap.size) ∧ Hid (BoxF wr k_s (.bool s_n) (.slice s_a s_m s_c) (.int .i64 s_p) (.slice none 0 0)) ∧ Hid (Below w13_.heap.size w13_ wr) ∧ Hid (B2 ≤ wr.heap.size) ∧ Hid (BoxF wr k_d (.bool d_n) (.slice d_a d_m d_c) (.int .i64 d_p) (.slice none 0 0)) ∧ Hid (B3 ≤ wr.heap.size) ∧ Hid (Below w14_.heap.size w14_ wr) ∧ Hid (B5 ≤ wr.heap.size) ∧ Hid (BoxF wr k_r (.bool r_n) (.slice r_a r_m r_c) (.int .i64 r_p) (.slice none 0 0)) ∧ Hid (Tell wr B5 (.agg #[.bool r_n, .slice r_a r_m r_c, .int .i64 r_p, .slice none 0 0]) 34 (34 + (j : Int)) (fsum PP j * 268435456))) (fun s22_ _ => N - (intOf s22_).toNat)
                    case atStart => exact ⟨0, false, none, 0, 0, 0, rfl, Nat.zero_le _, BW, UM, M, Ux, Uy, ZB0, ZB1, b_s, BV2, ZB2, b_d, ZB3, BV3, ZB5, b_r, (Tell.zero _ _ _ _ _ (by simp)).eq rfl⟩
                    case round =>
                      clear BW UM M Ux Uy ZB0 ZB1 b_s BV2 ZB2 b_d ZB3 BV3 ZB5 b_r
                      obtain ⟨j, r_n, r_a, r_m, r_c, r_p, rfl, hj_, BW, UM, M, Ux, Uy, ZB0, ZB1, b_s, BV2, ZB2, b_d, ZB3, BV3, ZB5, b_r, t_r⟩ := hrel
                      obtain ⟨w17_, rfl⟩ : ∃ x, x = wr := ⟨wr, rfl⟩
                      by_cases hlt2 : (j : Int) < (N : Int)
                      · as_aux_lemma =>
                          obtain ⟨l2_, q2⟩ := Uy.out.cellg j (by omega)
                          obtain ⟨v0, v1⟩ := Uy.out.2.2.1 j
                          obtain ⟨y0, y1⟩ := UM.out.2.2.1 (i * N + j)
                          have vf := HYF.out j (by omega)
                          have yf := HFM.out i j (by omega) (by omega)
                          have hpp := HPP.out j
                          obtain ⟨v, hv⟩ : ∃ v, zY j = v := ⟨_, rfl⟩
                          obtain ⟨y, hy⟩ : ∃ v, zM (i * N + j) = v := ⟨_, rfl⟩
                          rw [hv] at q2 v0 v1 vf hpp
                          rw [hy] at y0 y1 yf hpp
                          have HY1 : Hid (_ = _) := hy
                          have HPJ : Hid (xv y * xv v = PP j * 268435456) := (xv_mul y v yf vf).trans (by rw [hpp])
                          clear hv hy vf yf hpp
                          obtain ⟨⟨b_r_0, b_r_1, b_r_2, b_r_3⟩, ⟨b_r_5, b_r_6, b_r_7, b_r_8⟩, b_r_4⟩ := b_r.out
                          obtain ⟨M_0, M_1, M_2, M_3, M_4⟩ := M.out
                          go_wp2_with fail
                          clear b_r_0 b_r_1 b_r_2 b_r_3 b_r_4 b_r_5 b_r_6 b_r_7 b_r_8 M_0 M_1 M_2 M_3 M_4
                          have HBa : Hid (Below w17_.heap.size w17_ w17_.drew) := (Below.refl _ _).drew
                          have hfz_ := fun (w' : World) (h : Below w17_.heap.size w17_ w') => b_r.out.below h
                          refine wp_region_noPanic ?_
                          refine AnyT.start (T := (fun w' => (w'.cell? ⟨k_M, 0, none⟩ = some (.int .i64 (N : Int)) ∧ w'.cell? ⟨k_M, 1, none⟩ = some (.int .i64 (N : Int)) ∧ w'.cell? ⟨k_M, 2, none⟩ = some (.int .i64 (N : Int)) ∧ w'.cell? ⟨k_M, 3, none⟩ = some (.slice (some ⟨gM, 0, none⟩) DD DD)) ∧ (w'.cell? ⟨gy, j, none⟩ = some (.int .u64 v)) ∧ (w'.cell? ⟨k_r, 0, none⟩ = some (.bool r_n) ∧ w'.cell? ⟨k_r, 1, none⟩ = some (.slice r_a r_m r_c) ∧ w'.cell? ⟨k_r, 2, none⟩ = some (.int .i64 r_p) ∧ w'.cell? ⟨k_r, 3, none⟩ = some (.slice none 0 0)))) (z := 13) (by kernel_rfl) ?_
                          have hHeld0 := (⟨(M.out.below HBa.out).cells, ((Below.cell HBa.out l2_).trans q2), (b_r.out.below HBa.out).cells⟩ : (fun w' => (w'.cell? ⟨k_M, 0, none⟩ = some (.int .i64 (N : Int)) ∧ w'.cell? ⟨k_M, 1, none⟩ = some (.int .i64 (N : Int)) ∧ w'.cell? ⟨k_M, 2, none⟩ = some (.int .i64 (N : Int)) ∧ w'.cell? ⟨k_M, 3, none⟩ = some (.slice (some ⟨gM, 0, none⟩) DD DD)) ∧ (w'.cell? ⟨gy, j, none⟩ = some (.int .u64 v)) ∧ (w'.cell? ⟨k_r, 0, none⟩ = some (.bool r_n) ∧ w'.cell? ⟨k_r, 1, none⟩ = some (.slice r_a r_m r_c) ∧ w'.cell? ⟨k_r, 2, none⟩ = some (.int .i64 r_p) ∧ w'.cell? ⟨k_r, 3, none⟩ = some (.slice none 0 0))) w17_.drew)
                          refine AnyT.take (i := 0) (oi := ({ dst := some 161, op := Op.load _ (Operand.tmp 21), type := _, pos := _, after := _, guard := none } : Oper)) (v := ?_) rfl (by kernel_rfl) (by kernel_rfl) (by kernel_rfl) (by kernel_rfl) (fun _ _ _ h => h) (Or.inl ⟨by rfl, ?_⟩) hHeld0 ?_
                          rotate_left
                          · intro w' hSw; (try dsimp only at hSw); go_simp <;> (try with_reducible rfl)
                          (try simp only [Act.put, List.setIfInBounds_toArray, List.set_cons_zero, List.set_cons_succ])
                          refine AnyT.take (i := 1) (oi := ({ dst := some 162, op := Op.load _ (Operand.tmp 7), type := _, pos := _, after := _, guard := none } : Oper)) (v := ?_) rfl (by kernel_rfl) (by kernel_rfl) (by kernel_rfl) (by kernel_rfl) (fun _ _ _ h => h) (Or.inl ⟨by rfl, ?_⟩) hHeld0 ?_
                          rotate_left
                          · intro w' hSw; (try dsimp only at hSw); go_simp <;> (try with_reducible rfl)
                          (try simp only [Act.put, List.setIfInBounds_toArray, List.set_cons_zero, List.set_cons_succ])
                          refine AnyT.take (i := 2) (oi := ({ dst := some 163, op := Op.move (Operand.tmp 20), type := _, pos := _, after := _, guard := none } : Oper)) (v := ?_) rfl (by kernel_rfl) (by kernel_rfl) (by kernel_rfl) (by kernel_rfl) (fun _ _ _ h => h) (Or.inl ⟨by rfl, ?_⟩) hHeld0 ?_
                          rotate_left
                          · intro w' hSw; (try dsimp only at hSw); go_simp <;> (try with_reducible rfl)
                          (try simp only [Act.put, List.setIfInBounds_toArray, List.set_cons_zero, List.set_cons_succ])
                          refine AnyT.take (i := 3) (oi := ({ dst := some 164, op := Op.move (Operand.tmp 22), type := _, pos := _, after := _, guard := none } : Oper)) (v := ?_) rfl (by kernel_rfl) (by kernel_rfl) (by kernel_rfl) (by kernel_rfl) (fun _ _ _ h => h) (Or.inl ⟨by rfl, ?_⟩) hHeld0 ?_
                          rotate_left
                          · intro w' hSw; (try dsimp only at hSw); go_simp <;> (try with_reducible rfl)
                          (try simp only [Act.put, List.setIfInBounds_toArray, List.set_cons_zero, List.set_cons_succ])
                          refine AnyT.take (i := 6) (oi := ({ dst := some 167, op := Op.move (Operand.tmp 11), type := _, pos := _, after := _, guard := none } : Oper)) (v := ?_) rfl (by kernel_rfl) (by kernel_rfl) (by kernel_rfl) (by kernel_rfl) (fun _ _ _ h => h) (Or.inl ⟨by rfl, ?_⟩) hHeld0 ?_
                          rotate_left
                          · intro w' hSw; (try dsimp only at hSw); go_simp <;> (try with_reducible rfl)
                          (try simp only [Act.put, List.setIfInBounds_toArray, List.set_cons_zero, List.set_cons_succ])
                          refine AnyT.take (i := 7) (oi := ({ dst := some 168, op := Op.move (Operand.tmp 22), type := _, pos := _, after := _, guard := none } : Oper)) (v := ?_) rfl (by kernel_rfl) (by kernel_rfl) (by kernel_rfl) (by kernel_rfl) (fun _ _ _ h => h) (Or.inl ⟨by rfl, ?_⟩) hHeld0 ?_
                          rotate_left
                          · intro w' hSw; (try dsimp only at hSw); go_simp <;> (try with_reducible rfl)
                          (try simp only [Act.put, List.setIfInBounds_toArray, List.set_cons_zero, List.set_cons_succ])
                          refine AnyT.take (i := 8) (oi := ({ dst := some 169, op := Op.indexAddr _ (Operand.tmp 167) (Operand.tmp 168), type := _, pos := _, after := _, guard := none } : Oper)) (v := ?_) rfl (by kernel_rfl) (by kernel_rfl) (by kernel_rfl) (by kernel_rfl) (fun _ _ _ h => h) (Or.inl ⟨by rfl, ?_⟩) hHeld0 ?_
                          rotate_left
                          · intro w' hSw; (try dsimp only at hSw); go_simp <;> (try with_reducible rfl)
                          (try simp only [Act.put, List.setIfInBounds_toArray, List.set_cons_zero, List.set_cons_succ])
                          refine AnyT.take (i := 9) (oi := ({ dst := some 170, op := Op.load _ (Operand.tmp 169), type := _, pos := _, after := _, guard := none } : Oper)) (v := ?_) rfl (by kernel_rfl) (by kernel_rfl) (by kernel_rfl) (by kernel_rfl) (fun _ _ _ h => h) (Or.inl ⟨by rfl, ?_⟩) hHeld0 ?_
                          rotate_left
                          · intro w' hSw; (try dsimp only at hSw); go_simp <;> (try with_reducible rfl)
                          (try simp only [Act.put, List.setIfInBounds_toArray, List.set_cons_zero, List.set_cons_succ])
                          refine AnyT.one (i := 4) (o := ({ dst := some 165, op := Op.call { callee := Callee.value (Operand.func _), args := #[Operand.tmp 162, Operand.tmp 163, Operand.tmp 164], argTypes := _ }, type := _, pos := _, after := _, guard := none } : Oper)) (by kernel_rfl) rfl (fun K hK => ?_)
                          go_simp
                          refine (mAtN N N N _ _ _ zM i j _ TM.out (UM.out.below HBa.out) (by omega) (by omega)).mono ?_
                          rintro e Wq0_ ⟨rfl, hb_⟩
                          rw [HY1.out]
                          replace HBa : Hid (Below w17_.heap.size w17_ Wq0_) := bstep HBa.out hb_
                          clear hb_
                          (try go_wp2_with fail)
                          refine hK.out _ _ (fun _ => ⟨(M.out.below HBa.out).cells, ((Below.cell HBa.out l2_).trans q2), (b_r.out.below HBa.out).cells⟩) (fun hHeld1 => ?_)
                          replace hHeld0 := hHeld1 (by decide)
                          clear hK K hHeld1
                          (try simp only [Act.put, List.setIfInBounds_toArray, List.set_cons_zero, List.set_cons_succ])
                          refine AnyT.one (i := 5) (o := ({ dst := some 166, op := Op.call { callee := Callee.value (Operand.func _), args := #[Operand.tmp 165], argTypes := _ }, type := _, pos := _, after := _, guard := none } : Oper)) (by kernel_rfl) rfl (fun K hK => ?_)
                          go_simp
                          refine (lExact y _ y0 y1).mono ?_
                          rintro e Wq1_ ⟨r2x1_v, rfl, ht_, hb_⟩
                          obtain ⟨r2x1_n, r2x1_a, r2x1_m, r2x1_c, r2x1_p, rfl, ht2_⟩ := ht_.numform
                          clear ht_
                          have t_r2x1 : Hid (Tell Wq1_ B5 (.agg #[.bool r2x1_n, .slice r2x1_a r2x1_m r2x1_c, .int .i64 r2x1_p, .slice none 0 0]) 17 17 (xv y)) := ht2_.base (Nat.le_trans ZB5.out (Below.size HBa.out))
                          clear ht2_
                          replace HBa : Hid (Below w17_.heap.size w17_ Wq1_) := bstep HBa.out hb_
                          clear hb_
                          (try go_wp2_with fail)
                          refine hK.out _ _ (fun _ => ⟨(M.out.below HBa.out).cells, ((Below.cell HBa.out l2_).trans q2), (b_r.out.below HBa.out).cells⟩) (fun hHeld1 => ?_)
                          replace hHeld0 := hHeld1 (by decide)
                          clear hK K hHeld1
                          (try simp only [Act.put, List.setIfInBounds_toArray, List.set_cons_zero, List.set_cons_succ])
                          refine AnyT.one (i := 10) (o := ({ dst := some 171, op := Op.call { callee := Callee.value (Operand.func _), args := #[Operand.tmp 170], argTypes := _ }, type := _, pos := _, after := _, guard := none } : Oper)) (by kernel_rfl) rfl (fun K hK => ?_)
                          go_simp
                          refine (lExact v _ v0 v1).mono ?_
                          rintro e Wq2_ ⟨r2x2_v, rfl, ht_, hb_⟩
                          obtain ⟨r2x2_n, r2x2_a, r2x2_m, r2x2_c, r2x2_p, rfl, ht2_⟩ := ht_.numform
                          clear ht_
                          have t_r2x2 : Hid (Tell Wq2_ B5 (.agg #[.bool r2x2_n, .slice r2x2_a r2x2_m r2x2_c, .int .i64 r2x2_p, .slice none 0 0]) 17 17 (xv v)) := ht2_.base (Nat.le_trans ZB5.out (Below.size HBa.out))
                          clear ht2_
                          replace t_r2x1 : Hid (Tell _ _ _ _ _ _) := t_r2x1.out.below hb_
                          replace HBa : Hid (Below w17_.heap.size w17_ Wq2_) := bstep HBa.out hb_
                          clear hb_
                          (try go_wp2_with fail)
                          refine hK.out _ _ (fun _ => ⟨(M.out.below HBa.out).cells, ((Below.cell HBa.out l2_).trans q2), (b_r.out.below HBa.out).cells⟩) (fun hHeld1 => ?_)
                          replace hHeld0 := hHeld1 (by decide)
                          clear hK K hHeld1
                          (try simp only [Act.put, List.setIfInBounds_toArray, List.set_cons_zero, List.set_cons_succ])
                          refine AnyT.one (i := 11) (o := ({ dst := some 172, op := Op.call { callee := Callee.value (Operand.func _), args := #[Operand.tmp 166, Operand.tmp 171], argTypes := _ }, type := _, pos := _, after := _, guard := none } : Oper)) (by kernel_rfl) rfl (fun K hK => ?_)
                          go_simp
                          refine (dMul _ _ _ B5 17 17 17 17 _ _ t_r2x1.out t_r2x2.out (by omega) (by omega) (by omega) (by omega) (by omega) (by omega)).mono ?_
                          rintro e Wq3_ ⟨r2x3_v, rfl, ht_, hb_⟩
                          obtain ⟨r2x3_n, r2x3_a, r2x3_m, r2x3_c, r2x3_p, rfl, ht2_⟩ := ht_.numform
                          clear ht_
                          have t_r2x3 : Hid (Tell Wq3_ B5 (.agg #[.bool r2x3_n, .slice r2x3_a r2x3_m r2x3_c, .int .i64 r2x3_p, .slice none 0 0]) 34 34 (xv y * xv v)) := ht2_.base (Nat.le_trans ZB5.out (Below.size HBa.out))
                          clear ht2_
                          replace t_r2x1 : Hid (Tell _ _ _ _ _ _) := t_r2x1.out.below hb_
                          replace t_r2x2 : Hid (Tell _ _ _ _ _ _) := t_r2x2.out.below hb_
                          replace HBa : Hid (Below w17_.heap.size w17_ Wq3_) := bstep HBa.out hb_
                          clear hb_
                          (try go_wp2_with fail)
                          refine hK.out _ _ (fun _ => ⟨(M.out.below HBa.out).cells, ((Below.cell HBa.out l2_).trans q2), (b_r.out.below HBa.out).cells⟩) (fun hHeld1 => ?_)
                          replace hHeld0 := hHeld1 (by decide)
                          clear hK K hHeld1
                          (try simp only [Act.put, List.setIfInBounds_toArray, List.set_cons_zero, List.set_cons_succ])
                          refine AnyT.one (i := 12) (o := ({ dst := some 173, op := Op.call { callee := Callee.value (Operand.func _), args := #[Operand.tmp 161, Operand.tmp 172], argTypes := _ }, type := _, pos := _, after := _, guard := none } : Oper)) (by kernel_rfl) rfl (fun K hK => ?_)
                          go_simp
                          refine (dAdd _ _ _ B5 34 (34 + (j : Int)) _ _ (t_r.out.below HBa.out) (t_r2x3.out.wide (34 + (j : Int)) (by omega)) (by omega) (by omega) (by omega)).mono ?_
                          rintro e Wq4_ ⟨r2x4_v, rfl, ht_, hb_⟩
                          obtain ⟨r2x4_n, r2x4_a, r2x4_m, r2x4_c, r2x4_p, rfl, ht2_⟩ := ht_.numform
                          clear ht_
                          have t_r2x4 : Hid (Tell Wq4_ B5 (.agg #[.bool r2x4_n, .slice r2x4_a r2x4_m r2x4_c, .int .i64 r2x4_p, .slice none 0 0]) 34 ((34 + (j : Int)) + 1) (fsum PP j * 268435456 + xv y * xv v)) := ht2_.base (Nat.le_trans ZB5.out (Below.size HBa.out))
                          clear ht2_
                          replace t_r2x1 : Hid (Tell _ _ _ _ _ _) := t_r2x1.out.below hb_
                          replace t_r2x2 : Hid (Tell _ _ _ _ _ _) := t_r2x2.out.below hb_
                          replace t_r2x3 : Hid (Tell _ _ _ _ _ _) := t_r2x3.out.below hb_
                          replace HBa : Hid (Below w17_.heap.size w17_ Wq4_) := bstep HBa.out hb_
                          clear hb_
                          (try go_wp2_with fail)
                          refine hK.out _ _ (fun _ => ⟨(M.out.below HBa.out).cells, ((Below.cell HBa.out l2_).trans q2), (b_r.out.below HBa.out).cells⟩) (fun hHeld1 => ?_)
                          replace hHeld0 := hHeld1 (by decide)
                          clear hK K hHeld1
                          (try simp only [Act.put, List.setIfInBounds_toArray, List.set_cons_zero, List.set_cons_succ])
                          refine AnyT.one (i := 13) (o := ({ dst := none, op := Op.store _ (Operand.tmp 21) (Operand.tmp 173), type := _, pos := _, after := _, guard := none } : Oper)) (by kernel_rfl) rfl (fun K hK => ?_)
                          clear hHeld0
                          obtain ⟨⟨z0_, z1_, z2_, z3_⟩, ⟨z5_, z6_, z7_, z8_⟩, z4_⟩ := hfz_ _ HBa.out
                          go_simp
                          refine hK.out _ _ (fun h => absurd rfl h) (fun _ => ?_)
                          clear hK K
                          (try simp only [Act.put, List.setIfInBounds_toArray, List.set_cons_zero, List.set_cons_succ])
                          refine AnyT.done (by kernel_rfl) ?_
                          refine NoPanic.normal ?_
                          have bs_ := bes_puts Wq4_ k_r (.bool r2x4_n) (.slice r2x4_a r2x4_m r2x4_c) (.int .i64 r2x4_p) (.slice none 0 0)
                          have mB_ := (b_r.out.below HBa.out).put (.bool r2x4_n) (.slice r2x4_a r2x4_m r2x4_c) (.int .i64 r2x4_p) (.slice none 0 0)
                          have tB_ := t_r2x4.out.put (b := k_r) KB_r.out (.bool r2x4_n) (.slice r2x4_a r2x4_m r2x4_c) (.int .i64 r2x4_p) (.slice none 0 0)
                          clear z0_ z1_ z2_ z3_ z4_ z5_ z6_ z7_ z8_ hfz_
                          replace BW : Hid (Below _ _ _) := bstep BW.out HBa.out
                          replace UM : Hid (URow _ _ _ _ _) := UM.out.below HBa.out
                          replace M : Hid (MBox _ _ _ _ _ _) := M.out.below HBa.out
                          replace Ux : Hid (URow _ _ _ _ _) := Ux.out.below HBa.out
                          replace Uy : Hid (URow _ _ _ _ _) := Uy.out.below HBa.out
                          replace ZB0 : Hid (_ ≤ _) := Nat.le_trans ZB0.out (Below.size HBa.out)
                          replace ZB1 : Hid (_ ≤ _) := Nat.le_trans ZB1.out (Below.size HBa.out)
                          replace b_s : Hid (BoxF _ _ _ _ _ _) := b_s.out.below HBa.out
                          replace BV2 : Hid (Below _ _ _) := bstep BV2.out HBa.out
                          replace ZB2 : Hid (_ ≤ _) := Nat.le_trans ZB2.out (Below.size HBa.out)
                          replace b_d : Hid (BoxF _ _ _ _ _ _) := b_d.out.below HBa.out
                          replace ZB3 : Hid (_ ≤ _) := Nat.le_trans ZB3.out (Below.size HBa.out)
                          replace BV3 : Hid (Below _ _ _) := bstep BV3.out HBa.out
                          replace ZB5 : Hid (_ ≤ _) := Nat.le_trans ZB5.out (Below.size HBa.out)
                          replace b_r : Hid (BoxF _ _ _ _ _ _) := b_r.out.below HBa.out
                          replace t_r : Hid (Tell _ _ _ _ _ _) := t_r.out.below HBa.out
                          replace BW : Hid (Below _ _ _) := Bes.old BW.out bs_ L_r.out
                          replace UM : Hid (URow _ _ _ _ _) := UM.out.puts A_rUM.out (.bool r2x4_n) (.slice r2x4_a r2x4_m r2x4_c) (.int .i64 r2x4_p) (.slice none 0 0)
                          replace M : Hid (MBox _ _ _ _ _ _) := M.out.bes bs_ (ne_some K_rM.out)
                          replace Ux : Hid (URow _ _ _ _ _) := Ux.out.puts A_rUx.out (.bool r2x4_n) (.slice r2x4_a r2x4_m r2x4_c) (.int .i64 r2x4_p) (.slice none 0 0)
                          replace Uy : Hid (URow _ _ _ _ _) := Uy.out.puts A_rUy.out (.bool r2x4_n) (.slice r2x4_a r2x4_m r2x4_c) (.int .i64 r2x4_p) (.slice none 0 0)
                          replace ZB0 : Hid (_ ≤ _) := Nat.le_trans ZB0.out (Bes.size bs_)
                          replace ZB1 : Hid (_ ≤ _) := Nat.le_trans ZB1.out (Bes.size bs_)
                          replace b_s : Hid (BoxF _ _ _ _ _ _) := b_s.out.puts (Ne.symm N_sr.out) (.bool r2x4_n) (.slice r2x4_a r2x4_m r2x4_c) (.int .i64 r2x4_p) (.slice none 0 0)
                          replace BV2 : Hid (Below _ _ _) := Bes.old BV2.out bs_ LBV2_r.out
                          replace ZB2 : Hid (_ ≤ _) := Nat.le_trans ZB2.out (Bes.size bs_)
                          replace b_d : Hid (BoxF _ _ _ _ _ _) := b_d.out.puts (Ne.symm N_dr.out) (.bool r2x4_n) (.slice r2x4_a r2x4_m r2x4_c) (.int .i64 r2x4_p) (.slice none 0 0)
                          replace ZB3 : Hid (_ ≤ _) := Nat.le_trans ZB3.out (Bes.size bs_)
                          replace BV3 : Hid (Below _ _ _) := Bes.old BV3.out bs_ LBV3_r.out
                          replace ZB5 : Hid (_ ≤ _) := Nat.le_trans ZB5.out (Bes.size bs_)
                          replace b_r : Hid (BoxF _ _ _ _ _ _) := mB_
                          replace t_r : Hid (Tell _ B5 (.agg #[.bool r2x4_n, .slice r2x4_a r2x4_m r2x4_c, .int .i64 r2x4_p, .slice none 0 0]) 34 ((34 + (j : Int)) + 1) (fsum PP j * 268435456 + xv y * xv v)) := tB_
                          clear mB_ tB_ bs_ HBa
                          generalize ((((Wq4_.setCell ⟨k_r, 0, none⟩ (.bool r2x4_n)).setCell ⟨k_r, 1, none⟩ (.slice r2x4_a r2x4_m r2x4_c)).setCell ⟨k_r, 2, none⟩ (.int .i64 r2x4_p)).setCell ⟨k_r, 3, none⟩ (.slice none 0 0)) = w18_ at BW UM M Ux Uy ZB0 ZB1 b_s BV2 ZB2 b_d ZB3 BV3 ZB5 b_r t_r ⊢
                          clear t_r2x1 t_r2x2 t_r2x3 t_r2x4
                          have TR2 : Hid (Tell _ B5 _ 34 (34 + ((j + 1 : Nat) : Int)) (fsum PP (j + 1) * 268435456)) := (t_r.out.wide _ (by omega)).eq (by
                            rw [HPJ.out]
                            show _ = (fsum PP j + PP j) * 268435456
                            rw [Int.add_mul])
                          clear t_r l2_ q2
                          go_wp2
                          go_roundw
                          case rel => exact ⟨j + 1, _, _, _, _, _, by go_num, by omega, BW, UM, M, Ux, Uy, ZB0, ZB1, b_s, BV2, ZB2, b_d, ZB3, BV3, ZB5, b_r, TR2⟩
                          case measure => simp [intOf]; omega
                      · obtain rfl : N = j := by omega
                        obtain ⟨A, hA⟩ : ∃ A, fsum PP N = A := ⟨_, rfl⟩
                        have sn2 := HNI.out
                        rw [hA] at sn2 t_r
                        obtain ⟨l3_, q3⟩ := Ux.out.cellg i (by omega)
                        obtain ⟨b0, b1⟩ := Ux.out.2.2.1 i
                        have bf := OK.out i (by omega)
                        obtain ⟨bv, hbv⟩ : ∃ v, zX i = v := ⟨_, rfl⟩
                        rw [hbv] at sn2 q3 b0 b1 bf
                        obtain ⟨cc, hcc⟩ : ∃ c, cmpZ (((A * 268435456 - xv bv * pw (34 - 17)).natAbs : Int) * pw (35 - 34)) ((QQ : Int) * 33554432 * ((SS : Int) * 16384)) = c := ⟨_, rfl⟩
                        have hc0 : cc ≤ 0 := by
                          rw [← hcc]
                          exact cmp_nonpos _ _ (piv_cmp A bv QQ SS bf sn2)
                        have HCC : Hid (_ = _) := hcc
                        have t_d : Hid (Tell w17_ 0 (.agg #[.bool d_n, .slice d_a d_m d_c, .int .i64 d_p, .slice none 0 0]) 18 21 ((QQ : Int) * 33554432)) := FD3.out.below BV3.out
                        have t_s : Hid (Tell w17_ 0 (.agg #[.bool s_n, .slice s_a s_m s_c, .int .i64 s_p, .slice none 0 0]) 17 (17 + (N : Int)) ((SS : Int) * 16384)) := FS.out.below BV2.out
                        clear hcc hbv sn2 bf hA
                        obtain ⟨⟨b_r_0, b_r_1, b_r_2, b_r_3⟩, ⟨b_r_5, b_r_6, b_r_7, b_r_8⟩, b_r_4⟩ := b_r.out
                        obtain ⟨⟨b_d_0, b_d_1, b_d_2, b_d_3⟩, ⟨b_d_5, b_d_6, b_d_7, b_d_8⟩, b_d_4⟩ := b_d.out
                        obtain ⟨⟨b_s_0, b_s_1, b_s_2, b_s_3⟩, ⟨b_s_5, b_s_6, b_s_7, b_s_8⟩, b_s_4⟩ := b_s.out
                        go_wp2_with fail
                        clear b_r_0 b_r_1 b_r_2 b_r_3 b_r_4 b_r_5 b_r_6 b_r_7 b_r_8 b_d_0 b_d_1 b_d_2 b_d_3 b_d_4 b_d_5 b_d_6 b_d_7 b_d_8 b_s_0 b_s_1 b_s_2 b_s_3 b_s_4 b_s_5 b_s_6 b_s_7 b_s_8
                        have ct : Cnt 1 := Cnt.mk _
                        have dh : ∀ w : World, w.drew.heap = w.heap := fun _ => rfl
                        have HBa : Hid (Below w17_.heap.size w17_ w17_) := Below.refl _ _
                        go_region_held3 (fun w' => (w'.cell? ⟨gx, i, none⟩ = some (.int .u64 bv)) ∧ (w'.cell? ⟨k_r, 0, none⟩ = some (.bool r_n) ∧ w'.cell? ⟨k_r, 1, none⟩ = some (.slice r_a r_m r_c) ∧ w'.cell? ⟨k_r, 2, none⟩ = some (.int .i64 r_p) ∧ w'.cell? ⟨k_r, 3, none⟩ = some (.slice none 0 0)) ∧ (w'.cell? ⟨k_d, 0, none⟩ = some (.bool d_n) ∧ w'.cell? ⟨k_d, 1, none⟩ = some (.slice d_a d_m d_c) ∧ w'.cell? ⟨k_d, 2, none⟩ = some (.int .i64 d_p) ∧ w'.cell? ⟨k_d, 3, none⟩ = some (.slice none 0 0)) ∧ (w'.cell? ⟨k_s, 0, none⟩ = some (.bool s_n) ∧ w'.cell? ⟨k_s, 1, none⟩ = some (.slice s_a s_m s_c) ∧ w'.cell? ⟨k_s, 2, none⟩ = some (.int .i64 s_p) ∧ w'.cell? ⟨k_s, 3, none⟩ = some (.slice none 0 0))) (exact ⟨((Below.cell (by with_reducible repeat (first | (refine Below.drew ?_) | (refine bmore ?_ _) | exact HBa.out | exact Below.refl _ _)) l3_).trans q3), (b_r.out.below (by with_reducible repeat (first | (refine Below.drew ?_) | (refine bmore ?_ _) | exact HBa.out | exact Below.refl _ _))).cells, (b_d.out.below (by with_reducible repeat (first | (refine Below.drew ?_) | (refine bmore ?_ _) | exact HBa.out | exact Below.refl _ _))).cells, (b_s.out.below (by with_reducible repeat (first | (refine Below.drew ?_) | (refine bmore ?_ _) | exact HBa.out | exact Below.refl _ _))).cells⟩) (first | (have ck : Cnt 1 := ct; go_at_call 11; refine (lExact bv _ b0 b1).mono ?_; rintro e Wq0_ ⟨r2x0_v, rfl, ht_, hb_⟩; obtain ⟨r2x0_n, r2x0_a, r2x0_m, r2x0_c, r2x0_p, rfl, ht2_⟩ := ht_.numform; clear ht_; obtain ⟨pc0, pf0⟩ := bcell hb_; have hr0 : ∀ b, b < _ → b < Wq0_.heap.size := (fun b h => Nat.lt_of_lt_of_le h hb_.size); have hq0 := hb_.size; (try simp [dh] at hq0); have hbt_ : Below w17_.heap.size w17_ Wq0_ := bstep (by with_reducible repeat (first | (refine Below.drew ?_) | (refine bmore ?_ _) | exact (Below.refl _ _) | exact Below.refl _ _)) hb_; have t_r2x0 : Hid (Tell Wq0_ B5 (.agg #[.bool r2x0_n, .slice r2x0_a r2x0_m r2x0_c, .int .i64 r2x0_p, .slice none 0 0]) 17 17 (xv bv)) := ht2_.base (Nat.le_trans ZB5.out (Below.size (B := w17_.heap.size) (by with_reducible repeat (first | (refine Below.drew ?_) | (refine bmore ?_ _) | exact HBa.out | exact Below.refl _ _)))); clear ht2_; replace HBa : Hid (Below w17_.heap.size w17_ Wq0_) := bstep HBa.out hbt_; have hsz0 := HBa.out.size; (try (have hT00 : w17_.heap.size < Wq0_.heap.size := by omega)); replace ct : Cnt 2 := Cnt.mk _; clear hb_ hbt_ ck) | (have ck : Cnt 2 := ct; go_at_call 17; refine (dSub _ _ _ B5 34 (34 + (N : Int)) _ _ (t_r.out.below (by with_reducible repeat (first | (refine Below.drew ?_) | (refine bmore ?_ _) | exact HBa.out | exact Below.refl _ _))) ((t_r2x0.out.below (by with_reducible repeat (first | (refine Below.drew ?_) | (refine bmore ?_ _) | exact (Below.refl _ _) | exact Below.refl _ _))).up 34 (34 + (N : Int)) (by omega) (by omega)) (by omega) (by omega) (by omega)).mono ?_; rintro e Wq1_ ⟨r2x1_v, rfl, ht_, hb_⟩; obtain ⟨r2x1_n, r2x1_a, r2x1_m, r2x1_c, r2x1_p, rfl, ht2_⟩ := ht_.numform; clear ht_; obtain ⟨pc1, pf1⟩ := bcell hb_; have hr1 : ∀ b, b < _ → b < Wq1_.heap.size := (fun b h => Nat.lt_of_lt_of_le h hb_.size); have hq1 := hb_.size; (try simp [dh] at hq1); have hbt_ : Below Wq0_.heap.size Wq0_ Wq1_ := bstep (by with_reducible repeat (first | (refine Below.drew ?_) | (refine bmore ?_ _) | exact (Below.refl _ _) | exact Below.refl _ _)) hb_; have t_r2x1 : Hid (Tell Wq1_ B5 (.agg #[.bool r2x1_n, .slice r2x1_a r2x1_m r2x1_c, .int .i64 r2x1_p, .slice none 0 0]) 34 ((34 + (N : Int)) + 1) (A * 268435456 - xv bv * pw (34 - 17))) := ht2_.base (Nat.le_trans ZB5.out (Below.size (B := w17_.heap.size) (by with_reducible repeat (first | (refine Below.drew ?_) | (refine bmore ?_ _) | exact HBa.out | exact Below.refl _ _)))); clear ht2_; replace t_r2x0 : Hid (Tell _ _ _ _ _ _) := t_r2x0.out.below hbt_; replace HBa : Hid (Below w17_.heap.size w17_ Wq1_) := bstep HBa.out hbt_; have hsz1 := HBa.out.size; (try (have hT10 : w17_.heap.size < Wq1_.heap.size := by omega)); (try (have hT11 : Wq0_.heap.size < Wq1_.heap.size := by omega)); replace ct : Cnt 3 := Cnt.mk _; clear hb_ hbt_ ck) | (have ck : Cnt 3 := ct; go_at_call 14; refine (dAbs _ _ B5 34 ((34 + (N : Int)) + 1) _ (t_r2x1.out.below (by with_reducible repeat (first | (refine Below.drew ?_) | (refine bmore ?_ _) | exact (Below.refl _ _) | exact Below.refl _ _))) (by omega) (by omega)).mono ?_; rintro e Wq2_ ⟨r2x2_v, rfl, ht_, hb_⟩; obtain ⟨r2x2_n, r2x2_a, r2x2_m, r2x2_c, r2x2_p, rfl, ht2_⟩ := ht_.numform; clear ht_; obtain ⟨pc2, pf2⟩ := bcell hb_; have hr2 : ∀ b, b < _ → b < Wq2_.heap.size := (fun b h => Nat.lt_of_lt_of_le h hb_.size); have hq2 := hb_.size; (try simp [dh] at hq2); have hbt_ : Below Wq1_.heap.size Wq1_ Wq2_ := bstep (by with_reducible repeat (first | (refine Below.drew ?_) | (refine bmore ?_ _) | exact (Below.refl _ _) | exact Below.refl _ _)) hb_; have t_r2x2 : Hid (Tell Wq2_ B5 (.agg #[.bool r2x2_n, .slice r2x2_a r2x2_m r2x2_c, .int .i64 r2x2_p, .slice none 0 0]) 34 ((34 + (N : Int)) + 1) (((A * 268435456 - xv bv * pw (34 - 17)).natAbs : Int))) := ht2_.base (Nat.le_trans ZB5.out (Below.size (B := w17_.heap.size) (by with_reducible repeat (first | (refine Below.drew ?_) | (refine bmore ?_ _) | exact HBa.out | exact Below.refl _ _)))); clear ht2_; replace t_r2x0 : Hid (Tell _ _ _ _ _ _) := t_r2x0.out.below hbt_; replace t_r2x1 : Hid (Tell _ _ _ _ _ _) := t_r2x1.out.below hbt_; replace HBa : Hid (Below w17_.heap.size w17_ Wq2_) := bstep HBa.out hbt_; have hsz2 := HBa.out.size; (try (have hT20 : w17_.heap.size < Wq2_.heap.size := by omega)); (try (have hT21 : Wq0_.heap.size < Wq2_.heap.size := by omega)); (try (have hT22 : Wq1_.heap.size < Wq2_.heap.size := by omega)); replace ct : Cnt 4 := Cnt.mk _; clear hb_ hbt_ ck) | (have ck : Cnt 4 := ct; go_at_call 12; refine (dMul _ _ _ 0 18 17 21 (17 + (N : Int)) _ _ (t_d.out.below (by with_reducible repeat (first | (refine Below.drew ?_) | (refine bmore ?_ _) | exact HBa.out | exact Below.refl _ _))) (t_s.out.below (by with_reducible repeat (first | (refine Below.drew ?_) | (refine bmore ?_ _) | exact HBa.out | exact Below.refl _ _))) (by omega) (by omega) (by omega) (by omega) (by omega) (by omega)).mono ?_; rintro e Wq3_ ⟨r2x3_v, rfl, ht_, hb_⟩; obtain ⟨r2x3_n, r2x3_a, r2x3_m, r2x3_c, r2x3_p, rfl, ht2_⟩ := ht_.numform; clear ht_; obtain ⟨pc3, pf3⟩ := bcell hb_; have hr3 : ∀ b, b < _ → b < Wq3_.heap.size := (fun b h => Nat.lt_of_lt_of_le h hb_.size); have hq3 := hb_.size; (try simp [dh] at hq3); have hbt_ : Below Wq2_.heap.size Wq2_ Wq3_ := bstep (by with_reducible repeat (first | (refine Below.drew ?_) | (refine bmore ?_ _) | exact (Below.refl _ _) | exact Below.refl _ _)) hb_; have t_r2x3 : Hid (Tell Wq3_ B5 (.agg #[.bool r2x3_n, .slice r2x3_a r2x3_m r2x3_c, .int .i64 r2x3_p, .slice none 0 0]) 35 (21 + (17 + (N : Int))) ((QQ : Int) * 33554432 * ((SS : Int) * 16384))) := ht2_.base (Nat.le_trans ZB5.out (Below.size (B := w17_.heap.size) (by with_reducible repeat (first | (refine Below.drew ?_) | (refine bmore ?_ _) | exact HBa.out | exact Below.refl _ _)))); clear ht2_; replace t_r2x0 : Hid (Tell _ _ _ _ _ _) := t_r2x0.out.below hbt_; replace t_r2x1 : Hid (Tell _ _ _ _ _ _) := t_r2x1.out.below hbt_; replace t_r2x2 : Hid (Tell _ _ _ _ _ _) := t_r2x2.out.below hbt_; replace HBa : Hid (Below w17_.heap.size w17_ Wq3_) := bstep HBa.out hbt_; have hsz3 := HBa.out.size; (try (have hT30 : w17_.heap.size < Wq3_.heap.size := by omega)); (try (have hT31 : Wq0_.heap.size < Wq3_.heap.size := by omega)); (try (have hT32 : Wq1_.heap.size < Wq3_.heap.size := by omega)); (try (have hT33 : Wq2_.heap.size < Wq3_.heap.size := by omega)); replace ct : Cnt 5 := Cnt.mk _; clear hb_ hbt_ ck) | (have ck : Cnt 5 := ct; go_at_call 18; refine (dCmp _ _ _ 0 35 (38 + (N : Int)) _ _ (((t_r2x2.out.below (by with_reducible repeat (first | (refine Below.drew ?_) | (refine bmore ?_ _) | exact (Below.refl _ _) | exact Below.refl _ _))).base (Nat.zero_le _)).up 35 (38 + (N : Int)) (by omega) (by omega)) (((t_r2x3.out.below (by with_reducible repeat (first | (refine Below.drew ?_) | (refine bmore ?_ _) | exact (Below.refl _ _) | exact Below.refl _ _))).base (Nat.zero_le _)).wide (38 + (N : Int)) (by omega)) (by omega) (by omega)).mono ?_; rintro e Wq4_ ⟨rfl, hb_⟩; rw [HCC.out]; obtain ⟨pc4, pf4⟩ := bcell hb_; have hr4 : ∀ b, b < _ → b < Wq4_.heap.size := (fun b h => Nat.lt_of_lt_of_le h hb_.size); have hq4 := hb_.size; (try simp [dh] at hq4); have hbt_ : Below Wq3_.heap.size Wq3_ Wq4_ := bstep (by with_reducible repeat (first | (refine Below.drew ?_) | (refine bmore ?_ _) | exact (Below.refl _ _) | exact Below.refl _ _)) hb_; replace t_r2x0 : Hid (Tell _ _ _ _ _ _) := t_r2x0.out.below hbt_; replace t_r2x1 : Hid (Tell _ _ _ _ _ _) := t_r2x1.out.below hbt_; replace t_r2x2 : Hid (Tell _ _ _ _ _ _) := t_r2x2.out.below hbt_; replace t_r2x3 : Hid (Tell _ _ _ _ _ _) := t_r2x3.out.below hbt_; replace HBa : Hid (Below w17_.heap.size w17_ Wq4_) := bstep HBa.out hbt_; have hsz4 := HBa.out.size; (try (have hT40 : w17_.heap.size < Wq4_.heap.size := by omega)); (try (have hT41 : Wq0_.heap.size < Wq4_.heap.size := by omega)); (try (have hT42 : Wq1_.heap.size < Wq4_.heap.size := by omega)); (try (have hT43 : Wq2_.heap.size < Wq4_.heap.size := by omega)); (try (have hT44 : Wq3_.heap.size < Wq4_.heap.size := by omega)); replace ct : Cnt 6 := Cnt.mk _; clear hb_ hbt_ ck))
                        replace BW : Hid (Below _ _ _) := bstep BW.out HBa.out
                        replace UM : Hid (URow _ _ _ _ _) := UM.out.below HBa.out
                        replace M : Hid (MBox _ _ _ _ _ _) := M.out.below HBa.out
                        replace Ux : Hid (URow _ _ _ _ _) := Ux.out.below HBa.out
                        replace Uy : Hid (URow _ _ _ _ _) := Uy.out.below HBa.out
                        replace ZB0 : Hid (_ ≤ _) := Nat.le_trans ZB0.out (Below.size HBa.out)
                        replace ZB1 : Hid (_ ≤ _) := Nat.le_trans ZB1.out (Below.size HBa.out)
                        replace b_s : Hid (BoxF _ _ _ _ _ _) := b_s.out.below HBa.out
                        replace BV2 : Hid (Below _ _ _) := bstep BV2.out HBa.out
                        replace ZB2 : Hid (_ ≤ _) := Nat.le_trans ZB2.out (Below.size HBa.out)
                        replace b_d : Hid (BoxF _ _ _ _ _ _) := b_d.out.below HBa.out
                        replace ZB3 : Hid (_ ≤ _) := Nat.le_trans ZB3.out (Below.size HBa.out)
                        replace BV3 : Hid (Below _ _ _) := bstep BV3.out HBa.out
                        replace ZB5 : Hid (_ ≤ _) := Nat.le_trans ZB5.out (Below.size HBa.out)
                        replace b_r : Hid (BoxF _ _ _ _ _ _) := b_r.out.below HBa.out
                        replace t_r : Hid (Tell _ _ _ _ _ _) := t_r.out.below HBa.out
                        replace t_d : Hid (Tell _ _ _ _ _ _) := t_d.out.below HBa.out
                        replace t_s : Hid (Tell _ _ _ _ _ _) := t_s.out.below HBa.out
                        clear HBa ct dh t_r2x0 t_r2x1 t_r2x2 t_r2x3 pc0 pf0 hr0 hq0 hsz0 pc1 pf1 hr1 hq1 hsz1 pc2 pf2 hr2 hq2 hsz2 pc3 pf3 hr3 hq3 hsz3 pc4 pf4 hr4 hq4 hsz4
                        go_wp2
                        go_roundw
                        case rel => exact ⟨i + 1, by go_num, by omega, BW, UM, M, Ux, Uy, ZB0, ZB1, b_s, BV2, ZB2, b_d, ZB3, BV3⟩
                        case measure => simp [intOf]; omega
                · obtain rfl : N = i := by omega
                  go_wp2
                  go_ret
                  exact ⟨ret_eq rfl, BW.out⟩
            case true =>
              obtain ⟨⟨b_d_0, b_d_1, b_d_2, b_d_3⟩, ⟨b_d_5, b_d_6, b_d_7, b_d_8⟩, b_d_4⟩ := b_d.out
              go_wp2_with fail
              clear b_d_0 b_d_1 b_d_2 b_d_3 b_d_4 b_d_5 b_d_6 b_d_7 b_d_8
              have HBa : Hid (Below w14_.heap.size w14_ w14_.drew) := (Below.refl _ _).drew
              have hfz_ := fun (w' : World) (h : Below w14_.heap.size w14_ w') => b_d.out.below h
              refine wp_region_noPanic ?_
              refine AnyT.start (T := (fun w' => (w'.cell? ⟨k_d, 0, none⟩ = some (.bool d_n) ∧ w'.cell? ⟨k_d, 1, none⟩ = some (.slice d_a d_m d_c) ∧ w'.cell? ⟨k_d, 2, none⟩ = some (.int .i64 d_p) ∧ w'.cell? ⟨k_d, 3, none⟩ = some (.slice none 0 0)))) (z := 6) (by kernel_rfl) ?_
              have hHeld0 := ((b_d.out.below HBa.out).cells : (fun w' => (w'.cell? ⟨k_d, 0, none⟩ = some (.bool d_n) ∧ w'.cell? ⟨k_d, 1, none⟩ = some (.slice d_a d_m d_c) ∧ w'.cell? ⟨k_d, 2, none⟩ = some (.int .i64 d_p) ∧ w'.cell? ⟨k_d, 3, none⟩ = some (.slice none 0 0))) w14_.drew)
              refine AnyT.take (i := 0) (oi := ({ dst := some 144, op := Op.load _ (Operand.tmp 19), type := _, pos := _, after := _, guard := none } : Oper)) (v := ?_) rfl (by kernel_rfl) (by kernel_rfl) (by kernel_rfl) (by kernel_rfl) (fun _ _ _ h => h) (Or.inl ⟨by rfl, ?_⟩) hHeld0 ?_
              rotate_left
              · intro w' hSw; (try dsimp only at hSw); go_simp <;> (try with_reducible rfl)
              (try simp only [Act.put, List.setIfInBounds_toArray, List.set_cons_zero, List.set_cons_succ])
              refine AnyT.take (i := 1) (oi := ({ dst := some 145, op := Op.move (Operand.tmp 2), type := _, pos := _, after := _, guard := none } : Oper)) (v := ?_) rfl (by kernel_rfl) (by kernel_rfl) (by kernel_rfl) (by kernel_rfl) (fun _ _ _ h => h) (Or.inl ⟨by rfl, ?_⟩) hHeld0 ?_
              rotate_left
              · intro w' hSw; (try dsimp only at hSw); go_simp <;> (try with_reducible rfl)
              (try simp only [Act.put, List.setIfInBounds_toArray, List.set_cons_zero, List.set_cons_succ])
              refine AnyT.one (i := 2) (o := ({ dst := some 146, op := Op.call { callee := Callee.value (Operand.func _), args := #[Operand.tmp 145], argTypes := _ }, type := _, pos := _, after := _, guard := none } : Oper)) (by kernel_rfl) rfl (fun K hK => ?_)
              go_simp
              refine (lExact a2 _ a20 a21).mono ?_
              rintro e Wq0_ ⟨r2x0_v, rfl, ht_, hb_⟩
              obtain ⟨r2x0_n, r2x0_a, r2x0_m, r2x0_c, r2x0_p, rfl, ht2_⟩ := ht_.numform
              clear ht_
              have t_r2x0 : Hid (Tell Wq0_ B3 (.agg #[.bool r2x0_n, .slice r2x0_a r2x0_m r2x0_c, .int .i64 r2x0_p, .slice none 0 0]) 17 17 (xv a2)) := ht2_.base (Nat.le_trans ZB3.out (Below.size HBa.out))
              clear ht2_
              replace HBa : Hid (Below w14_.heap.size w14_ Wq0_) := bstep HBa.out hb_
              clear hb_
              (try go_wp2_with fail)
              refine hK.out _ _ (fun _ => (b_d.out.below HBa.out).cells) (fun hHeld1 => ?_)
              replace hHeld0 := hHeld1 (by decide)
              clear hK K hHeld1
              (try simp only [Act.put, List.setIfInBounds_toArray, List.set_cons_zero, List.set_cons_succ])
              refine AnyT.one (i := 3) (o := ({ dst := some 147, op := Op.call { callee := Callee.value (Operand.func _), args := #[Operand.const (Value.int IntKind.i64 4)], argTypes := _ }, type := _, pos := _, after := _, guard := none } : Oper)) (by kernel_rfl) rfl (fun K hK => ?_)
              go_simp
              refine (dInt 4 _ (by decide) (by decide)).mono ?_
              rintro e Wq1_ ⟨r2x1_v, rfl, ht_, hb_⟩
              obtain ⟨r2x1_n, r2x1_a, r2x1_m, r2x1_c, r2x1_p, rfl, ht2_⟩ := ht_.numform
              clear ht_
              have t_r2x1 : Hid (Tell Wq1_ B3 (.agg #[.bool r2x1_n, .slice r2x1_a r2x1_m r2x1_c, .int .i64 r2x1_p, .slice none 0 0]) 0 2 (4)) := ht2_.base (Nat.le_trans ZB3.out (Below.size HBa.out))
              clear ht2_
              replace t_r2x0 : Hid (Tell _ _ _ _ _ _) := t_r2x0.out.below hb_
              replace HBa : Hid (Below w14_.heap.size w14_ Wq1_) := bstep HBa.out hb_
              clear hb_
              (try go_wp2_with fail)
              refine hK.out _ _ (fun _ => (b_d.out.below HBa.out).cells) (fun hHeld1 => ?_)
              replace hHeld0 := hHeld1 (by decide)
              clear hK K hHeld1
              (try simp only [Act.put, List.setIfInBounds_toArray, List.set_cons_zero, List.set_cons_succ])
              refine AnyT.one (i := 4) (o := ({ dst := some 148, op := Op.call { callee := Callee.value (Operand.func _), args := #[Operand.tmp 146, Operand.tmp 147], argTypes := _ }, type := _, pos := _, after := _, guard := none } : Oper)) (by kernel_rfl) rfl (fun K hK => ?_)
              go_simp
              refine (dMul _ _ _ B3 17 0 17 2 _ _ t_r2x0.out t_r2x1.out (by omega) (by omega) (by omega) (by omega) (by omega) (by omega)).mono ?_
              rintro e Wq2_ ⟨r2x2_v, rfl, ht_, hb_⟩
              obtain ⟨r2x2_n, r2x2_a, r2x2_m, r2x2_c, r2x2_p, rfl, ht2_⟩ := ht_.numform
              clear ht_
              have t_r2x2 : Hid (Tell Wq2_ B3 (.agg #[.bool r2x2_n, .slice r2x2_a r2x2_m r2x2_c, .int .i64 r2x2_p, .slice none 0 0]) 17 19 (xv a2 * 4)) := ht2_.base (Nat.le_trans ZB3.out (Below.size HBa.out))
              clear ht2_
              replace t_r2x0 : Hid (Tell _ _ _ _ _ _) := t_r2x0.out.below hb_
              replace t_r2x1 : Hid (Tell _ _ _ _ _ _) := t_r2x1.out.below hb_
              replace HBa : Hid (Below w14_.heap.size w14_ Wq2_) := bstep HBa.out hb_
              clear hb_
              (try go_wp2_with fail)
              refine hK.out _ _ (fun _ => (b_d.out.below HBa.out).cells) (fun hHeld1 => ?_)
              replace hHeld0 := hHeld1 (by decide)
              clear hK K hHeld1
              (try simp only [Act.put, List.setIfInBounds_toArray, List.set_cons_zero, List.set_cons_succ])
              refine AnyT.one (i := 5) (o := ({ dst := some 149, op := Op.call { callee := Callee.value (Operand.func _), args := #[Operand.tmp 144, Operand.tmp 148], argTypes := _ }, type := _, pos := _, after := _, guard := none } : Oper)) (by kernel_rfl) rfl (fun K hK => ?_)
              go_simp
              refine (dAdd _ _ _ 0 18 20 _ _ ((t_d.out.below HBa.out).base (Nat.zero_le _)) ((t_r2x2.out.base (Nat.zero_le _)).up 18 20 (by omega) (by omega)) (by omega) (by omega) (by omega)).mono ?_
              rintro e Wq3_ ⟨r2x3_v, rfl, ht_, hb_⟩
              obtain ⟨r2x3_n, r2x3_a, r2x3_m, r2x3_c, r2x3_p, rfl, ht2_⟩ := ht_.numform
              clear ht_
              have t_r2x3 : Hid (Tell Wq3_ B3 (.agg #[.bool r2x3_n, .slice r2x3_a r2x3_m r2x3_c, .int .i64 r2x3_p, .slice none 0 0]) 18 21 ((MX : Int) * 16384 * 1000 * 2048 + xv a2 * 4 * pw (18 - 17))) := ht2_.base (Nat.le_trans ZB3.out (Below.size HBa.out))
              clear ht2_
              replace t_r2x0 : Hid (Tell _ _ _ _ _ _) := t_r2x0.out.below hb_
              replace t_r2x1 : Hid (Tell _ _ _ _ _ _) := t_r2x1.out.below hb_
              replace t_r2x2 : Hid (Tell _ _ _ _ _ _) := t_r2x2.out.below hb_
              replace HBa : Hid (Below w14_.heap.size w14_ Wq3_) := bstep HBa.out hb_
              clear hb_
              (try go_wp2_with fail)
              refine hK.out _ _ (fun _ => (b_d.out.below HBa.out).cells) (fun hHeld1 => ?_)
              replace hHeld0 := hHeld1 (by decide)
              clear hK K hHeld1
              (try simp only [Act.put, List.setIfInBounds_toArray, List.set_cons_zero, List.set_cons_succ])
              refine AnyT.one (i := 6) (o := ({ dst := none, op := Op.store _ (Operand.tmp 19) (Operand.tmp 149), type := _, pos := _, after := _, guard := none } : Oper)) (by kernel_rfl) rfl (fun K hK => ?_)
              clear hHeld0
              obtain ⟨⟨z0_, z1_, z2_, z3_⟩, ⟨z5_, z6_, z7_, z8_⟩, z4_⟩ := hfz_ _ HBa.out
              go_simp
              refine hK.out _ _ (fun h => absurd rfl h) (fun _ => ?_)
              clear hK K
              (try simp only [Act.put, List.setIfInBounds_toArray, List.set_cons_zero, List.set_cons_succ])
              refine AnyT.done (by kernel_rfl) ?_
              refine NoPanic.normal ?_
              have bs_ := bes_puts Wq3_ k_d (.bool r2x3_n) (.slice r2x3_a r2x3_m r2x3_c) (.int .i64 r2x3_p) (.slice none 0 0)
              have mB_ := (b_d.out.below HBa.out).put (.bool r2x3_n) (.slice r2x3_a r2x3_m r2x3_c) (.int .i64 r2x3_p) (.slice none 0 0)
              have tB_ := t_r2x3.out.put (b := k_d) KB_d.out (.bool r2x3_n) (.slice r2x3_a r2x3_m r2x3_c) (.int .i64 r2x3_p) (.slice none 0 0)
              clear z0_ z1_ z2_ z3_ z4_ z5_ z6_ z7_ z8_ hfz_
              replace BW : Hid (Below _ _ _) := bstep BW.out HBa.out
              replace UM : Hid (URow _ _ _ _ _) := UM.out.below HBa.out
              replace M : Hid (MBox _ _ _ _ _ _) := M.out.below HBa.out
              replace Ux : Hid (URow _ _ _ _ _) := Ux.out.below HBa.out
              replace Uy : Hid (URow _ _ _ _ _) := Uy.out.below HBa.out
              replace ZB0 : Hid (_ ≤ _) := Nat.le_trans ZB0.out (Below.size HBa.out)
              replace ZB1 : Hid (_ ≤ _) := Nat.le_trans ZB1.out (Below.size HBa.out)
              replace b_s : Hid (BoxF _ _ _ _ _ _) := b_s.out.below HBa.out
              replace BV2 : Hid (Below _ _ _) := bstep BV2.out HBa.out
              replace ZB2 : Hid (_ ≤ _) := Nat.le_trans ZB2.out (Below.size HBa.out)
              replace b_d : Hid (BoxF _ _ _ _ _ _) := b_d.out.below HBa.out
              replace t_d : Hid (Tell _ _ _ _ _ _) := t_d.out.below HBa.out
              replace ZB3 : Hid (_ ≤ _) := Nat.le_trans ZB3.out (Below.size HBa.out)
              replace BW : Hid (Below _ _ _) := Bes.old BW.out bs_ L_d.out
              replace UM : Hid (URow _ _ _ _ _) := UM.out.puts A_dUM.out (.bool r2x3_n) (.slice r2x3_a r2x3_m r2x3_c) (.int .i64 r2x3_p) (.slice none 0 0)
              replace M : Hid (MBox _ _ _ _ _ _) := M.out.bes bs_ (ne_some K_dM.out)
              replace Ux : Hid (URow _ _ _ _ _) := Ux.out.puts A_dUx.out (.bool r2x3_n) (.slice r2x3_a r2x3_m r2x3_c) (.int .i64 r2x3_p) (.slice none 0 0)
              replace Uy : Hid (URow _ _ _ _ _) := Uy.out.puts A_dUy.out (.bool r2x3_n) (.slice r2x3_a r2x3_m r2x3_c) (.int .i64 r2x3_p) (.slice none 0 0)
              replace ZB0 : Hid (_ ≤ _) := Nat.le_trans ZB0.out (Bes.size bs_)
              replace ZB1 : Hid (_ ≤ _) := Nat.le_trans ZB1.out (Bes.size bs_)
              replace b_s : Hid (BoxF _ _ _ _ _ _) := b_s.out.puts (Ne.symm N_sd.out) (.bool r2x3_n) (.slice r2x3_a r2x3_m r2x3_c) (.int .i64 r2x3_p) (.slice none 0 0)
              replace BV2 : Hid (Below _ _ _) := Bes.old BV2.out bs_ LW_d.out
              replace ZB2 : Hid (_ ≤ _) := Nat.le_trans ZB2.out (Bes.size bs_)
              replace ZB3 : Hid (_ ≤ _) := Nat.le_trans ZB3.out (Bes.size bs_)
              replace b_d : Hid (BoxF _ _ _ _ _ _) := mB_
              replace t_d : Hid (Tell _ B3 (.agg #[.bool r2x3_n, .slice r2x3_a r2x3_m r2x3_c, .int .i64 r2x3_p, .slice none 0 0]) 18 21 ((MX : Int) * 16384 * 1000 * 2048 + xv a2 * 4 * pw (18 - 17))) := tB_
              clear mB_ tB_ bs_ HBa
              generalize ((((Wq3_.setCell ⟨k_d, 0, none⟩ (.bool r2x3_n)).setCell ⟨k_d, 1, none⟩ (.slice r2x3_a r2x3_m r2x3_c)).setCell ⟨k_d, 2, none⟩ (.int .i64 r2x3_p)).setCell ⟨k_d, 3, none⟩ (.slice none 0 0)) = w15_ at BW UM M Ux Uy ZB0 ZB1 b_s BV2 ZB2 b_d t_d ZB3 ⊢
              clear t_r2x0 t_r2x1 t_r2x2 t_r2x3
              have TD : Hid (Tell w15_ 0 (.agg #[.bool r2x3_n, .slice r2x3_a r2x3_m r2x3_c, .int .i64 r2x3_p, .slice none 0 0]) 18 21 ((QQ : Int) * 33554432)) := (t_d.out.base (Nat.zero_le _)).eq ((piv_bound1 MX a2 L1.out L0.out).trans (by rw [HQQ.out]; simp only [if_true, eq_self]))
              clear t_d
              have FD3 : Hid (Tell w15_ 0 (.agg #[.bool r2x3_n, .slice r2x3_a r2x3_m r2x3_c, .int .i64 r2x3_p, .slice none 0 0]) 18 21 ((QQ : Int) * 33554432)) := TD.out
              have BV3 : Hid (Below w15_.heap.size w15_ w15_) := Below.refl _ _
              clear TD
              go_wp2_with fail
              go_loopw [20] (fun s20_ wr => ∃ (i : Nat) , s20_ = .int .i64 (i : Int) ∧ i ≤ N ∧ Hid (Below w.heap.size w wr) ∧ Hid (URow wr (some ⟨gM, 0, none⟩) DD DD zM) ∧ Hid (MBox wr k_M (N : Int) (N : Int) (N : Int) (.slice (some ⟨gM, 0, none⟩) DD DD)) ∧ Hid (URow wr (some ⟨gx, 0, none⟩) N cx0 zX) ∧ Hid (URow wr (some ⟨gy, 0, none⟩) N N zY) ∧ Hid (B0 ≤ wr.heap.size) ∧ Hid (B1 ≤ wr.heap.size) ∧ Hid (BoxF wr k_s (.bool s_n) (.slice s_a s_m s_c) (.int .i64 s_p) (.slice none 0 0)) ∧ Hid (Below w13_.heap.size w13_ wr) ∧ Hid (B2 ≤ wr.heap.size) ∧ Hid (BoxF wr k_d (.bool r2x3_n) (.slice r2x3_a r2x3_m r2x3_c) (.int .i64 r2x3_p) (.slice none 0 0)) ∧ Hid (B3 ≤ wr.heap.size) ∧ Hid (Below w15_.heap.size w15_ wr)) (fun s20_ _ => N - (intOf s20_).toNat)
              case atStart => exact ⟨0, rfl, Nat.zero_le _, BW, UM, M, Ux, Uy, ZB0, ZB1, b_s, BV2, ZB2, b_d, ZB3, BV3⟩
              case round =>
                clear BW UM M Ux Uy ZB0 ZB1 b_s BV2 ZB2 b_d ZB3 BV3
                obtain ⟨i, rfl, hi_, BW, UM, M, Ux, Uy, ZB0, ZB1, b_s, BV2, ZB2, b_d, ZB3, BV3⟩ := hrel
                obtain ⟨w16_, rfl⟩ : ∃ x, x = wr := ⟨wr, rfl⟩
                by_cases hlt : (i : Int) < (N : Int)
                · as_aux_lemma =>
                    obtain ⟨PP, hPP⟩ : ∃ f : Nat → Int, f = fun k => sv (zM (i * N + k)) * sv (zY k) := ⟨_, rfl⟩
                    have HPP : Hid (∀ k, PP k = sv (zM (i * N + k)) * sv (zY k)) := by rw [hPP]; exact fun _ => rfl
                    have hn_ := HNEAR.out i (by omega)
                    rw [← hPP] at hn_
                    have HNI : Hid (_ ≤ _) := hn_
                    clear hPP hn_
                    go_wp2_with fail
                    have m0_ := BoxF.made w16_ (.bool false) (.slice none 0 0) (.int .i64 0) (.slice none 0 0) 41
                    have b_ : Below w16_.heap.size w16_ (w16_.alloc (.cells #[.bool false, .slice none 0 0, .int .i64 0, .slice none 0 0] 41)) := bmore (Below.refl _ _) _
                    obtain ⟨k_r, hk_r⟩ : ∃ k, k = w16_.heap.size := ⟨_, rfl⟩
                    have L_r : Hid (w.heap.size ≤ k_r) := by rw [hk_r]; exact Nat.le_trans BW.out.size (by omega)
                    have K_rM : Hid (k_r ≠ k_M) := by have := M.out.2.2.2.2; show _ ≠ _; omega
                    have A_rUM : Hid (Apt (some k_r) (some ⟨gM, 0, none⟩) DD) := UM.out.apt (fun k e => by injection e with e; omega)
                    have A_rUx : Hid (Apt (some k_r) (some ⟨gx, 0, none⟩) N) := Ux.out.apt (fun k e => by injection e with e; omega)
                    have A_rUy : Hid (Apt (some k_r) (some ⟨gy, 0, none⟩) N) := Uy.out.apt (fun k e => by injection e with e; omega)
                    have LBV2_r : Hid (w13_.heap.size ≤ k_r) := by have := Below.size BV2.out; show _ ≤ _; omega
                    have LBV3_r : Hid (w15_.heap.size ≤ k_r) := by have := Below.size BV3.out; show _ ≤ _; omega
                    have N_sr : Hid (k_s ≠ k_r) := by have := b_s.out.2.2; show _ ≠ _; omega
                    have N_dr : Hid (k_d ≠ k_r) := by have := b_d.out.2.2; show _ ≠ _; omega
                    rw [← hk_r] at m0_ ⊢
                    generalize (w16_.alloc (.cells #[.bool false, .slice none 0 0, .int .i64 0, .slice none 0 0] 41)) = w17_ at m0_ b_ ⊢
                    replace BW : Hid (Below _ _ _) := bstep BW.out b_
                    replace UM : Hid (URow _ _ _ _ _) := UM.out.below b_
                    replace M : Hid (MBox _ _ _ _ _ _) := M.out.below b_
                    replace Ux : Hid (URow _ _ _ _ _) := Ux.out.below b_
                    replace Uy : Hid (URow _ _ _ _ _) := Uy.out.below b_
                    replace ZB0 : Hid (_ ≤ _) := Nat.le_trans ZB0.out (Below.size b_)
                    replace ZB1 : Hid (_ ≤ _) := Nat.le_trans ZB1.out (Below.size b_)
                    replace b_s : Hid (BoxF _ _ _ _ _ _) := b_s.out.below b_
                    replace BV2 : Hid (Below _ _ _) := bstep BV2.out b_
                    replace ZB2 : Hid (_ ≤ _) := Nat.le_trans ZB2.out (Below.size b_)
                    replace b_d : Hid (BoxF _ _ _ _ _ _) := b_d.out.below b_
                    replace ZB3 : Hid (_ ≤ _) := Nat.le_trans ZB3.out (Below.size b_)
                    replace BV3 : Hid (Below _ _ _) := bstep BV3.out b_
                    have b_r : Hid (BoxF w17_ k_r (.bool false) (.slice none 0 0) (.int .i64 0) (.slice none 0 0)) := m0_
                    clear b_ m0_ hk_r
                    obtain ⟨B5, hB5⟩ : ∃ B, B = w17_.heap.size := ⟨_, rfl⟩
                    have ZB5 : Hid (B5 ≤ w17_.heap.size) := by show _ ≤ _; omega
                    have KB_r : Hid (k_r < B5) := by rw [hB5]; exact b_r.out.2.2
                    clear hB5
                    go_wp2_with fail
                    go_loopw [22] (fun s22_ wr => ∃ (j : Nat) (r_n : Bool) (r_a : Option Addr) (r_m r_c : Nat) (r_p : Int), s22_ = .int .i64 (j : Int) ∧ j ≤ N ∧ Hid (Below w.heap.size w wr) ∧ Hid (URow wr (some ⟨gM, 0, none⟩) DD DD zM) ∧ Hid (MBox wr k_M (N : Int) (N : Int) (N : Int) (.slice (some ⟨gM, 0, none⟩) DD DD)) ∧ Hid (URow wr (some ⟨gx, 0, none⟩) N cx0 zX) ∧ Hid (URow wr (some ⟨gy, 0, none⟩) N N zY) ∧ Hid (B0 ≤ wr.heap.size) ∧ Hid (B1 ≤ wr.heap.size) ∧ Hid (BoxF wr k_s (.bool s_n) (.slice s_a s_m s_c) (.int .i64 s_p) (.slice none 0 0)) ∧ Hid (Below w13_.heap.size w13_ wr) ∧ Hid (B2 ≤ wr.heap.size) ∧ Hid (BoxF wr k_d (.bool r2x3_n) (.slice r2x3_a r2x3_m r2x3_c) (.int .i64 r2x3_p) (.slice none 0 0)) ∧ Hid (B3 ≤ wr.heap.size) ∧ Hid (Below w15_.heap.size w15_ wr) ∧ Hid (B5 ≤ wr.heap.size) ∧ Hid (BoxF wr k_r (.bool r_n) (.slice r_a r_m r_c) (.int .i64 r_p) (.slice none 0 0)) ∧ Hid (Tell wr B5 (.agg #[.bool r_n, .slice r_a r_m r_c, .int .i64 r_p, .slice none 0 0]) 34 (34 + (j : Int)) (fsum PP j * 268435456))) (fun s22_ _ => N - (intOf s22_).toNat)
                    case atStart => exact ⟨0, false, none, 0, 0, 0, rfl, Nat.zero_le _, BW, UM, M, Ux, Uy, ZB0, ZB1, b_s, BV2, ZB2, b_d, ZB3, BV3, ZB5, b_r, (Tell.zero _ _ _ _ _ (by simp)).eq rfl⟩
                    case round =>
                      clear BW UM M Ux Uy ZB0 ZB1 b_s BV2 ZB2 b_d ZB3 BV3 ZB5 b_r
                      obtain ⟨j, r_n, r_a, r_m, r_c, r_p, rfl, hj_, BW, UM, M, Ux, Uy, ZB0, ZB1, b_s, BV2, ZB2, b_d, ZB3, BV3, ZB5, b_r, t_r⟩ := hrel
                      obtain ⟨w18_, rfl⟩ : ∃ x, x = wr := ⟨wr, rfl⟩
                      by_cases hlt2 : (j : Int) < (N : Int)
                      · as_aux_lemma =>
                          obtain ⟨l2_, q2⟩ := Uy.out.cellg j (by omega)
                          obtain ⟨v0, v1⟩ := Uy.out.2.2.1 j
                          obtain ⟨y0, y1⟩ := UM.out.2.2.1 (i * N + j)
                          have vf := HYF.out j (by omega)
                          have yf := HFM.out i j (by omega) (by omega)
                          have hpp := HPP.out j
                          obtain ⟨v, hv⟩ : ∃ v, zY j = v := ⟨_, rfl⟩
                          obtain ⟨y, hy⟩ : ∃ v, zM (i * N + j) = v := ⟨_, rfl⟩
                          rw [hv] at q2 v0 v1 vf hpp
                          rw [hy] at y0 y1 yf hpp
                          have HY1 : Hid (_ = _) := hy
                          have HPJ : Hid (xv y * xv v = PP j * 268435456) := (xv_mul y v yf vf).trans (by rw [hpp])
                          clear hv hy vf yf hpp
                          obtain ⟨⟨b_r_0, b_r_1, b_r_2, b_r_3⟩, ⟨b_r_5, b_r_6, b_r_7, b_r_8⟩, b_r_4⟩ := b_r.out
                          obtain ⟨M_0, M_1, M_2, M_3, M_4⟩ := M.out
                          go_wp2_with fail
                          clear b_r_0 b_r_1 b_r_2 b_r_3 b_r_4 b_r_5 b_r_6 b_r_7 b_r_8 M_0 M_1 M_2 M_3 M_4
                          have HBa : Hid (Below w18_.heap.size w18_ w18_.drew) := (Below.refl _ _).drew
                          have hfz_ := fun (w' : World) (h : Below w18_.heap.size w18_ w') => b_r.out.below h
                          refine wp_region_noPanic ?_
                          refine AnyT.start (T := (fun w' => (w'.cell? ⟨k_M, 0, none⟩ = some (.int .i64 (N : Int)) ∧ w'.cell? ⟨k_M, 1, none⟩ = some (.int .i64 (N : Int)) ∧ w'.cell? ⟨k_M, 2, none⟩ = some (.int .i64 (N : Int)) ∧ w'.cell? ⟨k_M, 3, none⟩ = some (.slice (some ⟨gM, 0, none⟩) DD DD)) ∧ (w'.cell? ⟨gy, j, none⟩ = some (.int .u64 v)) ∧ (w'.cell? ⟨k_r, 0, none⟩ = some (.bool r_n) ∧ w'.cell? ⟨k_r, 1, none⟩ = some (.slice r_a r_m r_c) ∧ w'.cell? ⟨k_r, 2, none⟩ = some (.int .i64 r_p) ∧ w'.cell? ⟨k_r, 3, none⟩ = some (.slice none 0 0)))) (z := 13) (by kernel_rfl) ?_
                          have hHeld0 := (⟨(M.out.below HBa.out).cells, ((Below.cell HBa.out l2_).trans q2), (b_r.out.below HBa.out).cells⟩ : (fun w' => (w'.cell? ⟨k_M, 0, none⟩ = some (.int .i64 (N : Int)) ∧ w'.cell? ⟨k_M, 1, none⟩ = some (.int .i64 (N : Int)) ∧ w'.cell? ⟨k_M, 2, none⟩ = some (.int .i64 (N : Int)) ∧ w'.cell? ⟨k_M, 3, none⟩ = some (.slice (some ⟨gM, 0, none⟩) DD DD)) ∧ (w'.cell? ⟨gy, j, none⟩ = some (.int .u64 v)) ∧ (w'.cell? ⟨k_r, 0, none⟩ = some (.bool r_n) ∧ w'.cell? ⟨k_r, 1, none⟩ = some (.slice r_a r_m r_c) ∧ w'.cell? ⟨k_r, 2, none⟩ = some (.int .i64 r_p) ∧ w'.cell? ⟨k_r, 3, none⟩ = some (.slice none 0 0))) w18_.drew)
                          refine AnyT.take (i := 0) (oi := ({ dst := some 161, op := Op.load _ (Operand.tmp 21), type := _, pos := _, after := _, guard := none } : Oper)) (v := ?_) rfl (by kernel_rfl) (by kernel_rfl) (by kernel_rfl) (by kernel_rfl) (fun _ _ _ h => h) (Or.inl ⟨by rfl, ?_⟩) hHeld0 ?_
                          rotate_left
                          · intro w' hSw; (try dsimp only at hSw); go_simp <;> (try with_reducible rfl)
                          (try simp only [Act.put, List.setIfInBounds_toArray, List.set_cons_zero, List.set_cons_succ])
                          refine AnyT.take (i := 1) (oi := ({ dst := some 162, op := Op.load _ (Operand.tmp 7), type := _, pos := _, after := _, guard := none } : Oper)) (v := ?_) rfl (by kernel_rfl) (by kernel_rfl) (by kernel_rfl) (by kernel_rfl) (fun _ _ _ h => h) (Or.inl ⟨by rfl, ?_⟩) hHeld0 ?_
                          rotate_left
                          · intro w' hSw; (try dsimp only at hSw); go_simp <;> (try with_reducible rfl)
                          (try simp only [Act.put, List.setIfInBounds_toArray, List.set_cons_zero, List.set_cons_succ])
                          refine AnyT.take (i := 2) (oi := ({ dst := some 163, op := Op.move (Operand.tmp 20), type := _, pos := _, after := _, guard := none } : Oper)) (v := ?_) rfl (by kernel_rfl) (by kernel_rfl) (by kernel_rfl) (by kernel_rfl) (fun _ _ _ h => h) (Or.inl ⟨by rfl, ?_⟩) hHeld0 ?_
                          rotate_left
                          · intro w' hSw; (try dsimp only at hSw); go_simp <;> (try with_reducible rfl)
                          (try simp only [Act.put, List.setIfInBounds_toArray, List.set_cons_zero, List.set_cons_succ])
                          refine AnyT.take (i := 3) (oi := ({ dst := some 164, op := Op.move (Operand.tmp 22), type := _, pos := _, after := _, guard := none } : Oper)) (v := ?_) rfl (by kernel_rfl) (by kernel_rfl) (by kernel_rfl) (by kernel_rfl) (fun _ _ _ h => h) (Or.inl ⟨by rfl, ?_⟩) hHeld0 ?_
                          rotate_left
                          · intro w' hSw; (try dsimp only at hSw); go_simp <;> (try with_reducible rfl)
                          (try simp only [Act.put, List.setIfInBounds_toArray, List.set_cons_zero, List.set_cons_succ])
                          refine AnyT.take (i := 6) (oi := ({ dst := some 167, op := Op.move (Operand.tmp 11), type := _, pos := _, after := _, guard := none } : Oper)) (v := ?_) rfl (by kernel_rfl) (by kernel_rfl) (by kernel_rfl) (by kernel_rfl) (fun _ _ _ h => h) (Or.inl ⟨by rfl, ?_⟩) hHeld0 ?_
                          rotate_left
                          · intro w' hSw; (try dsimp only at hSw); go_simp <;> (try with_reducible rfl)
                          (try simp only [Act.put, List.setIfInBounds_toArray, List.set_cons_zero, List.set_cons_succ])
                          refine AnyT.take (i := 7) (oi := ({ dst := some 168, op := Op.move (Operand.tmp 22), type := _, pos := _, after := _, guard := none } : Oper)) (v := ?_) rfl (by kernel_rfl) (by kernel_rfl) (by kernel_rfl) (by kernel_rfl) (fun _ _ _ h => h) (Or.inl ⟨by rfl, ?_⟩) hHeld0 ?_
                          rotate_left
                          · intro w' hSw; (try dsimp only at hSw); go_simp <;> (try with_reducible rfl)
                          (try simp only [Act.put, List.setIfInBounds_toArray, List.set_cons_zero, List.set_cons_succ])
                          refine AnyT.take (i := 8) (oi := ({ dst := some 169, op := Op.indexAddr _ (Operand.tmp 167) (Operand.tmp 168), type := _, pos := _, after := _, guard := none } : Oper)) (v := ?_) rfl (by kernel_rfl) (by kernel_rfl) (by kernel_rfl) (by kernel_rfl) (fun _ _ _ h => h) (Or.inl ⟨by rfl, ?_⟩) hHeld0 ?_
                          rotate_left
                          · intro w' hSw; (try dsimp only at hSw); go_simp <;> (try with_reducible rfl)
                          (try simp only [Act.put, List.setIfInBounds_toArray, List.set_cons_zero, List.set_cons_succ])
                          refine AnyT.take (i := 9) (oi := ({ dst := some 170, op := Op.load _ (Operand.tmp 169), type := _, pos := _, after := _, guard := none } : Oper)) (v := ?_) rfl (by kernel_rfl) (by kernel_rfl) (by kernel_rfl) (by kernel_rfl) (fun _ _ _ h => h) (Or.inl ⟨by rfl, ?_⟩) hHeld0 ?_
                          rotate_left
                          · intro w' hSw; (try dsimp only at hSw); go_simp <;> (try with_reducible rfl)
                          (try simp only [Act.put, List.setIfInBounds_toArray, List.set_cons_zero, List.set_cons_succ])
                          refine AnyT.one (i := 4) (o := ({ dst := some 165, op := Op.call { callee := Callee.value (Operand.func _), args := #[Operand.tmp 162, Operand.tmp 163, Operand.tmp 164], argTypes := _ }, type := _, pos := _, after := _, guard := none } : Oper)) (by kernel_rfl) rfl (fun K hK => ?_)
                          go_simp
                          refine (mAtN N N N _ _ _ zM i j _ TM.out (UM.out.below HBa.out) (by omega) (by omega)).mono ?_
                          rintro e Wq0_ ⟨rfl, hb_⟩
                          rw [HY1.out]
                          replace HBa : Hid (Below w18_.heap.size w18_ Wq0_) := bstep HBa.out hb_
                          clear hb_
                          (try go_wp2_with fail)
                          refine hK.out _ _ (fun _ => ⟨(M.out.below HBa.out).cells, ((Below.cell HBa.out l2_).trans q2), (b_r.out.below HBa.out).cells⟩) (fun hHeld1 => ?_)
                          replace hHeld0 := hHeld1 (by decide)
                          clear hK K hHeld1
                          (try simp only [Act.put, List.setIfInBounds_toArray, List.set_cons_zero, List.set_cons_succ])
                          refine AnyT.one (i := 5) (o := ({ dst := some 166, op := Op.call { callee := Callee.value (Operand.func _), args := #[Operand.tmp 165], argTypes := _ }, type := _, pos := _, after := _, guard := none } : Oper)) (by kernel_rfl) rfl (fun K hK => ?_)
                          go_simp
                          refine (lExact y _ y0 y1).mono ?_
                          rintro e Wq1_ ⟨r3x1_v, rfl, ht_, hb_⟩
                          obtain ⟨r3x1_n, r3x1_a, r3x1_m, r3x1_c, r3x1_p, rfl, ht2_⟩ := ht_.numform
                          clear ht_
                          have t_r3x1 : Hid (Tell Wq1_ B5 (.agg #[.bool r3x1_n, .slice r3x1_a r3x1_m r3x1_c, .int .i64 r3x1_p, .slice none 0 0]) 17 17 (xv y)) := ht2_.base (Nat.le_trans ZB5.out (Below.size HBa.out))
                          clear ht2_
                          replace HBa : Hid (Below w18_.heap.size w18_ Wq1_) := bstep HBa.out hb_
                          clear hb_
                          (try go_wp2_with fail)
                          refine hK.out _ _ (fun _ => ⟨(M.out.below HBa.out).cells, ((Below.cell HBa.out l2_).trans q2), (b_r.out.below HBa.out).cells⟩) (fun hHeld1 => ?_)
                          replace hHeld0 := hHeld1 (by decide)
                          clear hK K hHeld1
                          (try simp only [Act.put, List.setIfInBounds_toArray, List.set_cons_zero, List.set_cons_succ])
                          refine AnyT.one (i := 10) (o := ({ dst := some 171, op := Op.call { callee := Callee.value (Operand.func _), args := #[Operand.tmp 170], argTypes := _ }, type := _, pos := _, after := _, guard := none } : Oper)) (by kernel_rfl) rfl (fun K hK => ?_)
                          go_simp
                          refine (lExact v _ v0 v1).mono ?_
                          rintro e Wq2_ ⟨r3x2_v, rfl, ht_, hb_⟩
                          obtain ⟨r3x2_n, r3x2_a, r3x2_m, r3x2_c, r3x2_p, rfl, ht2_⟩ := ht_.numform
                          clear ht_
                          have t_r3x2 : Hid (Tell Wq2_ B5 (.agg #[.bool r3x2_n, .slice r3x2_a r3x2_m r3x2_c, .int .i64 r3x2_p, .slice none 0 0]) 17 17 (xv v)) := ht2_.base (Nat.le_trans ZB5.out (Below.size HBa.out))
                          clear ht2_
                          replace t_r3x1 : Hid (Tell _ _ _ _ _ _) := t_r3x1.out.below hb_
                          replace HBa : Hid (Below w18_.heap.size w18_ Wq2_) := bstep HBa.out hb_
                          clear hb_
                          (try go_wp2_with fail)
                          refine hK.out _ _ (fun _ => ⟨(M.out.below HBa.out).cells, ((Below.cell HBa.out l2_).trans q2), (b_r.out.below HBa.out).cells⟩) (fun hHeld1 => ?_)
                          replace hHeld0 := hHeld1 (by decide)
                          clear hK K hHeld1
                          (try simp only [Act.put, List.setIfInBounds_toArray, List.set_cons_zero, List.set_cons_succ])
                          refine AnyT.one (i := 11) (o := ({ dst := some 172, op := Op.call { callee := Callee.value (Operand.func _), args := #[Operand.tmp 166, Operand.tmp 171], argTypes := _ }, type := _, pos := _, after := _, guard := none } : Oper)) (by kernel_rfl) rfl (fun K hK => ?_)
                          go_simp
                          refine (dMul _ _ _ B5 17 17 17 17 _ _ t_r3x1.out t_r3x2.out (by omega) (by omega) (by omega) (by omega) (by omega) (by omega)).mono ?_
                          rintro e Wq3_ ⟨r3x3_v, rfl, ht_, hb_⟩
                          obtain ⟨r3x3_n, r3x3_a, r3x3_m, r3x3_c, r3x3_p, rfl, ht2_⟩ := ht_.numform
                          clear ht_
                          have t_r3x3 : Hid (Tell Wq3_ B5 (.agg #[.bool r3x3_n, .slice r3x3_a r3x3_m r3x3_c, .int .i64 r3x3_p, .slice none 0 0]) 34 34 (xv y * xv v)) := ht2_.base (Nat.le_trans ZB5.out (Below.size HBa.out))
                          clear ht2_
                          replace t_r3x1 : Hid (Tell _ _ _ _ _ _) := t_r3x1.out.below hb_
                          replace t_r3x2 : Hid (Tell _ _ _ _ _ _) := t_r3x2.out.below hb_
                          replace HBa : Hid (Below w18_.heap.size w18_ Wq3_) := bstep HBa.out hb_
                          clear hb_
                          (try go_wp2_with fail)
                          refine hK.out _ _ (fun _ => ⟨(M.out.below HBa.out).cells, ((Below.cell HBa.out l2_).trans q2), (b_r.out.below HBa.out).cells⟩) (fun hHeld1 => ?_)
                          replace hHeld0 := hHeld1 (by decide)
                          clear hK K hHeld1
                          (try simp only [Act.put, List.setIfInBounds_toArray, List.set_cons_zero, List.set_cons_succ])
                          refine AnyT.one (i := 12) (o := ({ dst := some 173, op := Op.call { callee := Callee.value (Operand.func _), args := #[Operand.tmp 161, Operand.tmp 172], argTypes := _ }, type := _, pos := _, after := _, guard := none } : Oper)) (by kernel_rfl) rfl (fun K hK => ?_)
                          go_simp
                          refine (dAdd _ _ _ B5 34 (34 + (j : Int)) _ _ (t_r.out.below HBa.out) (t_r3x3.out.wide (34 + (j : Int)) (by omega)) (by omega) (by omega) (by omega)).mono ?_
                          rintro e Wq4_ ⟨r3x4_v, rfl, ht_, hb_⟩
                          obtain ⟨r3x4_n, r3x4_a, r3x4_m, r3x4_c, r3x4_p, rfl, ht2_⟩ := ht_.numform
                          clear ht_
                          have t_r3x4 : Hid (Tell Wq4_ B5 (.agg #[.bool r3x4_n, .slice r3x4_a r3x4_m r3x4_c, .int .i64 r3x4_p, .slice none 0 0]) 34 ((34 + (j : Int)) + 1) (fsum PP j * 268435456 + xv y * xv v)) := ht2_.base (Nat.le_trans ZB5.out (Below.size HBa.out))
                          clear ht2_
                          replace t_r3x1 : Hid (Tell _ _ _ _ _ _) := t_r3x1.out.below hb_
                          replace t_r3x2 : Hid (Tell _ _ _ _ _ _) := t_r3x2.out.below hb_
                          replace t_r3x3 : Hid (Tell _ _ _ _ _ _) := t_r3x3.out.below hb_
                          replace HBa : Hid (Below w18_.heap.size w18_ Wq4_) := bstep HBa.out hb_
                          clear hb_
                          (try go_wp2_with fail)
                          refine hK.out _ _ (fun _ => ⟨(M.out.below HBa.out).cells, ((Below.cell HBa.out l2_).trans q2), (b_r.out.below HBa.out).cells⟩) (fun hHeld1 => ?_)
                          replace hHeld0 := hHeld1 (by decide)
                          clear hK K hHeld1
                          (try simp only [Act.put, List.setIfInBounds_toArray, List.set_cons_zero, List.set_cons_succ])
                          refine AnyT.one (i := 13) (o := ({ dst := none, op := Op.store _ (Operand.tmp 21) (Operand.tmp 173), type := _, pos := _, after := _, guard := none } : Oper)) (by kernel_rfl) rfl (fun K hK => ?_)
                          clear hHeld0
                          obtain ⟨⟨z0_, z1_, z2_, z3_⟩, ⟨z5_, z6_, z7_, z8_⟩, z4_⟩ := hfz_ _ HBa.out
                          go_simp
                          refine hK.out _ _ (fun h => absurd rfl h) (fun _ => ?_)
                          clear hK K
                          (try simp only [Act.put, List.setIfInBounds_toArray, List.set_cons_zero, List.set_cons_succ])
                          refine AnyT.done (by kernel_rfl) ?_
                          refine NoPanic.normal ?_
                          have bs_ := bes_puts Wq4_ k_r (.bool r3x4_n) (.slice r3x4_a r3x4_m r3x4_c) (.int .i64 r3x4_p) (.slice none 0 0)
                          have mB_ := (b_r.out.below HBa.out).put (.bool r3x4_n) (.slice r3x4_a r3x4_m r3x4_c) (.int .i64 r3x4_p) (.slice none 0 0)
                          have tB_ := t_r3x4.out.put (b := k_r) KB_r.out (.bool r3x4_n) (.slice r3x4_a r3x4_m r3x4_c) (.int .i64 r3x4_p) (.slice none 0 0)
                          clear z0_ z1_ z2_ z3_ z4_ z5_ z6_ z7_ z8_ hfz_
                          replace BW : Hid (Below _ _ _) := bstep BW.out HBa.out
                          replace UM : Hid (URow _ _ _ _ _) := UM.out.below HBa.out
                          replace M : Hid (MBox _ _ _ _ _ _) := M.out.below HBa.out
                          replace Ux : Hid (URow _ _ _ _ _) := Ux.out.below HBa.out
                          replace Uy : Hid (URow _ _ _ _ _) := Uy.out.below HBa.out
                          replace ZB0 : Hid (_ ≤ _) := Nat.le_trans ZB0.out (Below.size HBa.out)
                          replace ZB1 : Hid (_ ≤ _) := Nat.le_trans ZB1.out (Below.size HBa.out)
                          replace b_s : Hid (BoxF _ _ _ _ _ _) := b_s.out.below HBa.out
                          replace BV2 : Hid (Below _ _ _) := bstep BV2.out HBa.out
                          replace ZB2 : Hid (_ ≤ _) := Nat.le_trans ZB2.out (Below.size HBa.out)
                          replace b_d : Hid (BoxF _ _ _ _ _ _) := b_d.out.below HBa.out
                          replace ZB3 : Hid (_ ≤ _) := Nat.le_trans ZB3.out (Below.size HBa.out)
                          replace BV3 : Hid (Below _ _ _) := bstep BV3.out HBa.out
                          replace ZB5 : Hid (_ ≤ _) := Nat.le_trans ZB5.out (Below.size HBa.out)
                          replace b_r : Hid (BoxF _ _ _ _ _ _) := b_r.out.below HBa.out
                          replace t_r : Hid (Tell _ _ _ _ _ _) := t_r.out.below HBa.out
                          replace BW : Hid (Below _ _ _) := Bes.old BW.out bs_ L_r.out
                          replace UM : Hid (URow _ _ _ _ _) := UM.out.puts A_rUM.out (.bool r3x4_n) (.slice r3x4_a r3x4_m r3x4_c) (.int .i64 r3x4_p) (.slice none 0 0)
                          replace M : Hid (MBox _ _ _ _ _ _) := M.out.bes bs_ (ne_some K_rM.out)
                          replace Ux : Hid (URow _ _ _ _ _) := Ux.out.puts A_rUx.out (.bool r3x4_n) (.slice r3x4_a r3x4_m r3x4_c) (.int .i64 r3x4_p) (.slice none 0 0)
                          replace Uy : Hid (URow _ _ _ _ _) := Uy.out.puts A_rUy.out (.bool r3x4_n) (.slice r3x4_a r3x4_m r3x4_c) (.int .i64 r3x4_p) (.slice none 0 0)
                          replace ZB0 : Hid (_ ≤ _) := Nat.le_trans ZB0.out (Bes.size bs_)
                          replace ZB1 : Hid (_ ≤ _) := Nat.le_trans ZB1.out (Bes.size bs_)
                          replace b_s : Hid (BoxF _ _ _ _ _ _) := b_s.out.puts (Ne.symm N_sr.out) (.bool r3x4_n) (.slice r3x4_a r3x4_m r3x4_c) (.int .i64 r3x4_p) (.slice none 0 0)
                          replace BV2 : Hid (Below _ _ _) := Bes.old BV2.out bs_ LBV2_r.out
                          replace ZB2 : Hid (_ ≤ _) := Nat.le_trans ZB2.out (Bes.size bs_)
                          replace b_d : Hid (BoxF _ _ _ _ _ _) := b_d.out.puts (Ne.symm N_dr.out) (.bool r3x4_n) (.slice r3x4_a r3x4_m r3x4_c) (.int .i64 r3x4_p) (.slice none 0 0)
                          replace ZB3 : Hid (_ ≤ _) := Nat.le_trans ZB3.out (Bes.size bs_)
                          replace BV3 : Hid (Below _ _ _) := Bes.old BV3.out bs_ LBV3_r.out
                          replace ZB5 : Hid (_ ≤ _) := Nat.le_trans ZB5.out (Bes.size bs_)
                          replace b_r : Hid (BoxF _ _ _ _ _ _) := mB_
                          replace t_r : Hid (Tell _ B5 (.agg #[.bool r3x4_n, .slice r3x4_a r3x4_m r3x4_c, .int .i64 r3x4_p, .slice none 0 0]) 34 ((34 + (j : Int)) + 1) (fsum PP j * 268435456 + xv y * xv v)) := tB_
                          clear mB_ tB_ bs_ HBa
                          generalize ((((Wq4_.setCell ⟨k_r, 0, none⟩ (.bool r3x4_n)).setCell ⟨k_r, 1, none⟩ (.slice r3x4_a r3x4_m r3x4_c)).setCell ⟨k_r, 2, none⟩ (.int .i64 r3x4_p)).setCell ⟨k_r, 3, none⟩ (.slice none 0 0)) = w19_ at BW UM M Ux Uy ZB0 ZB1 b_s BV2 ZB2 b_d ZB3 BV3 ZB5 b_r t_r ⊢
                          clear t_r3x1 t_r3x2 t_r3x3 t_r3x4
                          have TR2 : Hid (Tell _ B5 _ 34 (34 + ((j + 1 : Nat) : Int)) (fsum PP (j + 1) * 268435456)) := (t_r.out.wide _ (by omega)).eq (by
                            rw [HPJ.out]
                            show _ = (fsum PP j + PP j) * 268435456
                            rw [Int.add_mul])
                          clear t_r l2_ q2
                          go_wp2
                          go_roundw
                          case rel => exact ⟨j + 1, _, _, _, _, _, by go_num, by omega, BW, UM, M, Ux, Uy, ZB0, ZB1, b_s, BV2, ZB2, b_d, ZB3, BV3, ZB5, b_r, TR2⟩
                          case measure => simp [intOf]; omega
                      · obtain rfl : N = j := by omega
                        obtain ⟨A, hA⟩ : ∃ A, fsum PP N = A := ⟨_, rfl⟩
                        have sn2 := HNI.out
                        rw [hA] at sn2 t_r
                        obtain ⟨l3_, q3⟩ := Ux.out.cellg i (by omega)
                        obtain ⟨b0, b1⟩ := Ux.out.2.2.1 i
                        have bf := OK.out i (by omega)
                        obtain ⟨bv, hbv⟩ : ∃ v, zX i = v := ⟨_, rfl⟩
                        rw [hbv] at sn2 q3 b0 b1 bf
                        obtain ⟨cc, hcc⟩ : ∃ c, cmpZ (((A * 268435456 - xv bv * pw (34 - 17)).natAbs : Int) * pw (35 - 34)) ((QQ : Int) * 33554432 * ((SS : Int) * 16384)) = c := ⟨_, rfl⟩
                        have hc0 : cc ≤ 0 := by
                          rw [← hcc]
                          exact cmp_nonpos _ _ (piv_cmp A bv QQ SS bf sn2)
                        have HCC : Hid (_ = _) := hcc
                        have t_d : Hid (Tell w18_ 0 (.agg #[.bool r2x3_n, .slice r2x3_a r2x3_m r2x3_c, .int .i64 r2x3_p, .slice none 0 0]) 18 21 ((QQ : Int) * 33554432)) := FD3.out.below BV3.out
                        have t_s : Hid (Tell w18_ 0 (.agg #[.bool s_n, .slice s_a s_m s_c, .int .i64 s_p, .slice none 0 0]) 17 (17 + (N : Int)) ((SS : Int) * 16384)) := FS.out.below BV2.out
                        clear hcc hbv sn2 bf hA
                        obtain ⟨⟨b_r_0, b_r_1, b_r_2, b_r_3⟩, ⟨b_r_5, b_r_6, b_r_7, b_r_8⟩, b_r_4⟩ := b_r.out
                        obtain ⟨⟨b_d_0, b_d_1, b_d_2, b_d_3⟩, ⟨b_d_5, b_d_6, b_d_7, b_d_8⟩, b_d_4⟩ := b_d.out
                        obtain ⟨⟨b_s_0, b_s_1, b_s_2, b_s_3⟩, ⟨b_s_5, b_s_6, b_s_7, b_s_8⟩, b_s_4⟩ := b_s.out
                        go_wp2_with fail
                        clear b_r_0 b_r_1 b_r_2 b_r_3 b_r_4 b_r_5 b_r_6 b_r_7 b_r_8 b_d_0 b_d_1 b_d_2 b_d_3 b_d_4 b_d_5 b_d_6 b_d_7 b_d_8 b_s_0 b_s_1 b_s_2 b_s_3 b_s_4 b_s_5 b_s_6 b_s_7 b_s_8
                        have ct : Cnt 1 := Cnt.mk _
                        have dh : ∀ w : World, w.drew.heap = w.heap := fun _ => rfl
                        have HBa : Hid (Below w18_.heap.size w18_ w18_) := Below.refl _ _
                        go_region_held3 (fun w' => (w'.cell? ⟨gx, i, none⟩ = some (.int .u64 bv)) ∧ (w'.cell? ⟨k_r, 0, none⟩ = some (.bool r_n) ∧ w'.cell? ⟨k_r, 1, none⟩ = some (.slice r_a r_m r_c) ∧ w'.cell? ⟨k_r, 2, none⟩ = some (.int .i64 r_p) ∧ w'.cell? ⟨k_r, 3, none⟩ = some (.slice none 0 0)) ∧ (w'.cell? ⟨k_d, 0, none⟩ = some (.bool r2x3_n) ∧ w'.cell? ⟨k_d, 1, none⟩ = some (.slice r2x3_a r2x3_m r2x3_c) ∧ w'.cell? ⟨k_d, 2, none⟩ = some (.int .i64 r2x3_p) ∧ w'.cell? ⟨k_d, 3, none⟩ = some (.slice none 0 0)) ∧ (w'.cell? ⟨k_s, 0, none⟩ = some (.bool s_n) ∧ w'.cell? ⟨k_s, 1, none⟩ = some (.slice s_a s_m s_c) ∧ w'.cell? ⟨k_s, 2, none⟩ = some (.int .i64 s_p) ∧ w'.cell? ⟨k_s, 3, none⟩ = some (.slice none 0 0))) (exact ⟨((Below.cell (by with_reducible repeat (first | (refine Below.drew ?_) | (refine bmore ?_ _) | exact HBa.out | exact Below.refl _ _)) l3_).trans q3), (b_r.out.below (by with_reducible repeat (first | (refine Below.drew ?_) | (refine bmore ?_ _) | exact HBa.out | exact Below.refl _ _))).cells, (b_d.out.below (by with_reducible repeat (first | (refine Below.drew ?_) | (refine bmore ?_ _) | exact HBa.out | exact Below.refl _ _))).cells, (b_s.out.below (by with_reducible repeat (first | (refine Below.drew ?_) | (refine bmore ?_ _) | exact HBa.out | exact Below.refl _ _))).cells⟩) (first | (have ck : Cnt 1 := ct; go_at_call 11; refine (lExact bv _ b0 b1).mono ?_; rintro e Wq0_ ⟨r3x0_v, rfl, ht_, hb_⟩; obtain ⟨r3x0_n, r3x0_a, r3x0_m, r3x0_c, r3x0_p, rfl, ht2_⟩ := ht_.numform; clear ht_; obtain ⟨pc0, pf0⟩ := bcell hb_; have hr0 : ∀ b, b < _ → b < Wq0_.heap.size := (fun b h => Nat.lt_of_lt_of_le h hb_.size); have hq0 := hb_.size; (try simp [dh] at hq0); have hbt_ : Below w18_.heap.size w18_ Wq0_ := bstep (by with_reducible repeat (first | (refine Below.drew ?_) | (refine bmore ?_ _) | exact (Below.refl _ _) | exact Below.refl _ _)) hb_; have t_r3x0 : Hid (Tell Wq0_ B5 (.agg #[.bool r3x0_n, .slice r3x0_a r3x0_m r3x0_c, .int .i64 r3x0_p, .slice none 0 0]) 17 17 (xv bv)) := ht2_.base (Nat.le_trans ZB5.out (Below.size (B := w18_.heap.size) (by with_reducible repeat (first | (refine Below.drew ?_) | (refine bmore ?_ _) | exact HBa.out | exact Below.refl _ _)))); clear ht2_; replace HBa : Hid (Below w18_.heap.size w18_ Wq0_) := bstep HBa.out hbt_; have hsz0 := HBa.out.size; (try (have hT00 : w18_.heap.size < Wq0_.heap.size := by omega)); replace ct : Cnt 2 := Cnt.mk _; clear hb_ hbt_ ck) | (have ck : Cnt 2 := ct; go_at_call 17; refine (dSub _ _ _ B5 34 (34 + (N : Int)) _ _ (t_r.out.below (by with_reducible repeat (first | (refine Below.drew ?_) | (refine bmore ?_ _) | exact HBa.out | exact Below.refl _ _))) ((t_r3x0.out.below (by with_reducible repeat (first | (refine Below.drew ?_) | (refine bmore ?_ _) | exact (Below.refl _ _) | exact Below.refl _ _))).up 34 (34 + (N : Int)) (by omega) (by omega)) (by omega) (by omega) (by omega)).mono ?_; rintro e Wq1_ ⟨r3x1_v, rfl, ht_, hb_⟩; obtain ⟨r3x1_n, r3x1_a, r3x1_m, r3x1_c, r3x1_p, rfl, ht2_⟩ := ht_.numform; clear ht_; obtain ⟨pc1, pf1⟩ := bcell hb_; have hr1 : ∀ b, b < _ → b < Wq1_.heap.size := (fun b h => Nat.lt_of_lt_of_le h hb_.size); have hq1 := hb_.size; (try simp [dh] at hq1); have hbt_ : Below Wq0_.heap.size Wq0_ Wq1_ := bstep (by with_reducible repeat (first | (refine Below.drew ?_) | (refine bmore ?_ _) | exact (Below.refl _ _) | exact Below.refl _ _)) hb_; have t_r3x1 : Hid (Tell Wq1_ B5 (.agg #[.bool r3x1_n, .slice r3x1_a r3x1_m r3x1_c, .int .i64 r3x1_p, .slice none 0 0]) 34 ((34 + (N : Int)) + 1) (A * 268435456 - xv bv * pw (34 - 17))) := ht2_.base (Nat.le_trans ZB5.out (Below.size (B := w18_.heap.size) (by with_reducible repeat (first | (refine Below.drew ?_) | (refine bmore ?_ _) | exact HBa.out | exact Below.refl _ _)))); clear ht2_; replace t_r3x0 : Hid (Tell _ _ _ _ _ _) := t_r3x0.out.below hbt_; replace HBa : Hid (Below w18_.heap.size w18_ Wq1_) := bstep HBa.out hbt_; have hsz1 := HBa.out.size; (try (have hT10 : w18_.heap.size < Wq1_.heap.size := by omega)); (try (have hT11 : Wq0_.heap.size < Wq1_.heap.size := by omega)); replace ct : Cnt 3 := Cnt.mk _; clear hb_ hbt_ ck) | (have ck : Cnt 3 := ct; go_at_call 14; refine (dAbs _ _ B5 34 ((34 + (N : Int)) + 1) _ (t_r3x1.out.below (by with_reducible repeat (first | (refine Below.drew ?_) | (refine bmore ?_ _) | exact (Below.refl _ _) | exact Below.refl _ _))) (by omega) (by omega)).mono ?_; rintro e Wq2_ ⟨r3x2_v, rfl, ht_, hb_⟩; obtain ⟨r3x2_n, r3x2_a, r3x2_m, r3x2_c, r3x2_p, rfl, ht2_⟩ := ht_.numform; clear ht_; obtain ⟨pc2, pf2⟩ := bcell hb_; have hr2 : ∀ b, b < _ → b < Wq2_.heap.size := (fun b h => Nat.lt_of_lt_of_le h hb_.size); have hq2 := hb_.size; (try simp [dh] at hq2); have hbt_ : Below Wq1_.heap.size Wq1_ Wq2_ := bstep (by with_reducible repeat (first | (refine Below.drew ?_) | (refine bmore ?_ _) | exact (Below.refl _ _) | exact Below.refl _ _)) hb_; have t_r3x2 : Hid (Tell Wq2_ B5 (.agg #[.bool r3x2_n, .slice r3x2_a r3x2_m r3x2_c, .int .i64 r3x2_p, .slice none 0 0]) 34 ((34 + (N : Int)) + 1) (((A * 268435456 - xv bv * pw (34 - 17)).natAbs : Int))) := ht2_.base (Nat.le_trans ZB5.out (Below.size (B := w18_.heap.size) (by with_reducible repeat (first | (refine Below.drew ?_) | (refine bmore ?_ _) | exact HBa.out | exact Below.refl _ _)))); clear ht2_; replace t_r3x0 : Hid (Tell _ _ _ _ _ _) := t_r3x0.out.below hbt_; replace t_r3x1 : Hid (Tell _ _ _ _ _ _) := t_r3x1.out.below hbt_; replace HBa : Hid (Below w18_.heap.size w18_ Wq2_) := bstep HBa.out hbt_; have hsz2 := HBa.out.size; (try (have hT20 : w18_.heap.size < Wq2_.heap.size := by omega)); (try (have hT21 : Wq0_.heap.size < Wq2_.heap.size := by omega)); (try (have hT22 : Wq1_.heap.size < Wq2_.heap.size := by omega)); replace ct : Cnt 4 := Cnt.mk _; clear hb_ hbt_ ck) | (have ck : Cnt 4 := ct; go_at_call 12; refine (dMul _ _ _ 0 18 17 21 (17 + (N : Int)) _ _ (t_d.out.below (by with_reducible repeat (first | (refine Below.drew ?_) | (refine bmore ?_ _) | exact HBa.out | exact Below.refl _ _))) (t_s.out.below (by with_reducible repeat (first | (refine Below.drew ?_) | (refine bmore ?_ _) | exact HBa.out | exact Below.refl _ _))) (by omega) (by omega) (by omega) (by omega) (by omega) (by omega)).mono ?_; rintro e Wq3_ ⟨r3x3_v, rfl, ht_, hb_⟩; obtain ⟨r3x3_n, r3x3_a, r3x3_m, r3x3_c, r3x3_p, rfl, ht2_⟩ := ht_.numform; clear ht_; obtain ⟨pc3, pf3⟩ := bcell hb_; have hr3 : ∀ b, b < _ → b < Wq3_.heap.size := (fun b h => Nat.lt_of_lt_of_le h hb_.size); have hq3 := hb_.size; (try simp [dh] at hq3); have hbt_ : Below Wq2_.heap.size Wq2_ Wq3_ := bstep (by with_reducible repeat (first | (refine Below.drew ?_) | (refine bmore ?_ _) | exact (Below.refl _ _) | exact Below.refl _ _)) hb_; have t_r3x3 : Hid (Tell Wq3_ B5 (.agg #[.bool r3x3_n, .slice r3x3_a r3x3_m r3x3_c, .int .i64 r3x3_p, .slice none 0 0]) 35 (21 + (17 + (N : Int))) ((QQ : Int) * 33554432 * ((SS : Int) * 16384))) := ht2_.base (Nat.le_trans ZB5.out (Below.size (B := w18_.heap.size) (by with_reducible repeat (first | (refine Below.drew ?_) | (refine bmore ?_ _) | exact HBa.out | exact Below.refl _ _)))); clear ht2_; replace t_r3x0 : Hid (Tell _ _ _ _ _ _) := t_r3x0.out.below hbt_; replace t_r3x1 : Hid (Tell _ _ _ _ _ _) := t_r3x1.out.below hbt_; replace t_r3x2 : Hid (Tell _ _ _ _ _ _) := t_r3x2.out.below hbt_; replace HBa : Hid (Below w18_.heap.size w18_ Wq3_) := bstep HBa.out hbt_; have hsz3 := HBa.out.size; (try (have hT30 : w18_.heap.size < Wq3_.heap.size := by omega)); (try (have hT31 : Wq0_.heap.size < Wq3_.heap.size := by omega)); (try (have hT32 : Wq1_.heap.size < Wq3_.heap.size := by omega)); (try (have hT33 : Wq2_.heap.size < Wq3_.heap.size := by omega)); replace ct : Cnt 5 := Cnt.mk _; clear hb_ hbt_ ck) | (have ck : Cnt 5 := ct; go_at_call 18; refine (dCmp _ _ _ 0 35 (38 + (N : Int)) _ _ (((t_r3x2.out.below (by with_reducible repeat (first | (refine Below.drew ?_) | (refine bmore ?_ _) | exact (Below.refl _ _) | exact Below.refl _ _))).base (Nat.zero_le _)).up 35 (38 + (N : Int)) (by omega) (by omega)) (((t_r3x3.out.below (by with_reducible repeat (first | (refine Below.drew ?_) | (refine bmore ?_ _) | exact (Below.refl _ _) | exact Below.refl _ _))).base (Nat.zero_le _)).wide (38 + (N : Int)) (by omega)) (by omega) (by omega)).mono ?_; rintro e Wq4_ ⟨rfl, hb_⟩; rw [HCC.out]; obtain ⟨pc4, pf4⟩ := bcell hb_; have hr4 : ∀ b, b < _ → b < Wq4_.heap.size := (fun b h => Nat.lt_of_lt_of_le h hb_.size); have hq4 := hb_.size; (try simp [dh] at hq4); have hbt_ : Below Wq3_.heap.size Wq3_ Wq4_ := bstep (by with_reducible repeat (first | (refine Below.drew ?_) | (refine bmore ?_ _) | exact (Below.refl _ _) | exact Below.refl _ _)) hb_; replace t_r3x0 : Hid (Tell _ _ _ _ _ _) := t_r3x0.out.below hbt_; replace t_r3x1 : Hid (Tell _ _ _ _ _ _) := t_r3x1.out.below hbt_; replace t_r3x2 : Hid (Tell _ _ _ _ _ _) := t_r3x2.out.below hbt_; replace t_r3x3 : Hid (Tell _ _ _ _ _ _) := t_r3x3.out.below hbt_; replace HBa : Hid (Below w18_.heap.size w18_ Wq4_) := bstep HBa.out hbt_; have hsz4 := HBa.out.size; (try (have hT40 : w18_.heap.size < Wq4_.heap.size := by omega)); (try (have hT41 : Wq0_.heap.size < Wq4_.heap.size := by omega)); (try (have hT42 : Wq1_.heap.size < Wq4_.heap.size := by omega)); (try (have hT43 : Wq2_.heap.size < Wq4_.heap.size := by omega)); (try (have hT44 : Wq3_.heap.size < Wq4_.heap.size := by omega)); replace ct : Cnt 6 := Cnt.mk _; clear hb_ hbt_ ck))
                        replace BW : Hid (Below _ _ _) := bstep BW.out HBa.out
                        replace UM : Hid (URow _ _ _ _ _) := UM.out.below HBa.out
                        replace M : Hid (MBox _ _ _ _ _ _) := M.out.below HBa.out
                        replace Ux : Hid (URow _ _ _ _ _) := Ux.out.below HBa.out
                        replace Uy : Hid (URow _ _ _ _ _) := Uy.out.below HBa.out
                        replace ZB0 : Hid (_ ≤ _) := Nat.le_trans ZB0.out (Below.size HBa.out)
                        replace ZB1 : Hid (_ ≤ _) := Nat.le_trans ZB1.out (Below.size HBa.out)
                        replace b_s : Hid (BoxF _ _ _ _ _ _) := b_s.out.below HBa.out
                        replace BV2 : Hid (Below _ _ _) := bstep BV2.out HBa.out
                        replace ZB2 : Hid (_ ≤ _) := Nat.le_trans ZB2.out (Below.size HBa.out)
                        replace b_d : Hid (BoxF _ _ _ _ _ _) := b_d.out.below HBa.out
                        replace ZB3 : Hid (_ ≤ _) := Nat.le_trans ZB3.out (Below.size HBa.out)
                        replace BV3 : Hid (Below _ _ _) := bstep BV3.out HBa.out
                        replace ZB5 : Hid (_ ≤ _) := Nat.le_trans ZB5.out (Below.size HBa.out)
                        replace b_r : Hid (BoxF _ _ _ _ _ _) := b_r.out.below HBa.out
                        replace t_r : Hid (Tell _ _ _ _ _ _) := t_r.out.below HBa.out
                        replace t_d : Hid (Tell _ _ _ _ _ _) := t_d.out.below HBa.out
                        replace t_s : Hid (Tell _ _ _ _ _ _) := t_s.out.below HBa.out
                        clear HBa ct dh t_r3x0 t_r3x1 t_r3x2 t_r3x3 pc0 pf0 hr0 hq0 hsz0 pc1 pf1 hr1 hq1 hsz1 pc2 pf2 hr2 hq2 hsz2 pc3 pf3 hr3 hq3 hsz3 pc4 pf4 hr4 hq4 hsz4
                        go_wp2
                        go_roundw
                        case rel => exact ⟨i + 1, by go_num, by omega, BW, UM, M, Ux, Uy, ZB0, ZB1, b_s, BV2, ZB2, b_d, ZB3, BV3⟩
                        case measure => simp [intOf]; omega
                · obtain rfl : N = i := by omega
                  go_wp2
                  go_ret
                  exact ⟨ret_eq rfl, BW.out⟩

/-! ### THE ROW's STEP: WRITTEN OUT: LEAVE IT -/
set_option maxRecDepth 100000 in
theorem lifted (os : Os) (started : os.Started) (H : Type) (enc : TypeId × Value → H) :
    ReturnsInHanded {} Tryz.checked os 4 .any (Rows.solvePivotsSpec.pre6 enc Tryz.prog Tryz.f4 Rows.solvePivotsRow.domain false) (Rows.solvePivotsSpec.post enc Tryz.prog Tryz.f4 false true false false) := by
  refine returnsInHanded_of_change (C := Tryz.checked) own started (by kernel_rfl) Tryz.func4
    (ChangeSpec.witness6 (enc := enc) (C := Tryz.checked) false ⟨#[], #[.int .i64 0, .slice none 0 0, .int .u64 0], []⟩ 8 (by kernel_rfl) (by kernel_rfl) (by kernel_rfl) (by kernel_rfl)) ?_
  intro W base args ds gs before hval0 hW hcnd _
  have hval : ∀ (j : Nat) t v, Tryz.f4.params[j]? = some t → args[j]? = some v → Value.okWide Tryz.prog W .any base t v := hval0
  have hW' := hW
  obtain ⟨p, q, hA0, hV, rfl, hfz, hnd⟩ := hW
  have hA : DataW.TrodAll enc Tryz.prog W 0 (fun _ => true) true Tryz.f4.params.toList args.toList ds p := hA0
  rw [Tryz.params4] at hA hval
  obtain ⟨v0, vs0, d0, ds0, p0, q0, hargs, rfl, rfl, h0, r0⟩ := trodAll_cons hA
  obtain ⟨v1, vs1, d1, ds1, p1, q1, rfl, rfl, rfl, h1, r1⟩ := trodAll_cons r0
  obtain ⟨v2, vs2, d2, ds2, p2, q2, rfl, rfl, rfl, h2, r2⟩ := trodAll_cons r1
  obtain ⟨rfl, rfl, rfl⟩ := trodAll_nil r2
  obtain rfl : args = #[v0, v1, v2] := by cases args; simp_all
  obtain ⟨rfl, rfl⟩ := trodVars_none hV
  obtain ⟨a0, rfl, rfl, rfl, w0⟩ := open_int Tryz.underlying3 (hval 0 3 v0 rfl rfl) h0
  obtain ⟨a1, len1, cap1, rfl⟩ := okWide_slice Tryz.underlying22 (hval 1 22 v1 rfl rfl)
  have k1 := h1
  have lt1 : ∀ x ∈ p1, x.block < W.heap.size := by obtain ⟨m, hm⟩ := k1; exact DataW.trod_lt m _ _ _ hm
  obtain ⟨z1, w1⟩ : ∃ zs, IsRow .u64 W a1 len1 cap1 zs := by
    obtain ⟨fuel, hf⟩ := h1
    rcases open_ints Tryz.underlying22 Tryz.underlying36 (by kernel_rfl) hf with ⟨hcs, _⟩ | ⟨x, l, c, zs, hcs, _, hl, hm, hz, _, hcell, hwz⟩
    · simp [Value.cells] at hcs
      obtain ⟨rfl, rfl, rfl⟩ := hcs
      exact ⟨[], .inl ⟨rfl, rfl, rfl, rfl⟩⟩
    · simp [Value.cells] at hcs
      obtain ⟨rfl, rfl, rfl⟩ := hcs
      exact ⟨zs, .inr ⟨_, rfl, hl, hm, by simpa using hz, hcell, hwz⟩⟩
  obtain ⟨a2, rfl, rfl, rfl, w2⟩ := open_int Tryz.underlying36 (hval 2 36 v2 rfl rfl) h2
  clear hA0 hval0
  refine (walk a0 a1 len1 cap1 z1 a2 W w0 w1 w2).mono fun e W' ⟨he, bel⟩ => ?_
  subst he
  exact ⟨_, rfl, _, _, _, [], _, [], hW', trodAll_mk1 (shut_bool Tryz.underlying4 _), (trodAll_cons_mk (shut_int Tryz.underlying3 w0) (trodAll_cons_mk (Below.trod laidOut (by kernel_rfl) (of_decide_eq_true (by kernel_rfl)) k1 bel lt1) (trodAll_cons_mk (shut_int Tryz.underlying36 w2) trodAll_mk0))), rfl, bel.frame _, fun h => by cases h⟩

theorem over : Rows.solvePivotsRow.holds Tryz.pinned (OpenSpec.ofChange Rows.solvePivotsSpec) :=
  OpenClaim.holds_of_wide 4 Tryz.f4 rfl rfl rfl rfl rfl rfl rfl ⟨rfl, rfl, rfl, rfl, rfl⟩ rfl rfl rfl rfl rfl (by kernel_rfl) Tryz.func4 (by kernel_rfl)
    (of_decide_eq_true (by kernel_rfl)) (by unfold Func.isWrapper; first | (rw [if_pos (by decide +kernel)]; kernel_rfl) | (rw [if_neg (by decide +kernel)]; exact ⟨rfl, rfl⟩))
    (fun os started H enc _ => lifted os started H enc)

/-- ████ THE STATEMENT ████ -/
theorem proved : Rows.SolvePivotsSaid := over
#print axioms proved
end Go.Proofs.YtpakpgjbgehhjaaGreat.solvePivots
