/-
  The law MulSteps returns true at every input (any sizes, any slice of patterns, any pattern, any stride), and leaves its arguments as they were. No conditions.
-/
import Derived.Test.YtpakpgjbgehhjaaRows
import Derived.WalkKit
import Derived.ProofKit
import Derived.OpenShut
import Derived.Test.YtpakpgjbgehhjaaGrT
import Derived.Test.YtpakpgjbgehhjaaGrU
import Derived.ShutString
import Derived.ChangeOld
import Derived.Below
namespace Go.Proofs.Ytpakpgjbgehhjaa.mulSteps
open Go.ChangeShapes Go.WideShapes Go.ChangeAt Go.RowKit
open Go.ChangeMaps (open_string shut_string)
set_option linter.unusedVariables false

theorem own : ownKnob Try.prog.godebug = none := by kernel_rfl
theorem laidOut : laidOutB Try.prog = true := by kernel_rfl

/-- WHAT THE WALK IS TOLD OF A SLICE OF INTEGERS THAT CAME IN: it is nil; or it leads to a row of 'cap' cells, the numbers 'zs' (the first 'len' are its elements, the rest its spare room), each fitting its kind. -/
def IsRow (k : IntKind) (w : World) (a : Option Addr) (len cap : Nat) (zs : List Int) : Prop :=
  (a = none ∧ len = 0 ∧ cap = 0 ∧ zs = []) ∨
  ∃ x, a = some x ∧ len ≤ cap ∧ cap ≤ maxLen ∧ zs.length = cap ∧ (∀ i, i < zs.length → w.cell? (x.add i) = some (.int k (zs.getD i 0))) ∧ ∀ n ∈ zs, (Lit.int k n).wf = true

set_option linter.unusedSimpArgs false
theorem row_of (w : World) (a : Option Addr) (len cap : Nat) (zs : List Int) (h : IsRow .u64 w a len cap zs) : URow w a len cap (fun i => zs.getD i 0) := by
  rcases h with ⟨rfl, rfl, rfl, rfl⟩ | ⟨x, rfl, h1, h2, h3, h4, h5⟩
  · exact ⟨Nat.le_refl _, Nat.zero_le _, fun i => by simp, fun h => absurd h (Nat.lt_irrefl 0)⟩
  · refine ⟨h1, h2, fun i => ?_, fun hp => ?_⟩
    · show 0 ≤ zs.getD i 0 ∧ zs.getD i 0 < 18446744073709551616
      rcases Nat.lt_or_ge i zs.length with g | g
      · have hm : zs.getD i 0 ∈ zs := by
          rw [List.getD_eq_getElem?_getD, List.getElem?_eq_getElem g]
          exact List.getElem_mem g
        obtain ⟨q1, q2⟩ := bounds_u64 (h5 _ hm)
        exact ⟨q1, by omega⟩
      · rw [List.getD_eq_getElem?_getD, List.getElem?_eq_none g]
        simp
    · obtain ⟨b, o, s⟩ := x
      have hs : s = none := by simpa [Addr.add] using World.cell?_spot (h4 0 (by omega))
      subst hs
      have hb : b < w.heap.size := by
        have := World.block_lt_of_cell? _ _ (h4 0 (by omega))
        simpa [Addr.add] using this
      refine ⟨b, o, rfl, hb, fun i hi => ?_⟩
      have := h4 i (by omega)
      rw [add_plain] at this
      exact this
set_option maxRecDepth 100000 in
set_option maxHeartbeats 8000000 in
theorem walk (a0 : Int) (a1 : Int) (a2 : Int) (a3 : Option Addr) (len3 cap3 : Nat) (z3 : List Int) (a4 : Int) (a5 : Int) (w : World) (w0 : (Lit.int .i64 a0).wf = true) (w1 : (Lit.int .i64 a1).wf = true) (w2 : (Lit.int .i64 a2).wf = true) (w3 : IsRow .u64 w a3 len3 cap3 z3) (w4 : (Lit.int .u64 a4).wf = true) (w5 : (Lit.int .i64 a5).wf = true) :
    Calls Try.prog 3 #[.int .i64 a0, .int .i64 a1, .int .i64 a2, .slice a3 len3 cap3, .int .u64 a4, .int .i64 a5] w fun e w' => e = .returned (.bool true) ∧ Below w.heap.size w w' := by
  have hr := row_of w a3 len3 cap3 z3 w3
  generalize (fun i => z3.getD i 0) = U at hr
  obtain ⟨al0, al1'⟩ := bounds_u64 w4
  have al1 : a4 < 18446744073709551616 := by omega
  clear w0 w1 w2 w3 w4 w5 al1'
  have a0e := and_7_i a0
  have a1e := and_7_i a1
  have a2e := and_7_i a2
  have a5e := and_7_i a5
  obtain ⟨P, hP⟩ : ∃ R : Nat, (R : Int) = a0 % 8 := ⟨(a0 % 8).toNat, by omega⟩
  obtain ⟨Q, hQ⟩ : ∃ R : Nat, (R : Int) = a1 % 8 := ⟨(a1 % 8).toNat, by omega⟩
  obtain ⟨R, hR⟩ : ∃ R : Nat, (R : Int) = a2 % 8 := ⟨(a2 % 8).toNat, by omega⟩
  obtain ⟨T, hT⟩ : ∃ R : Nat, (R : Int) = a5 % 8 := ⟨(a5 % 8).toNat, by omega⟩
  rw [← hP] at a0e
  rw [← hQ] at a1e
  rw [← hR] at a2e
  rw [← hT] at a5e
  have hP7 : P ≤ 7 := by omega
  have hQ7 : Q ≤ 7 := by omega
  have hR7 : R ≤ 7 := by omega
  have hT7 : T ≤ 7 := by omega
  clear hP hQ hR hT
  have hPQ : P * Q ≤ 49 := Nat.mul_le_mul hP7 hQ7
  have hPR : P * R ≤ 49 := Nat.mul_le_mul hP7 hR7
  have hQR : Q * R ≤ 49 := Nat.mul_le_mul hQ7 hR7
  have hRQ : R * Q ≤ 49 := Nat.mul_le_mul hR7 hQ7
  obtain ⟨lx, cx⟩ := hr.lenB
  have HR : Hid (URow _ _ _ _ _) := hr
  clear hr
  by_cases hl : 100 < len3
  · have hl2 : (100 : Int) < (len3 : Int) := by omega
    go_enter Try.func3, Try.ntmps3
    go_wp2_with fail
    refine (lHead11 _).mono ?_
    rintro e w1 ⟨rfl, hb1⟩
    go_wp2
    go_ret
    exact ⟨ret_eq rfl, hb1⟩
  have hl2 : ¬ (100 : Int) < (len3 : Int) := by omega
  have hdl : decide ((100 : Int) < (len3 : Int)) = false := decide_eq_false hl2
  obtain ⟨zX, hzX⟩ : ∃ z : Nat → Int, z = mC U len3 0 0 := ⟨_, rfl⟩
  obtain ⟨zY, hzY⟩ : ∃ z : Nat → Int, z = mC U len3 3 0 := ⟨_, rfl⟩
  obtain ⟨zV, hzV⟩ : ∃ z : Nat → Int, z = mC U len3 5 0 := ⟨_, rfl⟩
  obtain ⟨zW, hzW⟩ : ∃ z : Nat → Int, z = mC U len3 1 0 := ⟨_, rfl⟩
  have HzX : Hid (_ = _) := hzX
  have HzY : Hid (_ = _) := hzY
  have HzV : Hid (_ = _) := hzV
  have HzW : Hid (_ = _) := hzW
  clear hzX hzY hzV hzW
  have TX : Hid (Rgt (P : Int) (Q : Int) (Q : Int) (P * Q)) := tight P Q (by omega) (by omega)
  have TY : Hid (Rgt (Q : Int) (R : Int) (R : Int) (Q * R)) := tight Q R (by omega) (by omega)
  go_enter Try.func3, Try.ntmps3
  go_wp2_with fail
  refine (lHead11 _).mono ?_
  rintro e w1 ⟨rfl, hb1⟩
  have BW : Hid (Below w.heap.size w w1) := hb1
  have UA : Hid (URow w1 a3 len3 cap3 U) := HR.out.below hb1
  clear hb1 HR
  go_wp2_with fail
  refine (lMade11 P Q 0 a3 len3 cap3 U _ UA.out (by omega) (by omega) (by omega) (by omega)).mono ?_
  rintro e w1_ ⟨gX, rfl, _, hU_, hb1_⟩
  rw [← HzX.out] at hU_
  replace BW : Hid (Below _ _ _) := bstep BW.out hb1_
  replace UA : Hid (URow _ _ _ _ _) := UA.out.below hb1_
  clear hb1_
  have UX : Hid (URow w1_ (some ⟨gX, 0, none⟩) (P * Q) (P * Q) zX) := hU_
  clear hU_
  go_wp2_with fail
  have m_ := WBox.made w1_ (P : Int) (Q : Int) (Q : Int) (.slice (some ⟨gX, 0, none⟩) (P * Q) (P * Q))
  have b_ : Below w1_.heap.size w1_ (w1_.alloc (.cells #[.int .i64 (P : Int), .int .i64 (Q : Int), .int .i64 (Q : Int), .slice (some ⟨gX, 0, none⟩) (P * Q) (P * Q)] 26)) := (Below.refl _ _).alloc (Nat.le_refl _) _
  obtain ⟨k_X, hk_X⟩ : ∃ k, k = w1_.heap.size := ⟨_, rfl⟩
  have L_X : Hid (w.heap.size ≤ k_X) := by rw [hk_X]; exact BW.out.size
  rw [← hk_X] at m_ ⊢
  generalize (w1_.alloc (.cells #[.int .i64 (P : Int), .int .i64 (Q : Int), .int .i64 (Q : Int), .slice (some ⟨gX, 0, none⟩) (P * Q) (P * Q)] 26)) = w2_ at m_ b_ ⊢
  replace BW : Hid (Below _ _ _) := bstep BW.out b_
  replace UA : Hid (URow _ _ _ _ _) := UA.out.below b_
  replace UX : Hid (URow _ _ _ _ _) := UX.out.below b_
  have X : Hid (WBox w2_ k_X (P : Int) (Q : Int) (Q : Int) (.slice (some ⟨gX, 0, none⟩) (P * Q) (P * Q))) := m_
  clear m_ b_ hk_X
  refine (lMade11 Q R 3 a3 len3 cap3 U _ UA.out (by omega) (by omega) (by omega) (by omega)).mono ?_
  rintro e w3_ ⟨gY, rfl, _, hU_, hb3_⟩
  rw [← HzY.out] at hU_
  replace BW : Hid (Below _ _ _) := bstep BW.out hb3_
  replace UA : Hid (URow _ _ _ _ _) := UA.out.below hb3_
  replace UX : Hid (URow _ _ _ _ _) := UX.out.below hb3_
  replace X : Hid (WBox _ _ _ _ _ _) := X.out.below hb3_
  clear hb3_
  have UY : Hid (URow w3_ (some ⟨gY, 0, none⟩) (Q * R) (Q * R) zY) := hU_
  clear hU_
  go_wp2_with fail
  have m_ := MBox.made w3_ (Q : Int) (R : Int) (R : Int) (.slice (some ⟨gY, 0, none⟩) (Q * R) (Q * R))
  have b_ : Below w3_.heap.size w3_ (w3_.alloc (.cells #[.int .i64 (Q : Int), .int .i64 (R : Int), .int .i64 (R : Int), .slice (some ⟨gY, 0, none⟩) (Q * R) (Q * R)] 26)) := (Below.refl _ _).alloc (Nat.le_refl _) _
  obtain ⟨k_Y, hk_Y⟩ : ∃ k, k = w3_.heap.size := ⟨_, rfl⟩
  have L_Y : Hid (w.heap.size ≤ k_Y) := by rw [hk_Y]; exact BW.out.size
  have NXY : Hid (k_X ≠ k_Y) := by have := X.out.1.2.2.2.2; show _ ≠ _; omega
  rw [← hk_Y] at m_ ⊢
  generalize (w3_.alloc (.cells #[.int .i64 (Q : Int), .int .i64 (R : Int), .int .i64 (R : Int), .slice (some ⟨gY, 0, none⟩) (Q * R) (Q * R)] 26)) = w4_ at m_ b_ ⊢
  replace BW : Hid (Below _ _ _) := bstep BW.out b_
  replace UA : Hid (URow _ _ _ _ _) := UA.out.below b_
  replace UX : Hid (URow _ _ _ _ _) := UX.out.below b_
  replace X : Hid (WBox _ _ _ _ _ _) := X.out.below b_
  replace UY : Hid (URow _ _ _ _ _) := UY.out.below b_
  have Y : Hid (MBox w4_ k_Y (Q : Int) (R : Int) (R : Int) (.slice (some ⟨gY, 0, none⟩) (Q * R) (Q * R))) := m_
  clear m_ b_ hk_Y
  refine (lMade11o Q 5 a3 len3 cap3 U _ UA.out (by omega) (by omega) (by omega)).mono ?_
  rintro e w5_ ⟨gv0, rfl, _, hU_, hb5_⟩
  rw [← HzV.out] at hU_
  replace BW : Hid (Below _ _ _) := bstep BW.out hb5_
  replace UA : Hid (URow _ _ _ _ _) := UA.out.below hb5_
  replace UX : Hid (URow _ _ _ _ _) := UX.out.below hb5_
  replace X : Hid (WBox _ _ _ _ _ _) := X.out.below hb5_
  replace UY : Hid (URow _ _ _ _ _) := UY.out.below hb5_
  replace Y : Hid (MBox _ _ _ _ _ _) := Y.out.below hb5_
  clear hb5_
  have Uv0 : Hid (URow w5_ (some ⟨gv0, 0, none⟩) Q Q zV) := hU_
  clear hU_
  go_wp2_with fail
  refine (lRow11o Q _ _ zV _ Uv0.out (by omega)).mono ?_
  rintro e w6_ ⟨gv, cgv, rfl, _, hU_, hS_, hb6_⟩
  replace BW : Hid (Below _ _ _) := bstep BW.out hb6_
  replace UA : Hid (URow _ _ _ _ _) := UA.out.below hb6_
  replace UX : Hid (URow _ _ _ _ _) := UX.out.below hb6_
  replace X : Hid (WBox _ _ _ _ _ _) := X.out.below hb6_
  replace UY : Hid (URow _ _ _ _ _) := UY.out.below hb6_
  replace Y : Hid (MBox _ _ _ _ _ _) := Y.out.below hb6_
  replace Uv0 : Hid (URow _ _ _ _ _) := Uv0.out.below hb6_
  clear hb6_
  have Uv : Hid (URow w6_ (some ⟨gv, 0, none⟩) Q cgv zV) := hU_
  clear hU_
  have SV : Hid (SeesU w6_ (.slice (some ⟨gv, 0, none⟩) Q cgv) (lst zV Q)) := hS_
  clear hS_
  clear Uv0
  go_wp2_with fail
  refine (lMade11o P 1 a3 len3 cap3 U _ UA.out (by omega) (by omega) (by omega)).mono ?_
  rintro e w7_ ⟨gw0, rfl, _, hU_, hb7_⟩
  rw [← HzW.out] at hU_
  replace BW : Hid (Below _ _ _) := bstep BW.out hb7_
  replace UA : Hid (URow _ _ _ _ _) := UA.out.below hb7_
  replace UX : Hid (URow _ _ _ _ _) := UX.out.below hb7_
  replace X : Hid (WBox _ _ _ _ _ _) := X.out.below hb7_
  replace UY : Hid (URow _ _ _ _ _) := UY.out.below hb7_
  replace Y : Hid (MBox _ _ _ _ _ _) := Y.out.below hb7_
  replace Uv : Hid (URow _ _ _ _ _) := Uv.out.below hb7_
  replace SV : Hid (SeesU _ _ _) := SV.out.below hb7_
  clear hb7_
  have Uw0 : Hid (URow w7_ (some ⟨gw0, 0, none⟩) P P zW) := hU_
  clear hU_
  go_wp2_with fail
  refine (lRow11o P _ _ zW _ Uw0.out (by omega)).mono ?_
  rintro e w8_ ⟨gw, cgw, rfl, _, hU_, hS_, hb8_⟩
  replace BW : Hid (Below _ _ _) := bstep BW.out hb8_
  replace UA : Hid (URow _ _ _ _ _) := UA.out.below hb8_
  replace UX : Hid (URow _ _ _ _ _) := UX.out.below hb8_
  replace X : Hid (WBox _ _ _ _ _ _) := X.out.below hb8_
  replace UY : Hid (URow _ _ _ _ _) := UY.out.below hb8_
  replace Y : Hid (MBox _ _ _ _ _ _) := Y.out.below hb8_
  replace Uv : Hid (URow _ _ _ _ _) := Uv.out.below hb8_
  replace SV : Hid (SeesU _ _ _) := SV.out.below hb8_
  replace Uw0 : Hid (URow _ _ _ _ _) := Uw0.out.below hb8_
  clear hb8_
  have Uw : Hid (URow w8_ (some ⟨gw, 0, none⟩) P cgw zW) := hU_
  clear hU_
  clear hS_
  clear Uw0
  obtain ⟨⟨X_0, X_1, X_2, X_3, X_4⟩, X_5⟩ := X.out
  have X_6 := X_5 0
  have X_7 := X_5 1
  have X_8 := X_5 2
  have X_9 := X_5 3
  clear X_5
  obtain ⟨Y_0, Y_1, Y_2, Y_3, Y_4⟩ := Y.out
  go_wp2_with fail
  have nc_ := calc_new w8_
  replace nc_ := nc_.later (bmore (Below.refl _ _) (.cells #[.int .u8 0] 32))
  have nk_ := calc_new (w8_.alloc (.cells #[.int .u8 0] 32))
  simp only [World.size_alloc] at nk_
  have bV_ : Below w8_.heap.size w8_ ((w8_.alloc (.cells #[.int .u8 0] 32)).alloc (.cells #[.int .u8 0] 32)) := bmore (bmore (Below.refl _ _) _) _
  clear X_0 X_1 X_2 X_3 X_4 X_6 X_7 X_8 X_9 Y_0 Y_1 Y_2 Y_3 Y_4
  generalize ((w8_.alloc (.cells #[.int .u8 0] 32)).alloc (.cells #[.int .u8 0] 32)) = w9_ at nc_ nk_ bV_ ⊢
  obtain ⟨kc, hkc_⟩ : ∃ k, k = w8_.heap.size := ⟨_, rfl⟩
  obtain ⟨kk, hkk_⟩ : ∃ k, k = w8_.heap.size + 1 := ⟨_, rfl⟩
  rw [← hkk_] at nk_ ⊢
  rw [← hkc_] at nc_ ⊢
  have Oc : Hid (w.heap.size ≤ kc) := by show _ ≤ _; have := BW.out.size; omega
  have A_c_UA : Hid (Apt (some kc) a3 len3) := UA.out.apt (fun k e => by injection e with e; omega)
  have A_c_UX : Hid (Apt (some kc) (some ⟨gX, 0, none⟩) (P * Q)) := UX.out.apt (fun k e => by injection e with e; omega)
  have A_c_X : Hid (kc ≠ k_X) := by have := X.out.1.2.2.2.2; show _ ≠ _; omega
  have A_c_UY : Hid (Apt (some kc) (some ⟨gY, 0, none⟩) (Q * R)) := UY.out.apt (fun k e => by injection e with e; omega)
  have A_c_Y : Hid (kc ≠ k_Y) := by have := Y.out.2.2.2.2; show _ ≠ _; omega
  have A_c_Uv : Hid (Apt (some kc) (some ⟨gv, 0, none⟩) Q) := Uv.out.apt (fun k e => by injection e with e; omega)
  have A_c_SV : Hid (kc ≠ gv) := by have := SV.out.lt; show _ ≠ _; omega
  have A_c_Uw : Hid (Apt (some kc) (some ⟨gw, 0, none⟩) P) := Uw.out.apt (fun k e => by injection e with e; omega)
  have Ok : Hid (w.heap.size ≤ kk) := by show _ ≤ _; have := BW.out.size; omega
  have A_k_UA : Hid (Apt (some kk) a3 len3) := UA.out.apt (fun k e => by injection e with e; omega)
  have A_k_UX : Hid (Apt (some kk) (some ⟨gX, 0, none⟩) (P * Q)) := UX.out.apt (fun k e => by injection e with e; omega)
  have A_k_X : Hid (kk ≠ k_X) := by have := X.out.1.2.2.2.2; show _ ≠ _; omega
  have A_k_UY : Hid (Apt (some kk) (some ⟨gY, 0, none⟩) (Q * R)) := UY.out.apt (fun k e => by injection e with e; omega)
  have A_k_Y : Hid (kk ≠ k_Y) := by have := Y.out.2.2.2.2; show _ ≠ _; omega
  have A_k_Uv : Hid (Apt (some kk) (some ⟨gv, 0, none⟩) Q) := Uv.out.apt (fun k e => by injection e with e; omega)
  have A_k_SV : Hid (kk ≠ gv) := by have := SV.out.lt; show _ ≠ _; omega
  have A_k_Uw : Hid (Apt (some kk) (some ⟨gw, 0, none⟩) P) := Uw.out.apt (fun k e => by injection e with e; omega)
  have A_c_k : Hid (kc ≠ kk) := by show _ ≠ _; omega
  have A_k_c : Hid (kk ≠ kc) := by show _ ≠ _; omega
  replace BW : Hid (Below _ _ _) := bstep BW.out bV_
  replace UA : Hid (URow _ _ _ _ _) := UA.out.below bV_
  replace UX : Hid (URow _ _ _ _ _) := UX.out.below bV_
  replace X : Hid (WBox _ _ _ _ _ _) := X.out.below bV_
  replace UY : Hid (URow _ _ _ _ _) := UY.out.below bV_
  replace Y : Hid (MBox _ _ _ _ _ _) := Y.out.below bV_
  replace Uv : Hid (URow _ _ _ _ _) := Uv.out.below bV_
  replace SV : Hid (SeesU _ _ _) := SV.out.below bV_
  replace Uw : Hid (URow _ _ _ _ _) := Uw.out.below bV_
  clear bV_ hkc_ hkk_
  have Hc : Hid (IsCalc w9_ (.pointer (some ⟨kc, 0, none⟩)) (some kc) (0)) := nc_
  clear nc_
  have Hk : Hid (IsCalc w9_ (.pointer (some ⟨kk, 0, none⟩)) (some kk) (0)) := nk_
  clear nk_
  refine (mGemm (.pointer (some ⟨kc, 0, none⟩)) (some kc) 0 P Q Q _ _ _ zX R R _ _ _ zY _ Hc.out TX.out TY.out UX.out UY.out (by omega) (by omega) (by omega)).mono ?_
  rintro e w10_ ⟨gG, zG, rfl, hg_, hU_, hE_, hC_, hb10_⟩
  have EG : Hid (∀ i k, i < P → k < R → zG (i * R + k) = dotV (fun j => zX (i * Q + j)) (fun j => zY (j * R + k)) Q) := hE_
  clear hE_
  have hgk_ := hg_
  have Nkc_gG : Hid (kc ≠ gG) := fun e => absurd (Nat.lt_of_lt_of_le (Hc.out.lt _ rfl) hg_) (by rw [e]; exact Nat.lt_irrefl _)
  have Nkk_gG : Hid (kk ≠ gG) := fun e => absurd (Nat.lt_of_lt_of_le (Hk.out.lt _ rfl) hg_) (by rw [e]; exact Nat.lt_irrefl _)
  clear hg_ hgk_
  replace BW : Hid (Below _ _ _) := Bes.old BW.out hb10_ Oc.out
  replace UA : Hid (URow _ _ _ _ _) := UA.out.bes hb10_ A_c_UA.out
  replace UX : Hid (URow _ _ _ _ _) := UX.out.bes hb10_ A_c_UX.out
  replace X : Hid (WBox _ _ _ _ _ _) := X.out.bes hb10_ (ne_some A_c_X.out)
  replace UY : Hid (URow _ _ _ _ _) := UY.out.bes hb10_ A_c_UY.out
  replace Y : Hid (MBox _ _ _ _ _ _) := Y.out.bes hb10_ (ne_some A_c_Y.out)
  replace Uv : Hid (URow _ _ _ _ _) := Uv.out.bes hb10_ A_c_Uv.out
  replace SV : Hid (SeesU _ _ _) := SV.out.bes hb10_ (ne_some A_c_SV.out)
  replace Uw : Hid (URow _ _ _ _ _) := Uw.out.bes hb10_ A_c_Uw.out
  replace Hk : Hid (IsCalc _ _ _ _) := Hk.out.bes hb10_ (fun j e1 e2 => A_c_k.out ((Option.some.inj e2).trans (Option.some.inj e1).symm))
  clear hb10_
  clear Hc
  have Hc : Hid (IsCalc w10_ (.pointer (some ⟨kc, 0, none⟩)) (some kc) (mmF 0 (fun i j => zX (i * Q + j)) (fun k j => zY (j * R + k)) Q R P)) := hC_
  clear hC_
  have UG : Hid (URow w10_ (some ⟨gG, 0, none⟩) (P * R) (P * R) zG) := hU_
  clear hU_
  obtain ⟨⟨X_0, X_1, X_2, X_3, X_4⟩, X_5⟩ := X.out
  have X_6 := X_5 0
  have X_7 := X_5 1
  have X_8 := X_5 2
  have X_9 := X_5 3
  clear X_5
  obtain ⟨Y_0, Y_1, Y_2, Y_3, Y_4⟩ := Y.out
  go_wp2_with fail
  have m_ := MBox.made w10_ (P : Int) (R : Int) (R : Int) (.slice (some ⟨gG, 0, none⟩) (P * R) (P * R))
  have b_ : Below w10_.heap.size w10_ (w10_.alloc (.cells #[.int .i64 (P : Int), .int .i64 (R : Int), .int .i64 (R : Int), .slice (some ⟨gG, 0, none⟩) (P * R) (P * R)] 26)) := (Below.refl _ _).alloc (Nat.le_refl _) _
  obtain ⟨k_G, hk_G⟩ : ∃ k, k = w10_.heap.size := ⟨_, rfl⟩
  have L_G : Hid (w.heap.size ≤ k_G) := by rw [hk_G]; exact BW.out.size
  have Nkc_G : Hid (kc ≠ k_G) := by have := Hc.out.lt _ rfl; show _ ≠ _; omega
  have Nkk_G : Hid (kk ≠ k_G) := by have := Hk.out.lt _ rfl; show _ ≠ _; omega
  rw [← hk_G] at m_ ⊢
  clear X_0 X_1 X_2 X_3 X_4 X_6 X_7 X_8 X_9 Y_0 Y_1 Y_2 Y_3 Y_4
  generalize (w10_.alloc (.cells #[.int .i64 (P : Int), .int .i64 (R : Int), .int .i64 (R : Int), .slice (some ⟨gG, 0, none⟩) (P * R) (P * R)] 26)) = w11_ at m_ b_ ⊢
  replace BW : Hid (Below _ _ _) := bstep BW.out b_
  replace UA : Hid (URow _ _ _ _ _) := UA.out.below b_
  replace UX : Hid (URow _ _ _ _ _) := UX.out.below b_
  replace X : Hid (WBox _ _ _ _ _ _) := X.out.below b_
  replace UY : Hid (URow _ _ _ _ _) := UY.out.below b_
  replace Y : Hid (MBox _ _ _ _ _ _) := Y.out.below b_
  replace Uv : Hid (URow _ _ _ _ _) := Uv.out.below b_
  replace SV : Hid (SeesU _ _ _) := SV.out.below b_
  replace Uw : Hid (URow _ _ _ _ _) := Uw.out.below b_
  replace Hk : Hid (IsCalc _ _ _ _) := Hk.out.later b_
  replace Hc : Hid (IsCalc _ _ _ _) := Hc.out.later b_
  replace UG : Hid (URow _ _ _ _ _) := UG.out.below b_
  have G : Hid (MBox w11_ k_G (P : Int) (R : Int) (R : Int) (.slice (some ⟨gG, 0, none⟩) (P * R) (P * R))) := m_
  clear m_ b_ hk_G
  obtain ⟨⟨X_0, X_1, X_2, X_3, X_4⟩, X_5⟩ := X.out
  have X_6 := X_5 0
  have X_7 := X_5 1
  have X_8 := X_5 2
  have X_9 := X_5 3
  clear X_5
  obtain ⟨Y_0, Y_1, Y_2, Y_3, Y_4⟩ := Y.out
  obtain ⟨G_0, G_1, G_2, G_3, G_4⟩ := G.out
  refine (mGemv (.pointer (some ⟨kc, 0, none⟩)) (some kc) (mmF 0 (fun i j => zX (i * Q + j)) (fun k j => zY (j * R + k)) Q R P) P Q Q _ _ _ zX _ _ zV _ Hc.out TX.out UX.out Uv.out A_c_UX.out A_c_Uv.out (by omega)).mono ?_
  rintro e w12_ ⟨gh, rfl, hg_, hU_, hC_, hb12_⟩
  have Nkc_gh : Hid (kc ≠ gh) := fun e => absurd (Nat.lt_of_lt_of_le (Hc.out.lt _ rfl) hg_) (by rw [e]; exact Nat.lt_irrefl _)
  have Nkk_gh : Hid (kk ≠ gh) := fun e => absurd (Nat.lt_of_lt_of_le (Hk.out.lt _ rfl) hg_) (by rw [e]; exact Nat.lt_irrefl _)
  clear hg_
  clear X_0 X_1 X_2 X_3 X_4 X_6 X_7 X_8 X_9 Y_0 Y_1 Y_2 Y_3 Y_4 G_0 G_1 G_2 G_3 G_4
  replace BW : Hid (Below _ _ _) := Bes.old BW.out hb12_ Oc.out
  replace UA : Hid (URow _ _ _ _ _) := UA.out.bes hb12_ A_c_UA.out
  replace UX : Hid (URow _ _ _ _ _) := UX.out.bes hb12_ A_c_UX.out
  replace X : Hid (WBox _ _ _ _ _ _) := X.out.bes hb12_ (ne_some A_c_X.out)
  replace UY : Hid (URow _ _ _ _ _) := UY.out.bes hb12_ A_c_UY.out
  replace Y : Hid (MBox _ _ _ _ _ _) := Y.out.bes hb12_ (ne_some A_c_Y.out)
  replace Uv : Hid (URow _ _ _ _ _) := Uv.out.bes hb12_ A_c_Uv.out
  replace SV : Hid (SeesU _ _ _) := SV.out.bes hb12_ (ne_some A_c_SV.out)
  replace Uw : Hid (URow _ _ _ _ _) := Uw.out.bes hb12_ A_c_Uw.out
  replace Hk : Hid (IsCalc _ _ _ _) := Hk.out.bes hb12_ (fun j e1 e2 => A_c_k.out ((Option.some.inj e2).trans (Option.some.inj e1).symm))
  replace UG : Hid (URow _ _ _ _ _) := UG.out.bes hb12_ (Apt.ne Nkc_gG.out)
  replace G : Hid (MBox _ _ _ _ _ _) := G.out.bes hb12_ (ne_some Nkc_G.out)
  clear hb12_
  clear Hc
  have Hc : Hid (IsCalc w12_ (.pointer (some ⟨kc, 0, none⟩)) (some kc) (mvF (mmF 0 (fun i j => zX (i * Q + j)) (fun k j => zY (j * R + k)) Q R P) (fun i j => zX (i * Q + j)) zV Q P)) := hC_
  clear hC_
  have Uh : Hid (URow w12_ (some ⟨gh, 0, none⟩) P P (fun i => dotV (fun k => zX (i * Q + k)) zV Q)) := hU_
  clear hU_
  obtain ⟨⟨X_0, X_1, X_2, X_3, X_4⟩, X_5⟩ := X.out
  have X_6 := X_5 0
  have X_7 := X_5 1
  have X_8 := X_5 2
  have X_9 := X_5 3
  clear X_5
  obtain ⟨Y_0, Y_1, Y_2, Y_3, Y_4⟩ := Y.out
  obtain ⟨G_0, G_1, G_2, G_3, G_4⟩ := G.out
  go_wp2_with fail
  refine (mGer (.pointer (some ⟨kc, 0, none⟩)) (some kc) (mvF (mmF 0 (fun i j => zX (i * Q + j)) (fun k j => zY (j * R + k)) Q R P) (fun i j => zX (i * Q + j)) zV Q P) a4 P Q Q _ _ _ zX _ _ _ _ zW zV _ Hc.out TX.out UX.out Uw.out Uv.out A_c_Uw.out A_c_Uv.out al0 al1 (by omega)).mono ?_
  rintro e w13_ ⟨gS, zS, rfl, hg_, hU_, hE_, hC_, hb13_⟩
  have ES : Hid (∀ i k, i < P → k < Q → zS (i * Q + k) = (addS (zX (i * Q + k)) (mulS (mulS a4 (zW i)).1 (zV k)).1).1) := hE_
  clear hE_
  have Nkc_gS : Hid (kc ≠ gS) := fun e => absurd (Nat.lt_of_lt_of_le (Hc.out.lt _ rfl) hg_) (by rw [e]; exact Nat.lt_irrefl _)
  have Nkk_gS : Hid (kk ≠ gS) := fun e => absurd (Nat.lt_of_lt_of_le (Hk.out.lt _ rfl) hg_) (by rw [e]; exact Nat.lt_irrefl _)
  clear hg_
  clear X_0 X_1 X_2 X_3 X_4 X_6 X_7 X_8 X_9 Y_0 Y_1 Y_2 Y_3 Y_4 G_0 G_1 G_2 G_3 G_4
  replace BW : Hid (Below _ _ _) := Bes.old BW.out hb13_ Oc.out
  replace UA : Hid (URow _ _ _ _ _) := UA.out.bes hb13_ A_c_UA.out
  replace UX : Hid (URow _ _ _ _ _) := UX.out.bes hb13_ A_c_UX.out
  replace X : Hid (WBox _ _ _ _ _ _) := X.out.bes hb13_ (ne_some A_c_X.out)
  replace UY : Hid (URow _ _ _ _ _) := UY.out.bes hb13_ A_c_UY.out
  replace Y : Hid (MBox _ _ _ _ _ _) := Y.out.bes hb13_ (ne_some A_c_Y.out)
  replace Uv : Hid (URow _ _ _ _ _) := Uv.out.bes hb13_ A_c_Uv.out
  replace SV : Hid (SeesU _ _ _) := SV.out.bes hb13_ (ne_some A_c_SV.out)
  replace Uw : Hid (URow _ _ _ _ _) := Uw.out.bes hb13_ A_c_Uw.out
  replace Hk : Hid (IsCalc _ _ _ _) := Hk.out.bes hb13_ (fun j e1 e2 => A_c_k.out ((Option.some.inj e2).trans (Option.some.inj e1).symm))
  replace UG : Hid (URow _ _ _ _ _) := UG.out.bes hb13_ (Apt.ne Nkc_gG.out)
  replace G : Hid (MBox _ _ _ _ _ _) := G.out.bes hb13_ (ne_some Nkc_G.out)
  replace Uh : Hid (URow _ _ _ _ _) := Uh.out.bes hb13_ (Apt.ne Nkc_gh.out)
  clear hb13_
  clear Hc
  have Hc : Hid (IsCalc w13_ (.pointer (some ⟨kc, 0, none⟩)) (some kc) (geF (mvF (mmF 0 (fun i j => zX (i * Q + j)) (fun k j => zY (j * R + k)) Q R P) (fun i j => zX (i * Q + j)) zV Q P) a4 (fun i j => zX (i * Q + j)) zW zV Q P)) := hC_
  clear hC_
  have US : Hid (URow w13_ (some ⟨gS, 0, none⟩) (P * Q) (P * Q) zS) := hU_
  clear hU_
  obtain ⟨⟨X_0, X_1, X_2, X_3, X_4⟩, X_5⟩ := X.out
  have X_6 := X_5 0
  have X_7 := X_5 1
  have X_8 := X_5 2
  have X_9 := X_5 3
  clear X_5
  obtain ⟨Y_0, Y_1, Y_2, Y_3, Y_4⟩ := Y.out
  obtain ⟨G_0, G_1, G_2, G_3, G_4⟩ := G.out
  go_wp2_with fail
  have m_ := MBox.made w13_ (P : Int) (Q : Int) (Q : Int) (.slice (some ⟨gS, 0, none⟩) (P * Q) (P * Q))
  have b_ : Below w13_.heap.size w13_ (w13_.alloc (.cells #[.int .i64 (P : Int), .int .i64 (Q : Int), .int .i64 (Q : Int), .slice (some ⟨gS, 0, none⟩) (P * Q) (P * Q)] 26)) := (Below.refl _ _).alloc (Nat.le_refl _) _
  obtain ⟨k_S, hk_S⟩ : ∃ k, k = w13_.heap.size := ⟨_, rfl⟩
  have L_S : Hid (w.heap.size ≤ k_S) := by rw [hk_S]; exact BW.out.size
  have Nkc_S : Hid (kc ≠ k_S) := by have := Hc.out.lt _ rfl; show _ ≠ _; omega
  have Nkk_S : Hid (kk ≠ k_S) := by have := Hk.out.lt _ rfl; show _ ≠ _; omega
  rw [← hk_S] at m_ ⊢
  clear X_0 X_1 X_2 X_3 X_4 X_6 X_7 X_8 X_9 Y_0 Y_1 Y_2 Y_3 Y_4 G_0 G_1 G_2 G_3 G_4
  generalize (w13_.alloc (.cells #[.int .i64 (P : Int), .int .i64 (Q : Int), .int .i64 (Q : Int), .slice (some ⟨gS, 0, none⟩) (P * Q) (P * Q)] 26)) = w14_ at m_ b_ ⊢
  replace BW : Hid (Below _ _ _) := bstep BW.out b_
  replace UA : Hid (URow _ _ _ _ _) := UA.out.below b_
  replace UX : Hid (URow _ _ _ _ _) := UX.out.below b_
  replace X : Hid (WBox _ _ _ _ _ _) := X.out.below b_
  replace UY : Hid (URow _ _ _ _ _) := UY.out.below b_
  replace Y : Hid (MBox _ _ _ _ _ _) := Y.out.below b_
  replace Uv : Hid (URow _ _ _ _ _) := Uv.out.below b_
  replace SV : Hid (SeesU _ _ _) := SV.out.below b_
  replace Uw : Hid (URow _ _ _ _ _) := Uw.out.below b_
  replace Hk : Hid (IsCalc _ _ _ _) := Hk.out.later b_
  replace UG : Hid (URow _ _ _ _ _) := UG.out.below b_
  replace G : Hid (MBox _ _ _ _ _ _) := G.out.below b_
  replace Uh : Hid (URow _ _ _ _ _) := Uh.out.below b_
  replace Hc : Hid (IsCalc _ _ _ _) := Hc.out.later b_
  replace US : Hid (URow _ _ _ _ _) := US.out.below b_
  have S : Hid (MBox w14_ k_S (P : Int) (Q : Int) (Q : Int) (.slice (some ⟨gS, 0, none⟩) (P * Q) (P * Q))) := m_
  clear m_ b_ hk_S
  obtain ⟨⟨X_0, X_1, X_2, X_3, X_4⟩, X_5⟩ := X.out
  have X_6 := X_5 0
  have X_7 := X_5 1
  have X_8 := X_5 2
  have X_9 := X_5 3
  clear X_5
  obtain ⟨Y_0, Y_1, Y_2, Y_3, Y_4⟩ := Y.out
  obtain ⟨G_0, G_1, G_2, G_3, G_4⟩ := G.out
  obtain ⟨S_0, S_1, S_2, S_3, S_4⟩ := S.out
  refine (mTurnZ Q R R _ _ _ zY _ TY.out UY.out (by omega)).mono ?_
  rintro e w15_ ⟨gT, zT, rfl, hg_, hU_, hE_, hb15_⟩
  have ET : Hid (∀ p q, p < R → q < Q → zT (p * Q + q) = zY (q * R + p)) := hE_
  clear hE_
  have Nkc_gT : Hid (kc ≠ gT) := fun e => absurd (Nat.lt_of_lt_of_le (Hc.out.lt _ rfl) hg_) (by rw [e]; exact Nat.lt_irrefl _)
  have Nkk_gT : Hid (kk ≠ gT) := fun e => absurd (Nat.lt_of_lt_of_le (Hk.out.lt _ rfl) hg_) (by rw [e]; exact Nat.lt_irrefl _)
  clear hg_
  clear X_0 X_1 X_2 X_3 X_4 X_6 X_7 X_8 X_9 Y_0 Y_1 Y_2 Y_3 Y_4 G_0 G_1 G_2 G_3 G_4 S_0 S_1 S_2 S_3 S_4
  replace BW : Hid (Below _ _ _) := bstep BW.out hb15_
  replace UA : Hid (URow _ _ _ _ _) := UA.out.below hb15_
  replace UX : Hid (URow _ _ _ _ _) := UX.out.below hb15_
  replace X : Hid (WBox _ _ _ _ _ _) := X.out.below hb15_
  replace UY : Hid (URow _ _ _ _ _) := UY.out.below hb15_
  replace Y : Hid (MBox _ _ _ _ _ _) := Y.out.below hb15_
  replace Uv : Hid (URow _ _ _ _ _) := Uv.out.below hb15_
  replace SV : Hid (SeesU _ _ _) := SV.out.below hb15_
  replace Uw : Hid (URow _ _ _ _ _) := Uw.out.below hb15_
  replace Hk : Hid (IsCalc _ _ _ _) := Hk.out.later hb15_
  replace UG : Hid (URow _ _ _ _ _) := UG.out.below hb15_
  replace G : Hid (MBox _ _ _ _ _ _) := G.out.below hb15_
  replace Uh : Hid (URow _ _ _ _ _) := Uh.out.below hb15_
  replace Hc : Hid (IsCalc _ _ _ _) := Hc.out.later hb15_
  replace US : Hid (URow _ _ _ _ _) := US.out.below hb15_
  replace S : Hid (MBox _ _ _ _ _ _) := S.out.below hb15_
  clear hb15_
  have UT : Hid (URow w15_ (some ⟨gT, 0, none⟩) (R * Q) (R * Q) zT) := hU_
  clear hU_
  obtain ⟨⟨X_0, X_1, X_2, X_3, X_4⟩, X_5⟩ := X.out
  have X_6 := X_5 0
  have X_7 := X_5 1
  have X_8 := X_5 2
  have X_9 := X_5 3
  clear X_5
  obtain ⟨Y_0, Y_1, Y_2, Y_3, Y_4⟩ := Y.out
  obtain ⟨G_0, G_1, G_2, G_3, G_4⟩ := G.out
  obtain ⟨S_0, S_1, S_2, S_3, S_4⟩ := S.out
  go_wp2_with fail
  have m_ := MBox.made w15_ (R : Int) (Q : Int) (Q : Int) (.slice (some ⟨gT, 0, none⟩) (R * Q) (R * Q))
  have b_ : Below w15_.heap.size w15_ (w15_.alloc (.cells #[.int .i64 (R : Int), .int .i64 (Q : Int), .int .i64 (Q : Int), .slice (some ⟨gT, 0, none⟩) (R * Q) (R * Q)] 26)) := (Below.refl _ _).alloc (Nat.le_refl _) _
  obtain ⟨k_T, hk_T⟩ : ∃ k, k = w15_.heap.size := ⟨_, rfl⟩
  have L_T : Hid (w.heap.size ≤ k_T) := by rw [hk_T]; exact BW.out.size
  have Nkc_T : Hid (kc ≠ k_T) := by have := Hc.out.lt _ rfl; show _ ≠ _; omega
  have Nkk_T : Hid (kk ≠ k_T) := by have := Hk.out.lt _ rfl; show _ ≠ _; omega
  rw [← hk_T] at m_ ⊢
  clear X_0 X_1 X_2 X_3 X_4 X_6 X_7 X_8 X_9 Y_0 Y_1 Y_2 Y_3 Y_4 G_0 G_1 G_2 G_3 G_4 S_0 S_1 S_2 S_3 S_4
  generalize (w15_.alloc (.cells #[.int .i64 (R : Int), .int .i64 (Q : Int), .int .i64 (Q : Int), .slice (some ⟨gT, 0, none⟩) (R * Q) (R * Q)] 26)) = w16_ at m_ b_ ⊢
  replace BW : Hid (Below _ _ _) := bstep BW.out b_
  replace UA : Hid (URow _ _ _ _ _) := UA.out.below b_
  replace UX : Hid (URow _ _ _ _ _) := UX.out.below b_
  replace X : Hid (WBox _ _ _ _ _ _) := X.out.below b_
  replace UY : Hid (URow _ _ _ _ _) := UY.out.below b_
  replace Y : Hid (MBox _ _ _ _ _ _) := Y.out.below b_
  replace Uv : Hid (URow _ _ _ _ _) := Uv.out.below b_
  replace SV : Hid (SeesU _ _ _) := SV.out.below b_
  replace Uw : Hid (URow _ _ _ _ _) := Uw.out.below b_
  replace Hk : Hid (IsCalc _ _ _ _) := Hk.out.later b_
  replace UG : Hid (URow _ _ _ _ _) := UG.out.below b_
  replace G : Hid (MBox _ _ _ _ _ _) := G.out.below b_
  replace Uh : Hid (URow _ _ _ _ _) := Uh.out.below b_
  replace Hc : Hid (IsCalc _ _ _ _) := Hc.out.later b_
  replace US : Hid (URow _ _ _ _ _) := US.out.below b_
  replace S : Hid (MBox _ _ _ _ _ _) := S.out.below b_
  replace UT : Hid (URow _ _ _ _ _) := UT.out.below b_
  have T : Hid (MBox w16_ k_T (R : Int) (Q : Int) (Q : Int) (.slice (some ⟨gT, 0, none⟩) (R * Q) (R * Q))) := m_
  clear m_ b_ hk_T
  have TG : Hid (Rgt (P : Int) (R : Int) (R : Int) (P * R)) := tight P R (by omega) (by omega)
  have TT : Hid (Rgt (R : Int) (Q : Int) (Q : Int) (R * Q)) := tight R Q (by omega) (by omega)
  go_loopw [26] (fun s26_ wr => ∃ n : Nat, s26_ = .int .i64 (n : Int) ∧ n ≤ P ∧ Hid (IsCalc wr (.pointer (some ⟨kk, 0, none⟩)) (some kk) (mmF 0 (fun i j => zX (i * Q + j)) (fun k j => zT (k * Q + j)) Q R n)) ∧ Hid (Bes (some kk) w16_ wr)) (fun s26_ _ => P - (intOf s26_).toNat)
  case atStart => exact ⟨0, rfl, Nat.zero_le _, Hk.out, Bes.refl _ _⟩
  case round =>
    clear Hk
    obtain ⟨n, rfl, hn_, Hk, HS17⟩ := hrel
    obtain ⟨w17_, rfl⟩ : ∃ x, x = wr := ⟨wr, rfl⟩
    replace BW : Hid (Below _ _ _) := Bes.old BW.out HS17.out Ok.out
    replace UA : Hid (URow _ _ _ _ _) := UA.out.bes HS17.out A_k_UA.out
    replace UX : Hid (URow _ _ _ _ _) := UX.out.bes HS17.out A_k_UX.out
    replace X : Hid (WBox _ _ _ _ _ _) := X.out.bes HS17.out (ne_some A_k_X.out)
    replace UY : Hid (URow _ _ _ _ _) := UY.out.bes HS17.out A_k_UY.out
    replace Y : Hid (MBox _ _ _ _ _ _) := Y.out.bes HS17.out (ne_some A_k_Y.out)
    replace Uv : Hid (URow _ _ _ _ _) := Uv.out.bes HS17.out A_k_Uv.out
    replace SV : Hid (SeesU _ _ _) := SV.out.bes HS17.out (ne_some A_k_SV.out)
    replace Uw : Hid (URow _ _ _ _ _) := Uw.out.bes HS17.out A_k_Uw.out
    replace UG : Hid (URow _ _ _ _ _) := UG.out.bes HS17.out (Apt.ne Nkk_gG.out)
    replace G : Hid (MBox _ _ _ _ _ _) := G.out.bes HS17.out (ne_some Nkk_G.out)
    replace Uh : Hid (URow _ _ _ _ _) := Uh.out.bes HS17.out (Apt.ne Nkk_gh.out)
    replace Hc : Hid (IsCalc _ _ _ _) := Hc.out.bes HS17.out (fun j e1 e2 => A_k_c.out ((Option.some.inj e2).trans (Option.some.inj e1).symm))
    replace US : Hid (URow _ _ _ _ _) := US.out.bes HS17.out (Apt.ne Nkk_gS.out)
    replace S : Hid (MBox _ _ _ _ _ _) := S.out.bes HS17.out (ne_some Nkk_S.out)
    replace UT : Hid (URow _ _ _ _ _) := UT.out.bes HS17.out (Apt.ne Nkk_gT.out)
    replace T : Hid (MBox _ _ _ _ _ _) := T.out.bes HS17.out (ne_some Nkk_T.out)
    by_cases hlt : (n : Int) < (P : Int)
    · as_aux_lemma =>
        go_wp2_with fail
        go_loopw [27] (fun s27_ wr => ∃ m : Nat, s27_ = .int .i64 (m : Int) ∧ m ≤ R ∧ Hid (IsCalc wr (.pointer (some ⟨kk, 0, none⟩)) (some kk) (mmR (mmF 0 (fun i j => zX (i * Q + j)) (fun k j => zT (k * Q + j)) Q R n) (fun j => zX (n * Q + j)) (fun k j => zT (k * Q + j)) Q m)) ∧ Hid (Bes (some kk) w17_ wr)) (fun s27_ _ => R - (intOf s27_).toNat)
        case atStart => exact ⟨0, rfl, Nat.zero_le _, Hk.out, Bes.refl _ _⟩
        case round =>
          clear Hk
          obtain ⟨m, rfl, hm_, Hk, HS18⟩ := hrel
          obtain ⟨w18_, rfl⟩ : ∃ x, x = wr := ⟨wr, rfl⟩
          replace BW : Hid (Below _ _ _) := Bes.old BW.out HS18.out Ok.out
          replace UA : Hid (URow _ _ _ _ _) := UA.out.bes HS18.out A_k_UA.out
          replace UX : Hid (URow _ _ _ _ _) := UX.out.bes HS18.out A_k_UX.out
          replace X : Hid (WBox _ _ _ _ _ _) := X.out.bes HS18.out (ne_some A_k_X.out)
          replace UY : Hid (URow _ _ _ _ _) := UY.out.bes HS18.out A_k_UY.out
          replace Y : Hid (MBox _ _ _ _ _ _) := Y.out.bes HS18.out (ne_some A_k_Y.out)
          replace Uv : Hid (URow _ _ _ _ _) := Uv.out.bes HS18.out A_k_Uv.out
          replace SV : Hid (SeesU _ _ _) := SV.out.bes HS18.out (ne_some A_k_SV.out)
          replace Uw : Hid (URow _ _ _ _ _) := Uw.out.bes HS18.out A_k_Uw.out
          replace UG : Hid (URow _ _ _ _ _) := UG.out.bes HS18.out (Apt.ne Nkk_gG.out)
          replace G : Hid (MBox _ _ _ _ _ _) := G.out.bes HS18.out (ne_some Nkk_G.out)
          replace Uh : Hid (URow _ _ _ _ _) := Uh.out.bes HS18.out (Apt.ne Nkk_gh.out)
          replace Hc : Hid (IsCalc _ _ _ _) := Hc.out.bes HS18.out (fun j e1 e2 => A_k_c.out ((Option.some.inj e2).trans (Option.some.inj e1).symm))
          replace US : Hid (URow _ _ _ _ _) := US.out.bes HS18.out (Apt.ne Nkk_gS.out)
          replace S : Hid (MBox _ _ _ _ _ _) := S.out.bes HS18.out (ne_some Nkk_S.out)
          replace UT : Hid (URow _ _ _ _ _) := UT.out.bes HS18.out (Apt.ne Nkk_gT.out)
          replace T : Hid (MBox _ _ _ _ _ _) := T.out.bes HS18.out (ne_some Nkk_T.out)
          replace HS17 : Hid (Bes _ _ _) := HS17.out.trans HS18.out
          by_cases hlt2 : (m : Int) < (R : Int)
          · skip
            have EQ : zG (n * R + m) = dotV (fun k => zX (n * Q + k)) (fun k => zT (m * Q + k)) Q := by
              rw [EG.out n m (by omega) (by omega)]
              exact dotV_congr _ _ _ _ Q (fun i hi => ⟨rfl, (ET.out m i (by omega) hi).symm⟩)
            obtain ⟨d, hd⟩ : ∃ d, dotV (fun k => zX (n * Q + k)) (fun k => zT (m * Q + k)) Q = d := ⟨_, rfl⟩
            rw [hd] at EQ
            have HD : Hid (_ = _) := hd
            have HQ : Hid (_ = _) := EQ
            clear hd EQ
            go_wp2_with fail
            obtain ⟨⟨X_0, X_1, X_2, X_3, X_4⟩, X_5⟩ := X.out
            have X_6 := X_5 0
            have X_7 := X_5 1
            have X_8 := X_5 2
            have X_9 := X_5 3
            clear X_5
            obtain ⟨T_0, T_1, T_2, T_3, T_4⟩ := T.out
            have ct : Cnt 1 := Cnt.mk _
            go_region_held3 (fun w' => (w'.cell? ⟨k_X, 0, none⟩ = some (.int .i64 (P : Int)) ∧ w'.cell? ⟨k_X, 1, none⟩ = some (.int .i64 (Q : Int)) ∧ w'.cell? ⟨k_X, 2, none⟩ = some (.int .i64 (Q : Int)) ∧ w'.cell? ⟨k_X, 3, none⟩ = some (.slice (some ⟨gX, 0, none⟩) (P * Q) (P * Q))) ∧ (w'.cell? ⟨k_T, 0, none⟩ = some (.int .i64 (R : Int)) ∧ w'.cell? ⟨k_T, 1, none⟩ = some (.int .i64 (Q : Int)) ∧ w'.cell? ⟨k_T, 2, none⟩ = some (.int .i64 (Q : Int)) ∧ w'.cell? ⟨k_T, 3, none⟩ = some (.slice (some ⟨gT, 0, none⟩) (R * Q) (R * Q)))) (simp [go_sem, *]) (first | (have ck : Cnt 1 := ct; go_at_call 13; refine (lRow11 P Q Q _ _ _ zX n _ TX.out (by first | (with_reducible exact UX.out) | exact UX.out.below ((Below.refl _ _).drew)) (by omega) (by omega)).mono ?_; rintro e w19_ ⟨gr1, cgr1, rfl, hg_, hU_, _, hb19_⟩; replace hb19_ : Below w18_.heap.size w18_ w19_ := (by first | exact hb19_ | exact ((Below.refl _ _).drew).trans hb19_); replace hg_ : w18_.heap.size ≤ gr1 := hg_; have Nkc_gr1 : Hid (kc ≠ gr1) := fun e => absurd (Nat.lt_of_lt_of_le (Hc.out.lt _ rfl) hg_) (by rw [e]; exact Nat.lt_irrefl _); have Nkk_gr1 : Hid (kk ≠ gr1) := fun e => absurd (Nat.lt_of_lt_of_le (Hk.out.lt _ rfl) hg_) (by rw [e]; exact Nat.lt_irrefl _); clear hg_; clear X_0 X_1 X_2 X_3 X_4 X_6 X_7 X_8 X_9 T_0 T_1 T_2 T_3 T_4; replace BW : Hid (Below _ _ _) := bstep BW.out hb19_; replace UA : Hid (URow _ _ _ _ _) := UA.out.below hb19_; replace UX : Hid (URow _ _ _ _ _) := UX.out.below hb19_; replace X : Hid (WBox _ _ _ _ _ _) := X.out.below hb19_; replace UY : Hid (URow _ _ _ _ _) := UY.out.below hb19_; replace Y : Hid (MBox _ _ _ _ _ _) := Y.out.below hb19_; replace Uv : Hid (URow _ _ _ _ _) := Uv.out.below hb19_; replace SV : Hid (SeesU _ _ _) := SV.out.below hb19_; replace Uw : Hid (URow _ _ _ _ _) := Uw.out.below hb19_; replace UG : Hid (URow _ _ _ _ _) := UG.out.below hb19_; replace G : Hid (MBox _ _ _ _ _ _) := G.out.below hb19_; replace Uh : Hid (URow _ _ _ _ _) := Uh.out.below hb19_; replace Hc : Hid (IsCalc _ _ _ _) := Hc.out.later hb19_; replace US : Hid (URow _ _ _ _ _) := US.out.below hb19_; replace S : Hid (MBox _ _ _ _ _ _) := S.out.below hb19_; replace UT : Hid (URow _ _ _ _ _) := UT.out.below hb19_; replace T : Hid (MBox _ _ _ _ _ _) := T.out.below hb19_; replace Hk : Hid (IsCalc _ _ _ _) := Hk.out.later hb19_; replace HS17 : Hid (Bes _ _ _) := HS17.out.step hb19_; replace HS18 : Hid (Bes _ _ _) := HS18.out.step hb19_; obtain ⟨⟨X_0, X_1, X_2, X_3, X_4⟩, X_5⟩ := X.out; have X_6 := X_5 0; have X_7 := X_5 1; have X_8 := X_5 2; have X_9 := X_5 3; clear X_5; obtain ⟨T_0, T_1, T_2, T_3, T_4⟩ := T.out; have Ur : Hid (URow w19_ (some ⟨gr1, 0, none⟩) Q cgr1 (fun k => zX (n * Q + k))) := hU_; clear hU_; replace ct : Cnt 2 := Cnt.mk _; clear hb19_ ck) | (have ck : Cnt 2 := ct; go_at_call 13; refine (lRow11 R Q Q _ _ _ zT m _ TT.out (by first | (with_reducible exact UT.out) | exact UT.out.below ((Below.refl _ _).drew)) (by omega) (by omega)).mono ?_; rintro e w20_ ⟨gr2, cgr2, rfl, hg_, hU_, _, hb20_⟩; replace hb20_ : Below w19_.heap.size w19_ w20_ := (by first | exact hb20_ | exact ((Below.refl _ _).drew).trans hb20_); replace hg_ : w19_.heap.size ≤ gr2 := hg_; have Nkc_gr2 : Hid (kc ≠ gr2) := fun e => absurd (Nat.lt_of_lt_of_le (Hc.out.lt _ rfl) hg_) (by rw [e]; exact Nat.lt_irrefl _); have Nkk_gr2 : Hid (kk ≠ gr2) := fun e => absurd (Nat.lt_of_lt_of_le (Hk.out.lt _ rfl) hg_) (by rw [e]; exact Nat.lt_irrefl _); clear hg_; clear X_0 X_1 X_2 X_3 X_4 X_6 X_7 X_8 X_9 T_0 T_1 T_2 T_3 T_4; replace BW : Hid (Below _ _ _) := bstep BW.out hb20_; replace UA : Hid (URow _ _ _ _ _) := UA.out.below hb20_; replace UX : Hid (URow _ _ _ _ _) := UX.out.below hb20_; replace X : Hid (WBox _ _ _ _ _ _) := X.out.below hb20_; replace UY : Hid (URow _ _ _ _ _) := UY.out.below hb20_; replace Y : Hid (MBox _ _ _ _ _ _) := Y.out.below hb20_; replace Uv : Hid (URow _ _ _ _ _) := Uv.out.below hb20_; replace SV : Hid (SeesU _ _ _) := SV.out.below hb20_; replace Uw : Hid (URow _ _ _ _ _) := Uw.out.below hb20_; replace UG : Hid (URow _ _ _ _ _) := UG.out.below hb20_; replace G : Hid (MBox _ _ _ _ _ _) := G.out.below hb20_; replace Uh : Hid (URow _ _ _ _ _) := Uh.out.below hb20_; replace Hc : Hid (IsCalc _ _ _ _) := Hc.out.later hb20_; replace US : Hid (URow _ _ _ _ _) := US.out.below hb20_; replace S : Hid (MBox _ _ _ _ _ _) := S.out.below hb20_; replace UT : Hid (URow _ _ _ _ _) := UT.out.below hb20_; replace T : Hid (MBox _ _ _ _ _ _) := T.out.below hb20_; replace Hk : Hid (IsCalc _ _ _ _) := Hk.out.later hb20_; replace Ur : Hid (URow _ _ _ _ _) := Ur.out.below hb20_; replace HS17 : Hid (Bes _ _ _) := HS17.out.step hb20_; replace HS18 : Hid (Bes _ _ _) := HS18.out.step hb20_; obtain ⟨⟨X_0, X_1, X_2, X_3, X_4⟩, X_5⟩ := X.out; have X_6 := X_5 0; have X_7 := X_5 1; have X_8 := X_5 2; have X_9 := X_5 3; clear X_5; obtain ⟨T_0, T_1, T_2, T_3, T_4⟩ := T.out; have Us : Hid (URow w20_ (some ⟨gr2, 0, none⟩) Q cgr2 (fun k => zT (m * Q + k))) := hU_; clear hU_; replace ct : Cnt 3 := Cnt.mk _; clear hb20_ ck) | (have ck : Cnt 3 := ct; go_at_call 18; refine (vDot (.pointer (some ⟨kk, 0, none⟩)) (some kk) _ _ _ Q _ _ (fun k => zX (n * Q + k)) (fun k => zT (m * Q + k)) _ (by first | (with_reducible exact Hk.out) | exact Hk.out.later ((Below.refl _ _).drew)) (by first | (with_reducible exact Ur.out) | exact Ur.out.below ((Below.refl _ _).drew)) (by first | (with_reducible exact Us.out) | exact Us.out.below ((Below.refl _ _).drew)) (Apt.ne Nkk_gr1.out) (Apt.ne Nkk_gr2.out)).mono ?_; rintro e w21_ ⟨rfl, hC_, hb21_⟩; replace hb21_ : Bes (some kk) w20_ w21_ := (by first | exact hb21_ | exact ((Bes.refl _ _).drew).trans hb21_); rw [HD.out]; clear X_0 X_1 X_2 X_3 X_4 X_6 X_7 X_8 X_9 T_0 T_1 T_2 T_3 T_4; replace BW : Hid (Below _ _ _) := Bes.old BW.out hb21_ Ok.out; replace UA : Hid (URow _ _ _ _ _) := UA.out.bes hb21_ A_k_UA.out; replace UX : Hid (URow _ _ _ _ _) := UX.out.bes hb21_ A_k_UX.out; replace X : Hid (WBox _ _ _ _ _ _) := X.out.bes hb21_ (ne_some A_k_X.out); replace UY : Hid (URow _ _ _ _ _) := UY.out.bes hb21_ A_k_UY.out; replace Y : Hid (MBox _ _ _ _ _ _) := Y.out.bes hb21_ (ne_some A_k_Y.out); replace Uv : Hid (URow _ _ _ _ _) := Uv.out.bes hb21_ A_k_Uv.out; replace SV : Hid (SeesU _ _ _) := SV.out.bes hb21_ (ne_some A_k_SV.out); replace Uw : Hid (URow _ _ _ _ _) := Uw.out.bes hb21_ A_k_Uw.out; replace UG : Hid (URow _ _ _ _ _) := UG.out.bes hb21_ (Apt.ne Nkk_gG.out); replace G : Hid (MBox _ _ _ _ _ _) := G.out.bes hb21_ (ne_some Nkk_G.out); replace Uh : Hid (URow _ _ _ _ _) := Uh.out.bes hb21_ (Apt.ne Nkk_gh.out); replace Hc : Hid (IsCalc _ _ _ _) := Hc.out.bes hb21_ (fun j e1 e2 => A_k_c.out ((Option.some.inj e2).trans (Option.some.inj e1).symm)); replace US : Hid (URow _ _ _ _ _) := US.out.bes hb21_ (Apt.ne Nkk_gS.out); replace S : Hid (MBox _ _ _ _ _ _) := S.out.bes hb21_ (ne_some Nkk_S.out); replace UT : Hid (URow _ _ _ _ _) := UT.out.bes hb21_ (Apt.ne Nkk_gT.out); replace T : Hid (MBox _ _ _ _ _ _) := T.out.bes hb21_ (ne_some Nkk_T.out); replace Ur : Hid (URow _ _ _ _ _) := Ur.out.bes hb21_ (Apt.ne Nkk_gr1.out); replace Us : Hid (URow _ _ _ _ _) := Us.out.bes hb21_ (Apt.ne Nkk_gr2.out); replace HS17 : Hid (Bes _ _ _) := HS17.out.trans hb21_; replace HS18 : Hid (Bes _ _ _) := HS18.out.trans hb21_; clear Hk; have Hk : Hid (IsCalc w21_ (.pointer (some ⟨kk, 0, none⟩)) (some kk) (mmR (mmF 0 (fun i j => zX (i * Q + j)) (fun k j => zT (k * Q + j)) Q R n) (fun j => zX (n * Q + j)) (fun k j => zT (k * Q + j)) Q (m + 1))) := hC_; clear hC_; obtain ⟨⟨X_0, X_1, X_2, X_3, X_4⟩, X_5⟩ := X.out; have X_6 := X_5 0; have X_7 := X_5 1; have X_8 := X_5 2; have X_9 := X_5 3; clear X_5; obtain ⟨T_0, T_1, T_2, T_3, T_4⟩ := T.out; replace ct : Cnt 4 := Cnt.mk _; clear hb21_ ck))
            clear ct
            clear Ur Us
            obtain ⟨G_0, G_1, G_2, G_3, G_4⟩ := G.out
            go_wp2_with fail
            refine (mAtN P R R _ _ _ zG n m _ TG.out UG.out (by omega) (by omega)).mono ?_
            rintro e w22_ ⟨rfl, hb22_⟩
            rw [HQ.out]
            clear X_0 X_1 X_2 X_3 X_4 X_6 X_7 X_8 X_9 T_0 T_1 T_2 T_3 T_4 G_0 G_1 G_2 G_3 G_4
            replace BW : Hid (Below _ _ _) := bstep BW.out hb22_
            replace UA : Hid (URow _ _ _ _ _) := UA.out.below hb22_
            replace UX : Hid (URow _ _ _ _ _) := UX.out.below hb22_
            replace X : Hid (WBox _ _ _ _ _ _) := X.out.below hb22_
            replace UY : Hid (URow _ _ _ _ _) := UY.out.below hb22_
            replace Y : Hid (MBox _ _ _ _ _ _) := Y.out.below hb22_
            replace Uv : Hid (URow _ _ _ _ _) := Uv.out.below hb22_
            replace SV : Hid (SeesU _ _ _) := SV.out.below hb22_
            replace Uw : Hid (URow _ _ _ _ _) := Uw.out.below hb22_
            replace UG : Hid (URow _ _ _ _ _) := UG.out.below hb22_
            replace G : Hid (MBox _ _ _ _ _ _) := G.out.below hb22_
            replace Uh : Hid (URow _ _ _ _ _) := Uh.out.below hb22_
            replace Hc : Hid (IsCalc _ _ _ _) := Hc.out.later hb22_
            replace US : Hid (URow _ _ _ _ _) := US.out.below hb22_
            replace S : Hid (MBox _ _ _ _ _ _) := S.out.below hb22_
            replace UT : Hid (URow _ _ _ _ _) := UT.out.below hb22_
            replace T : Hid (MBox _ _ _ _ _ _) := T.out.below hb22_
            replace Hk : Hid (IsCalc _ _ _ _) := Hk.out.later hb22_
            replace HS17 : Hid (Bes _ _ _) := HS17.out.step hb22_
            replace HS18 : Hid (Bes _ _ _) := HS18.out.step hb22_
            clear hb22_
            go_wp2
            go_roundw
            case rel => exact ⟨m + 1, by go_num, by omega, Hk, HS18⟩
            case measure => simp [intOf]; omega
          · obtain rfl : R = m := by omega
            clear HS18
            go_wp2
            go_roundw
            case rel => exact ⟨n + 1, by go_num, by omega, Hk, HS17⟩
            case measure => simp [intOf]; omega
    · obtain rfl : P = n := by omega
      clear HS17
      clear T UT G UG
      have hk_ : IsCalc w17_ (.pointer (some ⟨kk, 0, none⟩)) (some kk) (mmF 0 (fun i j => zX (i * Q + j)) (fun k j => zY (j * R + k)) Q R P) := by
        have h := Hk.out
        rw [mmF_congr 0 (fun i j => zX (i * Q + j)) (fun k j => zT (k * Q + j)) (fun k j => zY (j * R + k)) Q R (fun k j hk hj => ET.out k j hk hj) P] at h
        exact h
      clear Hk
      have Hk : Hid (IsCalc w17_ (.pointer (some ⟨kk, 0, none⟩)) (some kk) (mmF 0 (fun i j => zX (i * Q + j)) (fun k j => zY (j * R + k)) Q R P)) := hk_
      clear hk_
      go_wp2_with fail
      go_loopw [30] (fun s30_ wr => ∃ n : Nat, s30_ = .int .i64 (n : Int) ∧ n ≤ P ∧ Hid (IsCalc wr (.pointer (some ⟨kk, 0, none⟩)) (some kk) (mvF (mmF 0 (fun i j => zX (i * Q + j)) (fun k j => zY (j * R + k)) Q R P) (fun i j => zX (i * Q + j)) zV Q n)) ∧ Hid (Bes (some kk) w17_ wr)) (fun s30_ _ => P - (intOf s30_).toNat)
      case atStart => exact ⟨0, rfl, Nat.zero_le _, Hk.out, Bes.refl _ _⟩
      case round =>
        clear Hk
        obtain ⟨n, rfl, hn_, Hk, HS18⟩ := hrel
        obtain ⟨w18_, rfl⟩ : ∃ x, x = wr := ⟨wr, rfl⟩
        replace BW : Hid (Below _ _ _) := Bes.old BW.out HS18.out Ok.out
        replace UA : Hid (URow _ _ _ _ _) := UA.out.bes HS18.out A_k_UA.out
        replace UX : Hid (URow _ _ _ _ _) := UX.out.bes HS18.out A_k_UX.out
        replace X : Hid (WBox _ _ _ _ _ _) := X.out.bes HS18.out (ne_some A_k_X.out)
        replace UY : Hid (URow _ _ _ _ _) := UY.out.bes HS18.out A_k_UY.out
        replace Y : Hid (MBox _ _ _ _ _ _) := Y.out.bes HS18.out (ne_some A_k_Y.out)
        replace Uv : Hid (URow _ _ _ _ _) := Uv.out.bes HS18.out A_k_Uv.out
        replace SV : Hid (SeesU _ _ _) := SV.out.bes HS18.out (ne_some A_k_SV.out)
        replace Uw : Hid (URow _ _ _ _ _) := Uw.out.bes HS18.out A_k_Uw.out
        replace Uh : Hid (URow _ _ _ _ _) := Uh.out.bes HS18.out (Apt.ne Nkk_gh.out)
        replace Hc : Hid (IsCalc _ _ _ _) := Hc.out.bes HS18.out (fun j e1 e2 => A_k_c.out ((Option.some.inj e2).trans (Option.some.inj e1).symm))
        replace US : Hid (URow _ _ _ _ _) := US.out.bes HS18.out (Apt.ne Nkk_gS.out)
        replace S : Hid (MBox _ _ _ _ _ _) := S.out.bes HS18.out (ne_some Nkk_S.out)
        by_cases hlt : (n : Int) < (P : Int)
        · as_aux_lemma =>
            obtain ⟨d, hd⟩ : ∃ d, dotV (fun k => zX (n * Q + k)) zV Q = d := ⟨_, rfl⟩
            have HD : Hid (_ = _) := hd
            clear hd
            obtain ⟨⟨X_0, X_1, X_2, X_3, X_4⟩, X_5⟩ := X.out
            have X_6 := X_5 0
            have X_7 := X_5 1
            have X_8 := X_5 2
            have X_9 := X_5 3
            clear X_5
            go_wp2_with fail
            refine (lRow11 P Q Q _ _ _ zX n _ TX.out UX.out (by omega) (by omega)).mono ?_
            rintro e w19_ ⟨gr1, cr1, rfl, hg_, hU_, _, hb19_⟩
            have Nkc_gr1 : Hid (kc ≠ gr1) := fun e => absurd (Nat.lt_of_lt_of_le (Hc.out.lt _ rfl) hg_) (by rw [e]; exact Nat.lt_irrefl _)
            have Nkk_gr1 : Hid (kk ≠ gr1) := fun e => absurd (Nat.lt_of_lt_of_le (Hk.out.lt _ rfl) hg_) (by rw [e]; exact Nat.lt_irrefl _)
            clear hg_
            clear X_0 X_1 X_2 X_3 X_4 X_6 X_7 X_8 X_9
            replace BW : Hid (Below _ _ _) := bstep BW.out hb19_
            replace UA : Hid (URow _ _ _ _ _) := UA.out.below hb19_
            replace UX : Hid (URow _ _ _ _ _) := UX.out.below hb19_
            replace X : Hid (WBox _ _ _ _ _ _) := X.out.below hb19_
            replace UY : Hid (URow _ _ _ _ _) := UY.out.below hb19_
            replace Y : Hid (MBox _ _ _ _ _ _) := Y.out.below hb19_
            replace Uv : Hid (URow _ _ _ _ _) := Uv.out.below hb19_
            replace SV : Hid (SeesU _ _ _) := SV.out.below hb19_
            replace Uw : Hid (URow _ _ _ _ _) := Uw.out.below hb19_
            replace Uh : Hid (URow _ _ _ _ _) := Uh.out.below hb19_
            replace Hc : Hid (IsCalc _ _ _ _) := Hc.out.later hb19_
            replace US : Hid (URow _ _ _ _ _) := US.out.below hb19_
            replace S : Hid (MBox _ _ _ _ _ _) := S.out.below hb19_
            replace Hk : Hid (IsCalc _ _ _ _) := Hk.out.later hb19_
            replace HS18 : Hid (Bes _ _ _) := HS18.out.step hb19_
            clear hb19_
            have Ur : Hid (URow w19_ (some ⟨gr1, 0, none⟩) Q cr1 (fun k => zX (n * Q + k))) := hU_
            clear hU_
            go_wp2_with fail
            refine (vDot (.pointer (some ⟨kk, 0, none⟩)) (some kk) _ _ _ Q _ _ (fun k => zX (n * Q + k)) zV _ Hk.out Ur.out Uv.out (Apt.ne Nkk_gr1.out) A_k_Uv.out).mono ?_
            rintro e w20_ ⟨rfl, hC_, hb20_⟩
            rw [HD.out]
            replace BW : Hid (Below _ _ _) := Bes.old BW.out hb20_ Ok.out
            replace UA : Hid (URow _ _ _ _ _) := UA.out.bes hb20_ A_k_UA.out
            replace UX : Hid (URow _ _ _ _ _) := UX.out.bes hb20_ A_k_UX.out
            replace X : Hid (WBox _ _ _ _ _ _) := X.out.bes hb20_ (ne_some A_k_X.out)
            replace UY : Hid (URow _ _ _ _ _) := UY.out.bes hb20_ A_k_UY.out
            replace Y : Hid (MBox _ _ _ _ _ _) := Y.out.bes hb20_ (ne_some A_k_Y.out)
            replace Uv : Hid (URow _ _ _ _ _) := Uv.out.bes hb20_ A_k_Uv.out
            replace SV : Hid (SeesU _ _ _) := SV.out.bes hb20_ (ne_some A_k_SV.out)
            replace Uw : Hid (URow _ _ _ _ _) := Uw.out.bes hb20_ A_k_Uw.out
            replace Uh : Hid (URow _ _ _ _ _) := Uh.out.bes hb20_ (Apt.ne Nkk_gh.out)
            replace Hc : Hid (IsCalc _ _ _ _) := Hc.out.bes hb20_ (fun j e1 e2 => A_k_c.out ((Option.some.inj e2).trans (Option.some.inj e1).symm))
            replace US : Hid (URow _ _ _ _ _) := US.out.bes hb20_ (Apt.ne Nkk_gS.out)
            replace S : Hid (MBox _ _ _ _ _ _) := S.out.bes hb20_ (ne_some Nkk_S.out)
            replace Ur : Hid (URow _ _ _ _ _) := Ur.out.bes hb20_ (Apt.ne Nkk_gr1.out)
            replace HS18 : Hid (Bes _ _ _) := HS18.out.trans hb20_
            clear hb20_
            clear Hk
            have Hk : Hid (IsCalc w20_ (.pointer (some ⟨kk, 0, none⟩)) (some kk) (mvF (mmF 0 (fun i j => zX (i * Q + j)) (fun k j => zY (j * R + k)) Q R P) (fun i j => zX (i * Q + j)) zV Q (n + 1))) := hC_
            clear hC_
            obtain ⟨l_q, q⟩ := Uh.out.cellg n (by omega)
            (try simp only at q)
            rw [HD.out] at q
            go_wp2
            go_roundw
            case rel => exact ⟨n + 1, by go_num, by omega, Hk, HS18⟩
            case measure => simp [intOf]; omega
        · obtain rfl : P = n := by omega
          clear HS18
          clear Uh
          go_wp2_with fail
          go_loopw [33] (fun s33_ wr => ∃ n : Nat, s33_ = .int .i64 (n : Int) ∧ n ≤ P ∧ Hid (IsCalc wr (.pointer (some ⟨kk, 0, none⟩)) (some kk) (geF (mvF (mmF 0 (fun i j => zX (i * Q + j)) (fun k j => zY (j * R + k)) Q R P) (fun i j => zX (i * Q + j)) zV Q P) a4 (fun i j => zX (i * Q + j)) zW zV Q n)) ∧ Hid (Bes (some kk) w18_ wr)) (fun s33_ _ => P - (intOf s33_).toNat)
          case atStart => exact ⟨0, rfl, Nat.zero_le _, Hk.out, Bes.refl _ _⟩
          case round =>
            clear Hk
            obtain ⟨n, rfl, hn_, Hk, HS19⟩ := hrel
            obtain ⟨w19_, rfl⟩ : ∃ x, x = wr := ⟨wr, rfl⟩
            replace BW : Hid (Below _ _ _) := Bes.old BW.out HS19.out Ok.out
            replace UA : Hid (URow _ _ _ _ _) := UA.out.bes HS19.out A_k_UA.out
            replace UX : Hid (URow _ _ _ _ _) := UX.out.bes HS19.out A_k_UX.out
            replace X : Hid (WBox _ _ _ _ _ _) := X.out.bes HS19.out (ne_some A_k_X.out)
            replace UY : Hid (URow _ _ _ _ _) := UY.out.bes HS19.out A_k_UY.out
            replace Y : Hid (MBox _ _ _ _ _ _) := Y.out.bes HS19.out (ne_some A_k_Y.out)
            replace Uv : Hid (URow _ _ _ _ _) := Uv.out.bes HS19.out A_k_Uv.out
            replace SV : Hid (SeesU _ _ _) := SV.out.bes HS19.out (ne_some A_k_SV.out)
            replace Uw : Hid (URow _ _ _ _ _) := Uw.out.bes HS19.out A_k_Uw.out
            replace Hc : Hid (IsCalc _ _ _ _) := Hc.out.bes HS19.out (fun j e1 e2 => A_k_c.out ((Option.some.inj e2).trans (Option.some.inj e1).symm))
            replace US : Hid (URow _ _ _ _ _) := US.out.bes HS19.out (Apt.ne Nkk_gS.out)
            replace S : Hid (MBox _ _ _ _ _ _) := S.out.bes HS19.out (ne_some Nkk_S.out)
            by_cases hlt : (n : Int) < (P : Int)
            · as_aux_lemma =>
                obtain ⟨l_q, q⟩ := Uw.out.cellg n (by omega)
                obtain ⟨x0, x1⟩ := Uw.out.2.2.1 n
                obtain ⟨FN, hFN⟩ : ∃ f, f = geF (mvF (mmF 0 (fun i j => zX (i * Q + j)) (fun k j => zY (j * R + k)) Q R P) (fun i j => zX (i * Q + j)) zV Q P) a4 (fun i j => zX (i * Q + j)) zW zV Q n := ⟨_, rfl⟩
                rw [← hFN] at Hk
                have HFN : Hid (geR (bits .or .u8 FN (mulS a4 (zW n)).2) (mulS a4 (zW n)).1 (fun j => zX (n * Q + j)) zV Q = geF (mvF (mmF 0 (fun i j => zX (i * Q + j)) (fun k j => zY (j * R + k)) Q R P) (fun i j => zX (i * Q + j)) zV Q P) a4 (fun i j => zX (i * Q + j)) zW zV Q (n + 1)) := by rw [hFN]; rfl
                have ESn : Hid (∀ k, k < Q → zS (n * Q + k) = (addS (zX (n * Q + k)) (mulS (mulS a4 (zW n)).1 (zV k)).1).1) := fun k hk => ES.out n k (by omega) hk
                obtain ⟨m0, m1⟩ := mulS_rng a4 (zW n)
                obtain ⟨xw, hxw⟩ : ∃ x, zW n = x := ⟨_, rfl⟩
                rw [hxw] at q x0 x1 HFN ESn m0 m1
                obtain ⟨M, hM⟩ : ∃ M, mulS a4 xw = M := ⟨_, rfl⟩
                rw [hM] at HFN ESn m0 m1
                have HM : Hid (_ = _) := hM
                clear hxw hFN hM
                obtain ⟨f, ff⟩ := M
                simp only at HFN ESn m0 m1
                go_wp2_with fail
                refine (uMul (.pointer (some ⟨kk, 0, none⟩)) (some kk) a4 xw FN _ Hk.out al0 al1 x0 x1).mono ?_
                rintro e w20_ ⟨rfl, hC_, hb20_⟩
                rw [HM.out] at hC_ ⊢
                replace BW : Hid (Below _ _ _) := Bes.old BW.out hb20_ Ok.out
                replace UA : Hid (URow _ _ _ _ _) := UA.out.bes hb20_ A_k_UA.out
                replace UX : Hid (URow _ _ _ _ _) := UX.out.bes hb20_ A_k_UX.out
                replace X : Hid (WBox _ _ _ _ _ _) := X.out.bes hb20_ (ne_some A_k_X.out)
                replace UY : Hid (URow _ _ _ _ _) := UY.out.bes hb20_ A_k_UY.out
                replace Y : Hid (MBox _ _ _ _ _ _) := Y.out.bes hb20_ (ne_some A_k_Y.out)
                replace Uv : Hid (URow _ _ _ _ _) := Uv.out.bes hb20_ A_k_Uv.out
                replace SV : Hid (SeesU _ _ _) := SV.out.bes hb20_ (ne_some A_k_SV.out)
                replace Uw : Hid (URow _ _ _ _ _) := Uw.out.bes hb20_ A_k_Uw.out
                replace Hc : Hid (IsCalc _ _ _ _) := Hc.out.bes hb20_ (fun j e1 e2 => A_k_c.out ((Option.some.inj e2).trans (Option.some.inj e1).symm))
                replace US : Hid (URow _ _ _ _ _) := US.out.bes hb20_ (Apt.ne Nkk_gS.out)
                replace S : Hid (MBox _ _ _ _ _ _) := S.out.bes hb20_ (ne_some Nkk_S.out)
                replace HS19 : Hid (Bes _ _ _) := HS19.out.trans hb20_
                clear hb20_
                clear Hk
                have Hk : Hid (IsCalc w20_ (.pointer (some ⟨kk, 0, none⟩)) (some kk) (bits .or .u8 FN ff)) := hC_
                clear hC_
                clear l_q q
                go_wp2_with fail
                go_loopw [35] (fun s35_ wr => ∃ m : Nat, s35_ = .int .i64 (m : Int) ∧ m ≤ Q ∧ Hid (IsCalc wr (.pointer (some ⟨kk, 0, none⟩)) (some kk) (geR (bits .or .u8 FN ff) f (fun j => zX (n * Q + j)) zV m)) ∧ Hid (Bes (some kk) w20_ wr)) (fun s35_ _ => Q - (intOf s35_).toNat)
                case atStart => exact ⟨0, rfl, Nat.zero_le _, Hk.out, Bes.refl _ _⟩
                case round =>
                  clear Hk
                  obtain ⟨m, rfl, hm_, Hk, HS21⟩ := hrel
                  obtain ⟨w21_, rfl⟩ : ∃ x, x = wr := ⟨wr, rfl⟩
                  replace BW : Hid (Below _ _ _) := Bes.old BW.out HS21.out Ok.out
                  replace UA : Hid (URow _ _ _ _ _) := UA.out.bes HS21.out A_k_UA.out
                  replace UX : Hid (URow _ _ _ _ _) := UX.out.bes HS21.out A_k_UX.out
                  replace X : Hid (WBox _ _ _ _ _ _) := X.out.bes HS21.out (ne_some A_k_X.out)
                  replace UY : Hid (URow _ _ _ _ _) := UY.out.bes HS21.out A_k_UY.out
                  replace Y : Hid (MBox _ _ _ _ _ _) := Y.out.bes HS21.out (ne_some A_k_Y.out)
                  replace Uv : Hid (URow _ _ _ _ _) := Uv.out.bes HS21.out A_k_Uv.out
                  replace SV : Hid (SeesU _ _ _) := SV.out.bes HS21.out (ne_some A_k_SV.out)
                  replace Uw : Hid (URow _ _ _ _ _) := Uw.out.bes HS21.out A_k_Uw.out
                  replace Hc : Hid (IsCalc _ _ _ _) := Hc.out.bes HS21.out (fun j e1 e2 => A_k_c.out ((Option.some.inj e2).trans (Option.some.inj e1).symm))
                  replace US : Hid (URow _ _ _ _ _) := US.out.bes HS21.out (Apt.ne Nkk_gS.out)
                  replace S : Hid (MBox _ _ _ _ _ _) := S.out.bes HS21.out (ne_some Nkk_S.out)
                  replace HS19 : Hid (Bes _ _ _) := HS19.out.trans HS21.out
                  by_cases hlt2 : (m : Int) < (Q : Int)
                  · skip
                    obtain ⟨l_q0, q0⟩ := Uv.out.cellg m (by omega)
                    obtain ⟨v0, v1⟩ := Uv.out.2.2.1 m
                    obtain ⟨y0, y1⟩ := UX.out.2.2.1 (n * Q + m)
                    have EV := ESn.out m (by omega)
                    have SF : Hid (bits .or .u8 (bits .or .u8 (geR (bits .or .u8 FN ff) f (fun j => zX (n * Q + j)) zV m) (mulS f (zV m)).2) (addS (zX (n * Q + m)) (mulS f (zV m)).1).2 = geR (bits .or .u8 FN ff) f (fun j => zX (n * Q + j)) zV (m + 1)) := rfl
                    obtain ⟨u0, u1⟩ := mulS_rng f (zV m)
                    obtain ⟨F2, hF2⟩ : ∃ g, geR (bits .or .u8 FN ff) f (fun j => zX (n * Q + j)) zV m = g := ⟨_, rfl⟩
                    obtain ⟨v, hv⟩ : ∃ v, zV m = v := ⟨_, rfl⟩
                    obtain ⟨x, hx⟩ : ∃ v, zX (n * Q + m) = v := ⟨_, rfl⟩
                    rw [hv] at q0 v0 v1 EV SF u0 u1
                    rw [hx] at y0 y1 EV SF
                    rw [hF2] at SF Hk
                    obtain ⟨M, hM2⟩ : ∃ M, mulS f v = M := ⟨_, rfl⟩
                    rw [hM2] at SF EV u0 u1
                    have HM2 : Hid (_ = _) := hM2
                    have HX1 : Hid (_ = _) := hx
                    have HV1 : Hid (_ = _) := hv
                    clear hv hx hF2 hM2
                    obtain ⟨u, fu⟩ := M
                    simp only at SF EV u0 u1
                    obtain ⟨AA, hA⟩ : ∃ A, addS x u = A := ⟨_, rfl⟩
                    rw [hA] at SF EV
                    have HA : Hid (_ = _) := hA
                    clear hA
                    obtain ⟨s, fs⟩ := AA
                    simp only at SF EV
                    have HS1 : Hid (_ = _) := EV
                    clear EV
                    go_wp2_with fail
                    obtain ⟨S_0, S_1, S_2, S_3, S_4⟩ := S.out
                    obtain ⟨⟨X_0, X_1, X_2, X_3, X_4⟩, X_5⟩ := X.out
                    have X_6 := X_5 0
                    have X_7 := X_5 1
                    have X_8 := X_5 2
                    have X_9 := X_5 3
                    clear X_5
                    have ct : Cnt 1 := Cnt.mk _
                    go_region_held3 (fun w' => (w'.cell? ⟨k_S, 0, none⟩ = some (.int .i64 (P : Int)) ∧ w'.cell? ⟨k_S, 1, none⟩ = some (.int .i64 (Q : Int)) ∧ w'.cell? ⟨k_S, 2, none⟩ = some (.int .i64 (Q : Int)) ∧ w'.cell? ⟨k_S, 3, none⟩ = some (.slice (some ⟨gS, 0, none⟩) (P * Q) (P * Q))) ∧ (w'.cell? ⟨k_X, 0, none⟩ = some (.int .i64 (P : Int)) ∧ w'.cell? ⟨k_X, 1, none⟩ = some (.int .i64 (Q : Int)) ∧ w'.cell? ⟨k_X, 2, none⟩ = some (.int .i64 (Q : Int)) ∧ w'.cell? ⟨k_X, 3, none⟩ = some (.slice (some ⟨gX, 0, none⟩) (P * Q) (P * Q))) ∧ (w'.cell? ⟨gv, m, none⟩ = some (.int .u64 v))) (simp [go_sem, *]) (first | (have ck : Cnt 1 := ct; go_at_call 19; refine (mAtN P Q Q _ _ _ zS n m _ TX.out (by first | (with_reducible exact US.out) | exact US.out.below ((Below.refl _ _).drew)) (by omega) (by omega)).mono ?_; rintro e w22_ ⟨rfl, hb22_⟩; replace hb22_ : Below w21_.heap.size w21_ w22_ := (by first | exact hb22_ | exact ((Below.refl _ _).drew).trans hb22_); rw [HS1.out]; clear S_0 S_1 S_2 S_3 S_4 X_0 X_1 X_2 X_3 X_4 X_6 X_7 X_8 X_9; replace BW : Hid (Below _ _ _) := bstep BW.out hb22_; replace UA : Hid (URow _ _ _ _ _) := UA.out.below hb22_; replace UX : Hid (URow _ _ _ _ _) := UX.out.below hb22_; replace X : Hid (WBox _ _ _ _ _ _) := X.out.below hb22_; replace UY : Hid (URow _ _ _ _ _) := UY.out.below hb22_; replace Y : Hid (MBox _ _ _ _ _ _) := Y.out.below hb22_; replace Uv : Hid (URow _ _ _ _ _) := Uv.out.below hb22_; replace SV : Hid (SeesU _ _ _) := SV.out.below hb22_; replace Uw : Hid (URow _ _ _ _ _) := Uw.out.below hb22_; replace Hc : Hid (IsCalc _ _ _ _) := Hc.out.later hb22_; replace US : Hid (URow _ _ _ _ _) := US.out.below hb22_; replace S : Hid (MBox _ _ _ _ _ _) := S.out.below hb22_; replace Hk : Hid (IsCalc _ _ _ _) := Hk.out.later hb22_; replace HS19 : Hid (Bes _ _ _) := HS19.out.step hb22_; replace HS21 : Hid (Bes _ _ _) := HS21.out.step hb22_; obtain ⟨S_0, S_1, S_2, S_3, S_4⟩ := S.out; obtain ⟨⟨X_0, X_1, X_2, X_3, X_4⟩, X_5⟩ := X.out; have X_6 := X_5 0; have X_7 := X_5 1; have X_8 := X_5 2; have X_9 := X_5 3; clear X_5; obtain ⟨l_q1, q1⟩ := Uv.out.cellg m (by omega); rw [HV1.out] at q1; replace ct : Cnt 2 := Cnt.mk _; clear hb22_ ck) | (have ck : Cnt 2 := ct; go_at_call 19; refine (mAtN P Q Q _ _ _ zX n m _ TX.out (by first | (with_reducible exact UX.out) | exact UX.out.below ((Below.refl _ _).drew)) (by omega) (by omega)).mono ?_; rintro e w23_ ⟨rfl, hb23_⟩; replace hb23_ : Below w22_.heap.size w22_ w23_ := (by first | exact hb23_ | exact ((Below.refl _ _).drew).trans hb23_); rw [HX1.out]; clear S_0 S_1 S_2 S_3 S_4 X_0 X_1 X_2 X_3 X_4 X_6 X_7 X_8 X_9; replace BW : Hid (Below _ _ _) := bstep BW.out hb23_; replace UA : Hid (URow _ _ _ _ _) := UA.out.below hb23_; replace UX : Hid (URow _ _ _ _ _) := UX.out.below hb23_; replace X : Hid (WBox _ _ _ _ _ _) := X.out.below hb23_; replace UY : Hid (URow _ _ _ _ _) := UY.out.below hb23_; replace Y : Hid (MBox _ _ _ _ _ _) := Y.out.below hb23_; replace Uv : Hid (URow _ _ _ _ _) := Uv.out.below hb23_; replace SV : Hid (SeesU _ _ _) := SV.out.below hb23_; replace Uw : Hid (URow _ _ _ _ _) := Uw.out.below hb23_; replace Hc : Hid (IsCalc _ _ _ _) := Hc.out.later hb23_; replace US : Hid (URow _ _ _ _ _) := US.out.below hb23_; replace S : Hid (MBox _ _ _ _ _ _) := S.out.below hb23_; replace Hk : Hid (IsCalc _ _ _ _) := Hk.out.later hb23_; replace HS19 : Hid (Bes _ _ _) := HS19.out.step hb23_; replace HS21 : Hid (Bes _ _ _) := HS21.out.step hb23_; obtain ⟨S_0, S_1, S_2, S_3, S_4⟩ := S.out; obtain ⟨⟨X_0, X_1, X_2, X_3, X_4⟩, X_5⟩ := X.out; have X_6 := X_5 0; have X_7 := X_5 1; have X_8 := X_5 2; have X_9 := X_5 3; clear X_5; obtain ⟨l_q2, q2⟩ := Uv.out.cellg m (by omega); rw [HV1.out] at q2; replace ct : Cnt 3 := Cnt.mk _; clear hb23_ ck) | (have ck : Cnt 3 := ct; go_at_call 20; refine (uMul (.pointer (some ⟨kk, 0, none⟩)) (some kk) f v F2 _ (by first | (with_reducible exact Hk.out) | exact Hk.out.later ((Below.refl _ _).drew)) m0 m1 v0 v1).mono ?_; rintro e w24_ ⟨rfl, hC_, hb24_⟩; replace hb24_ : Bes (some kk) w23_ w24_ := (by first | exact hb24_ | exact ((Bes.refl _ _).drew).trans hb24_); rw [HM2.out] at hC_ ⊢; clear S_0 S_1 S_2 S_3 S_4 X_0 X_1 X_2 X_3 X_4 X_6 X_7 X_8 X_9; replace BW : Hid (Below _ _ _) := Bes.old BW.out hb24_ Ok.out; replace UA : Hid (URow _ _ _ _ _) := UA.out.bes hb24_ A_k_UA.out; replace UX : Hid (URow _ _ _ _ _) := UX.out.bes hb24_ A_k_UX.out; replace X : Hid (WBox _ _ _ _ _ _) := X.out.bes hb24_ (ne_some A_k_X.out); replace UY : Hid (URow _ _ _ _ _) := UY.out.bes hb24_ A_k_UY.out; replace Y : Hid (MBox _ _ _ _ _ _) := Y.out.bes hb24_ (ne_some A_k_Y.out); replace Uv : Hid (URow _ _ _ _ _) := Uv.out.bes hb24_ A_k_Uv.out; replace SV : Hid (SeesU _ _ _) := SV.out.bes hb24_ (ne_some A_k_SV.out); replace Uw : Hid (URow _ _ _ _ _) := Uw.out.bes hb24_ A_k_Uw.out; replace Hc : Hid (IsCalc _ _ _ _) := Hc.out.bes hb24_ (fun j e1 e2 => A_k_c.out ((Option.some.inj e2).trans (Option.some.inj e1).symm)); replace US : Hid (URow _ _ _ _ _) := US.out.bes hb24_ (Apt.ne Nkk_gS.out); replace S : Hid (MBox _ _ _ _ _ _) := S.out.bes hb24_ (ne_some Nkk_S.out); replace HS19 : Hid (Bes _ _ _) := HS19.out.trans hb24_; replace HS21 : Hid (Bes _ _ _) := HS21.out.trans hb24_; clear Hk; have Hk : Hid (IsCalc w24_ (.pointer (some ⟨kk, 0, none⟩)) (some kk) (bits .or .u8 F2 fu)) := hC_; clear hC_; obtain ⟨S_0, S_1, S_2, S_3, S_4⟩ := S.out; obtain ⟨⟨X_0, X_1, X_2, X_3, X_4⟩, X_5⟩ := X.out; have X_6 := X_5 0; have X_7 := X_5 1; have X_8 := X_5 2; have X_9 := X_5 3; clear X_5; obtain ⟨l_q3, q3⟩ := Uv.out.cellg m (by omega); rw [HV1.out] at q3; replace ct : Cnt 4 := Cnt.mk _; clear hb24_ ck) | (have ck : Cnt 4 := ct; go_at_call 21; refine (uAdd (.pointer (some ⟨kk, 0, none⟩)) (some kk) x u _ _ (by first | (with_reducible exact Hk.out) | exact Hk.out.later ((Below.refl _ _).drew)) y0 y1 u0 u1).mono ?_; rintro e w25_ ⟨rfl, hC_, hb25_⟩; replace hb25_ : Bes (some kk) w24_ w25_ := (by first | exact hb25_ | exact ((Bes.refl _ _).drew).trans hb25_); rw [HA.out] at hC_ ⊢; rw [SF.out] at hC_; clear S_0 S_1 S_2 S_3 S_4 X_0 X_1 X_2 X_3 X_4 X_6 X_7 X_8 X_9; replace BW : Hid (Below _ _ _) := Bes.old BW.out hb25_ Ok.out; replace UA : Hid (URow _ _ _ _ _) := UA.out.bes hb25_ A_k_UA.out; replace UX : Hid (URow _ _ _ _ _) := UX.out.bes hb25_ A_k_UX.out; replace X : Hid (WBox _ _ _ _ _ _) := X.out.bes hb25_ (ne_some A_k_X.out); replace UY : Hid (URow _ _ _ _ _) := UY.out.bes hb25_ A_k_UY.out; replace Y : Hid (MBox _ _ _ _ _ _) := Y.out.bes hb25_ (ne_some A_k_Y.out); replace Uv : Hid (URow _ _ _ _ _) := Uv.out.bes hb25_ A_k_Uv.out; replace SV : Hid (SeesU _ _ _) := SV.out.bes hb25_ (ne_some A_k_SV.out); replace Uw : Hid (URow _ _ _ _ _) := Uw.out.bes hb25_ A_k_Uw.out; replace Hc : Hid (IsCalc _ _ _ _) := Hc.out.bes hb25_ (fun j e1 e2 => A_k_c.out ((Option.some.inj e2).trans (Option.some.inj e1).symm)); replace US : Hid (URow _ _ _ _ _) := US.out.bes hb25_ (Apt.ne Nkk_gS.out); replace S : Hid (MBox _ _ _ _ _ _) := S.out.bes hb25_ (ne_some Nkk_S.out); replace HS19 : Hid (Bes _ _ _) := HS19.out.trans hb25_; replace HS21 : Hid (Bes _ _ _) := HS21.out.trans hb25_; clear Hk; have Hk : Hid (IsCalc w25_ (.pointer (some ⟨kk, 0, none⟩)) (some kk) (geR (bits .or .u8 FN ff) f (fun j => zX (n * Q + j)) zV (m + 1))) := hC_; clear hC_; obtain ⟨S_0, S_1, S_2, S_3, S_4⟩ := S.out; obtain ⟨⟨X_0, X_1, X_2, X_3, X_4⟩, X_5⟩ := X.out; have X_6 := X_5 0; have X_7 := X_5 1; have X_8 := X_5 2; have X_9 := X_5 3; clear X_5; obtain ⟨l_q4, q4⟩ := Uv.out.cellg m (by omega); rw [HV1.out] at q4; replace ct : Cnt 5 := Cnt.mk _; clear hb25_ ck))
                    clear ct
                    go_wp2
                    go_roundw
                    case rel => exact ⟨m + 1, by go_num, by omega, Hk, HS21⟩
                    case measure => simp [intOf]; omega
                  · obtain rfl : Q = m := by omega
                    clear HS21
                    rw [HFN.out] at Hk
                    go_wp2
                    go_roundw
                    case rel => exact ⟨n + 1, by go_num, by omega, Hk, HS19⟩
                    case measure => simp [intOf]; omega
            · obtain rfl : P = n := by omega
              clear HS19
              clear S US Uw
              obtain ⟨FF, hFF⟩ : ∃ F, geF (mvF (mmF 0 (fun i j => zX (i * Q + j)) (fun k j => zY (j * R + k)) Q R P) (fun i j => zX (i * Q + j)) zV Q P) a4 (fun i j => zX (i * Q + j)) zW zV Q P = F := ⟨_, rfl⟩
              rw [hFF] at Hc Hk
              clear hFF
              obtain ⟨Q1, hQ1⟩ : ∃ x, x = Q + 1 := ⟨_, rfl⟩
              have hq1 : IntKind.i64.wrap ((Q : Int) + 1) = (Q1 : Int) := by rw [IntKind.wrap_i64]; omega
              have hq2 : (Q : Int) + 1 = (Q1 : Int) := by omega
              have hq3 : IntKind.i64.wrap (Q1 : Int) = (Q1 : Int) := by rw [IntKind.wrap_i64]; omega
              have HQ1 : Hid (Q1 = Q + 1) := hQ1
              have hQ18 : Q1 ≤ 8 := by omega
              have hQ1R : Q1 * R ≤ 56 := Nat.mul_le_mul hQ18 hR7
              have TZ : Hid (Rgt (Q1 : Int) (R : Int) (R : Int) (Q1 * R)) := tight Q1 R (by omega) (by omega)
              clear hQ1
              obtain ⟨c1, c2, c3⟩ := calc_cell Hc.out
              obtain ⟨k1, k2, k3⟩ := calc_cell Hk.out
              go_wp2_with fail
              have ct : Cnt 1 := Cnt.mk _
              go_region_held3 (fun w' => (w'.cell? ⟨kc, 0, none⟩ = some (.int .u8 FF)) ∧ (w'.cell? ⟨kk, 0, none⟩ = some (.int .u8 FF))) (simp [go_sem, *]) (first | fail)
              clear ct
              have hb_ : Below w19_.heap.size w19_ w19_.drew := (Below.refl _ _).drew
              generalize w19_.drew = w20_ at hb_ ⊢
              replace BW : Hid (Below _ _ _) := bstep BW.out hb_
              replace UA : Hid (URow _ _ _ _ _) := UA.out.below hb_
              replace UX : Hid (URow _ _ _ _ _) := UX.out.below hb_
              replace X : Hid (WBox _ _ _ _ _ _) := X.out.below hb_
              replace UY : Hid (URow _ _ _ _ _) := UY.out.below hb_
              replace Y : Hid (MBox _ _ _ _ _ _) := Y.out.below hb_
              replace Uv : Hid (URow _ _ _ _ _) := Uv.out.below hb_
              replace SV : Hid (SeesU _ _ _) := SV.out.below hb_
              replace Hc : Hid (IsCalc _ _ _ _) := Hc.out.later hb_
              replace Hk : Hid (IsCalc _ _ _ _) := Hk.out.later hb_
              clear hb_
              clear c1 c2 c3 k1 k2 k3
              go_wp2_with fail
              obtain ⟨⟨X_0, X_1, X_2, X_3, X_4⟩, X_5⟩ := X.out
              have X_6 := X_5 0
              have X_7 := X_5 1
              have X_8 := X_5 2
              have X_9 := X_5 3
              clear X_5
              have ct : Cnt 1 := Cnt.mk _
              go_region_held3 (fun w' => (w'.cell? ⟨k_X, 0, none⟩ = some (.int .i64 (P : Int)) ∧ w'.cell? ⟨k_X, 1, none⟩ = some (.int .i64 (Q : Int)) ∧ w'.cell? ⟨k_X, 2, none⟩ = some (.int .i64 (Q : Int)) ∧ w'.cell? ⟨k_X, 3, none⟩ = some (.slice (some ⟨gX, 0, none⟩) (P * Q) (P * Q)))) (simp [go_sem, *]) (first | (have ck : Cnt 1 := ct; go_at_call 12; refine (lMade11 Q1 R 0 a3 len3 cap3 U _ (by first | (with_reducible exact UA.out) | exact UA.out.below ((Below.refl _ _).drew)) (by omega) (by omega) (by omega) (by omega)).mono ?_; rintro e w21_ ⟨g9, rfl, hg_, hU_, hb21_⟩; replace hb21_ : Below w20_.heap.size w20_ w21_ := (by first | exact hb21_ | exact ((Below.refl _ _).drew).trans hb21_); clear X_0 X_1 X_2 X_3 X_4 X_6 X_7 X_8 X_9; replace BW : Hid (Below _ _ _) := bstep BW.out hb21_; replace UA : Hid (URow _ _ _ _ _) := UA.out.below hb21_; replace UX : Hid (URow _ _ _ _ _) := UX.out.below hb21_; replace X : Hid (WBox _ _ _ _ _ _) := X.out.below hb21_; replace UY : Hid (URow _ _ _ _ _) := UY.out.below hb21_; replace Y : Hid (MBox _ _ _ _ _ _) := Y.out.below hb21_; replace Uv : Hid (URow _ _ _ _ _) := Uv.out.below hb21_; replace SV : Hid (SeesU _ _ _) := SV.out.below hb21_; replace Hc : Hid (IsCalc _ _ _ _) := Hc.out.later hb21_; replace Hk : Hid (IsCalc _ _ _ _) := Hk.out.later hb21_; obtain ⟨⟨X_0, X_1, X_2, X_3, X_4⟩, X_5⟩ := X.out; have X_6 := X_5 0; have X_7 := X_5 1; have X_8 := X_5 2; have X_9 := X_5 3; clear X_5; clear hU_ hg_; replace ct : Cnt 2 := Cnt.mk _; clear hb21_ ck) | (have ck : Cnt 2 := ct; go_at_call 14; refine (mGemmBad (.pointer (some ⟨kc, 0, none⟩)) (P : Int) (Q : Int) (Q : Int) _ (P * Q) (P * Q) (Q1 : Int) (R : Int) (R : Int) _ (Q1 * R) (Q1 * R) _ TX.out TZ.out (by omega) (by omega) (by have := HQ1.out; omega)).mono ?_; rintro e w22_ ⟨rfl, hb22_⟩; replace hb22_ : Below w21_.heap.size w21_ w22_ := (by first | exact hb22_ | exact ((Below.refl _ _).drew).trans hb22_); clear X_0 X_1 X_2 X_3 X_4 X_6 X_7 X_8 X_9; replace BW : Hid (Below _ _ _) := bstep BW.out hb22_; replace UA : Hid (URow _ _ _ _ _) := UA.out.below hb22_; replace UX : Hid (URow _ _ _ _ _) := UX.out.below hb22_; replace X : Hid (WBox _ _ _ _ _ _) := X.out.below hb22_; replace UY : Hid (URow _ _ _ _ _) := UY.out.below hb22_; replace Y : Hid (MBox _ _ _ _ _ _) := Y.out.below hb22_; replace Uv : Hid (URow _ _ _ _ _) := Uv.out.below hb22_; replace SV : Hid (SeesU _ _ _) := SV.out.below hb22_; replace Hc : Hid (IsCalc _ _ _ _) := Hc.out.later hb22_; replace Hk : Hid (IsCalc _ _ _ _) := Hk.out.later hb22_; obtain ⟨⟨X_0, X_1, X_2, X_3, X_4⟩, X_5⟩ := X.out; have X_6 := X_5 0; have X_7 := X_5 1; have X_8 := X_5 2; have X_9 := X_5 3; clear X_5; replace ct : Cnt 3 := Cnt.mk _; clear hb22_ ck))
              clear ct
              have HN7 : Hid ((([] ++ lst zV Q) ++ [(0 : Int)]).length = Q1) := by
                show _ = _
                rw [List.length_append, List.nil_append, lst_len]
                exact HQ1.out.symm
              have HLX : Hid (((P * Q : Nat) : Int) ≤ 9223372036854775807) := by show _ ≤ _; omega
              have HNE : Hid ((Q : Int) ≠ (Q1 : Int)) := by have := HQ1.out; show _ ≠ _; omega
              go_wp2_with fail
              clear X_0 X_1 X_2 X_3 X_4 X_6 X_7 X_8 X_9
              go_cut [22] (fun t wx => t = .int .i64 4 ∧ Hid (Below w22_.heap.size w22_ wx))
              case first =>
                as_aux_lemma =>
                  obtain ⟨⟨X_0, X_1, X_2, X_3, X_4⟩, X_5⟩ := X.out
                  have X_6 := X_5 0
                  have X_7 := X_5 1
                  have X_8 := X_5 2
                  have X_9 := X_5 3
                  clear X_5
                  have dh : ∀ w : World, w.drew.heap = w.heap := fun _ => rfl
                  have ct : Cnt 1 := Cnt.mk _
                  have hw0_ : w22_.heap.size = w22_.heap.size := rfl
                  have HBa : Hid (Below w22_.heap.size w22_ w22_) := Below.refl _ _
                  go_region_held3 (fun w' => (w'.cell? ⟨k_X, 0, none⟩ = some (.int .i64 (P : Int)) ∧ w'.cell? ⟨k_X, 1, none⟩ = some (.int .i64 (Q : Int)) ∧ w'.cell? ⟨k_X, 2, none⟩ = some (.int .i64 (Q : Int)) ∧ w'.cell? ⟨k_X, 3, none⟩ = some (.slice (some ⟨gX, 0, none⟩) (P * Q) (P * Q)))) (exact (X.out.below (by with_reducible repeat (first | (refine Below.drew ?_) | (refine bmore ?_ _) | exact HBa.out | exact Below.refl _ _))).cells) (first | (have ck : Cnt 1 := ct; refine stepU_app rfl _ _ rfl w22_.heap.size _ [] rfl (by first | (exact own_at _ _ _ (by first | (simp [dh]; done) | (simp [dh]; omega) | omega) (by first | (simp [dh]; done) | (simp [dh]; omega) | omega)) | (exact (own_at _ _ _ (by first | (simp [dh]; done) | (simp [dh]; omega) | omega) (by first | (simp [dh]; done) | (simp [dh]; omega) | omega)).alloc _) | (exact (own_at _ _ _ (by first | (simp [dh]; done) | (simp [dh]; omega) | omega) (by first | (simp [dh]; done) | (simp [dh]; omega) | omega)).below (Below.refl _ _).drew) | (exact ((own_at _ _ _ (by first | (simp [dh]; done) | (simp [dh]; omega) | omega) (by first | (simp [dh]; done) | (simp [dh]; omega) | omega)).alloc _).below (Below.refl _ _).drew)) _ (lst zV Q) rfl (SV.out.below (by with_reducible repeat (first | (refine Below.drew ?_) | (refine bmore ?_ _) | exact HBa.out | exact Below.refl _ _))) (by rw [lst_len]; simp; omega) (by first | (simp [dh]; done) | (simp [dh]; omega) | omega) ?_; intro v6 w6 own6 bel6 hg6 hat6; have bel6' : Below w22_.heap.size w22_ w6 := Below.trans (by with_reducible repeat (first | (refine Below.drew ?_) | (refine bmore ?_ _) | exact (Below.refl _ _) | exact Below.refl _ _)) bel6; have hs6 := bel6'.size; (first | have sB6 := sees_grown_ab hg6 | have sB6 := sees_grown_ba hg6 | skip); replace HBa : Hid (Below w22_.heap.size w22_ w6) := bel6'; replace ct : Cnt 2 := Cnt.mk _; clear ck) | (have ck : Cnt 2 := ct; refine stepU_app rfl _ _ rfl w22_.heap.size _ ([] ++ lst zV Q) rfl (by first | exact own6 | exact own6.alloc _ | exact own6.below (Below.refl _ _).drew | exact (own6.alloc _).below (Below.refl _ _).drew) _ [0] rfl (by first | exact sB6 | exact sB6.below (Below.refl _ _).drew | exact sees_at _ _ _ (by first | (simp [dh]; done) | (simp [dh]; omega) | omega) | exact (sees_at _ _ _ (by first | (simp [dh]; done) | (simp [dh]; omega) | omega)).below (Below.refl _ _).drew) (by rw [List.nil_append, lst_len]; simp; omega) (by first | (simp [dh]; done) | (simp [dh]; omega) | omega) ?_; intro v7 w7 own7 bel7 hg7 hat7; have bel7' : Below w22_.heap.size w22_ w7 := Below.trans (by with_reducible repeat (first | (refine Below.drew ?_) | (refine bmore ?_ _) | exact HBa.out | exact Below.refl _ _)) bel7; have hs7 := bel7'.size; obtain ⟨g7, c7, hv7_, _⟩ := own7.at; have HV7 : Hid (v7 = _) := hv7_; clear hv7_; replace HBa : Hid (Below w22_.heap.size w22_ w7) := bel7'; replace ct : Cnt 3 := Cnt.mk _; clear ck) | (have ck : Cnt 3 := ct; go_at_call 15; rw [HV7.out, HN7.out]; refine (mGemvBad (.pointer (some ⟨kc, 0, none⟩)) P Q Q _ (P * Q) (P * Q) Q1 c7 _ _ TX.out HLX.out HNE.out).mono ?_; rintro e w8 ⟨rfl, hb8⟩; replace hb8 : Below w22_.heap.size w22_ w8 := bstep (by with_reducible repeat (first | (refine Below.drew ?_) | (refine bmore ?_ _) | exact HBa.out | exact Below.refl _ _)) hb8; replace HBa : Hid (Below w22_.heap.size w22_ w8) := hb8; replace ct : Cnt 4 := Cnt.mk _; clear ck hb8))
                  all_goals
                    go_wp2
                    go_meet
                    exact ⟨rfl, HBa⟩
              case rest =>
                obtain ⟨rfl, hb_⟩ := hcut
                obtain ⟨w23_, rfl⟩ : ∃ x, x = wc := ⟨wc, rfl⟩
                replace BW : Hid (Below _ _ _) := bstep BW.out hb_.out
                replace UA : Hid (URow _ _ _ _ _) := UA.out.below hb_.out
                replace UX : Hid (URow _ _ _ _ _) := UX.out.below hb_.out
                replace X : Hid (WBox _ _ _ _ _ _) := X.out.below hb_.out
                replace UY : Hid (URow _ _ _ _ _) := UY.out.below hb_.out
                replace Y : Hid (MBox _ _ _ _ _ _) := Y.out.below hb_.out
                replace Uv : Hid (URow _ _ _ _ _) := Uv.out.below hb_.out
                replace SV : Hid (SeesU _ _ _) := SV.out.below hb_.out
                replace Hc : Hid (IsCalc _ _ _ _) := Hc.out.later hb_.out
                replace Hk : Hid (IsCalc _ _ _ _) := Hk.out.later hb_.out
                clear hb_
                go_wp2_with fail
                go_cut [24] (fun t wx => t = .int .i64 4 ∧ Hid (Below w23_.heap.size w23_ wx))
                case first =>
                  as_aux_lemma =>
                    obtain ⟨⟨X_0, X_1, X_2, X_3, X_4⟩, X_5⟩ := X.out
                    have X_6 := X_5 0
                    have X_7 := X_5 1
                    have X_8 := X_5 2
                    have X_9 := X_5 3
                    clear X_5
                    have dh : ∀ w : World, w.drew.heap = w.heap := fun _ => rfl
                    have ct : Cnt 1 := Cnt.mk _
                    have hw0_ : w23_.heap.size = w23_.heap.size := rfl
                    have HBa : Hid (Below w23_.heap.size w23_ w23_) := Below.refl _ _
                    go_region_held3 (fun w' => (w'.cell? ⟨k_X, 0, none⟩ = some (.int .i64 (P : Int)) ∧ w'.cell? ⟨k_X, 1, none⟩ = some (.int .i64 (Q : Int)) ∧ w'.cell? ⟨k_X, 2, none⟩ = some (.int .i64 (Q : Int)) ∧ w'.cell? ⟨k_X, 3, none⟩ = some (.slice (some ⟨gX, 0, none⟩) (P * Q) (P * Q)))) (exact (X.out.below (by with_reducible repeat (first | (refine Below.drew ?_) | (refine bmore ?_ _) | exact HBa.out | exact Below.refl _ _))).cells) (first | (have ck : Cnt 1 := ct; refine stepU_app rfl _ _ rfl w23_.heap.size _ [] rfl (by first | (exact own_at _ _ _ (by first | (simp [dh]; done) | (simp [dh]; omega) | omega) (by first | (simp [dh]; done) | (simp [dh]; omega) | omega)) | (exact (own_at _ _ _ (by first | (simp [dh]; done) | (simp [dh]; omega) | omega) (by first | (simp [dh]; done) | (simp [dh]; omega) | omega)).alloc _) | (exact (own_at _ _ _ (by first | (simp [dh]; done) | (simp [dh]; omega) | omega) (by first | (simp [dh]; done) | (simp [dh]; omega) | omega)).below (Below.refl _ _).drew) | (exact ((own_at _ _ _ (by first | (simp [dh]; done) | (simp [dh]; omega) | omega) (by first | (simp [dh]; done) | (simp [dh]; omega) | omega)).alloc _).below (Below.refl _ _).drew)) _ (lst zV Q) rfl (SV.out.below (by with_reducible repeat (first | (refine Below.drew ?_) | (refine bmore ?_ _) | exact HBa.out | exact Below.refl _ _))) (by rw [lst_len]; simp; omega) (by first | (simp [dh]; done) | (simp [dh]; omega) | omega) ?_; intro v6 w6 own6 bel6 hg6 hat6; have bel6' : Below w23_.heap.size w23_ w6 := Below.trans (by with_reducible repeat (first | (refine Below.drew ?_) | (refine bmore ?_ _) | exact (Below.refl _ _) | exact Below.refl _ _)) bel6; have hs6 := bel6'.size; (first | have sB6 := sees_grown_ab hg6 | have sB6 := sees_grown_ba hg6 | skip); replace HBa : Hid (Below w23_.heap.size w23_ w6) := bel6'; replace ct : Cnt 2 := Cnt.mk _; clear ck) | (have ck : Cnt 2 := ct; refine stepU_app rfl _ _ rfl w23_.heap.size _ ([] ++ lst zV Q) rfl (by first | exact own6 | exact own6.alloc _ | exact own6.below (Below.refl _ _).drew | exact (own6.alloc _).below (Below.refl _ _).drew) _ [0] rfl (by first | exact sB6 | exact sB6.below (Below.refl _ _).drew | exact sees_at _ _ _ (by first | (simp [dh]; done) | (simp [dh]; omega) | omega) | exact (sees_at _ _ _ (by first | (simp [dh]; done) | (simp [dh]; omega) | omega)).below (Below.refl _ _).drew) (by rw [List.nil_append, lst_len]; simp; omega) (by first | (simp [dh]; done) | (simp [dh]; omega) | omega) ?_; intro v7 w7 own7 bel7 hg7 hat7; have bel7' : Below w23_.heap.size w23_ w7 := Below.trans (by with_reducible repeat (first | (refine Below.drew ?_) | (refine bmore ?_ _) | exact HBa.out | exact Below.refl _ _)) bel7; have hs7 := bel7'.size; obtain ⟨g7, c7, hv7_, _⟩ := own7.at; have HV7 : Hid (v7 = _) := hv7_; clear hv7_; replace HBa : Hid (Below w23_.heap.size w23_ w7) := bel7'; replace ct : Cnt 3 := Cnt.mk _; clear ck) | (have ck : Cnt 3 := ct; go_at_call 16; rw [HV7.out, HN7.out]; refine (mGerBad (.pointer (some ⟨kc, 0, none⟩)) a4 P Q Q _ (P * Q) (P * Q) _ _ Q Q1 _ c7 _ TX.out HLX.out HNE.out).mono ?_; rintro e w8 ⟨rfl, hb8⟩; replace hb8 : Below w23_.heap.size w23_ w8 := bstep (by with_reducible repeat (first | (refine Below.drew ?_) | (refine bmore ?_ _) | exact HBa.out | exact Below.refl _ _)) hb8; replace HBa : Hid (Below w23_.heap.size w23_ w8) := hb8; replace ct : Cnt 4 := Cnt.mk _; clear ck hb8))
                    all_goals
                      go_wp2
                      go_meet
                      exact ⟨rfl, HBa⟩
                case rest =>
                  obtain ⟨rfl, hb_⟩ := hcut
                  obtain ⟨w24_, rfl⟩ : ∃ x, x = wc := ⟨wc, rfl⟩
                  replace BW : Hid (Below _ _ _) := bstep BW.out hb_.out
                  replace UA : Hid (URow _ _ _ _ _) := UA.out.below hb_.out
                  replace UX : Hid (URow _ _ _ _ _) := UX.out.below hb_.out
                  replace X : Hid (WBox _ _ _ _ _ _) := X.out.below hb_.out
                  replace UY : Hid (URow _ _ _ _ _) := UY.out.below hb_.out
                  replace Y : Hid (MBox _ _ _ _ _ _) := Y.out.below hb_.out
                  replace Uv : Hid (URow _ _ _ _ _) := Uv.out.below hb_.out
                  replace SV : Hid (SeesU _ _ _) := SV.out.below hb_.out
                  replace Hc : Hid (IsCalc _ _ _ _) := Hc.out.later hb_.out
                  replace Hk : Hid (IsCalc _ _ _ _) := Hk.out.later hb_.out
                  clear hb_
                  obtain ⟨ST, hST⟩ : ∃ s : Int, s = -1 - (T : Int) := ⟨_, rfl⟩
                  have hs1 : (-1 : Int) - (T : Int) = ST := hST.symm
                  have hs2 : IntKind.i64.wrap ST = ST := by rw [IntKind.wrap_i64]; omega
                  have hs3 : IntKind.i64.wrap (-1 - (T : Int)) = ST := by rw [IntKind.wrap_i64]; omega
                  have HNR : Hid (¬ Rgt (P : Int) (Q : Int) ST (P * Q)) := fun g => by obtain ⟨_, _, g1, _, g2, _⟩ := g; omega
                  have HSB : Hid (ST ≤ 9223372036854775807) := by show _ ≤ _; omega
                  clear hST
                  have hxy : ¬ k_X = k_Y := NXY.out
                  have hyx : ¬ k_Y = k_X := fun e => NXY.out e.symm
                  obtain ⟨⟨X_0, X_1, X_2, X_3, X_4⟩, X_5⟩ := X.out
                  have X_6 := X_5 0
                  have X_7 := X_5 1
                  have X_8 := X_5 2
                  have X_9 := X_5 3
                  clear X_5
                  obtain ⟨Y_0, Y_1, Y_2, Y_3, Y_4⟩ := Y.out
                  go_wp2_with fail
                  clear X_0 X_1 X_2 X_3 X_4 X_6 X_7 X_8 X_9 Y_0 Y_1 Y_2 Y_3 Y_4
                  have bs_ : Bes (some k_X) w24_ (w24_.setCell ⟨k_X, 2, none⟩ (.int .i64 ST)) := Bes.put _ k_X 2 _
                  replace BW : Hid (Below _ _ _) := Bes.old BW.out bs_ L_X.out
                  replace Hc : Hid (IsCalc _ _ _ _) := Hc.out.bes bs_ (fun j e1 e2 => A_c_X.out ((Option.some.inj e1).trans (Option.some.inj e2).symm))
                  replace Hk : Hid (IsCalc _ _ _ _) := Hk.out.bes bs_ (fun j e1 e2 => A_k_X.out ((Option.some.inj e1).trans (Option.some.inj e2).symm))
                  generalize (w24_.setCell ⟨k_X, 2, none⟩ (.int .i64 ST)) = w25_ at *
                  refine (mGemmNot (.pointer (some ⟨kc, 0, none⟩)) (P : Int) (Q : Int) ST _ (P * Q) (P * Q) (Q : Int) (R : Int) (R : Int) _ (Q * R) (Q * R) _ HNR.out HLX.out HSB.out).mono ?_
                  rintro e w26_ ⟨rfl, hb26_⟩
                  replace BW : Hid (Below _ _ _) := bstep BW.out hb26_
                  replace Hc : Hid (IsCalc _ _ _ _) := Hc.out.later hb26_
                  replace Hk : Hid (IsCalc _ _ _ _) := Hk.out.later hb26_
                  clear hb26_
                  obtain ⟨c1, c2, c3⟩ := calc_cell Hc.out
                  obtain ⟨k1, k2, k3⟩ := calc_cell Hk.out
                  go_wp2_with fail
                  have m_ := MBox.made w26_ 0 0 0 (.slice none 0 0)
                  have b_ : Below w26_.heap.size w26_ (w26_.alloc (.cells #[.int .i64 0, .int .i64 0, .int .i64 0, .slice none 0 0] 26)) := (Below.refl _ _).alloc (Nat.le_refl _) _
                  obtain ⟨k_J, hk_J⟩ : ∃ k, k = w26_.heap.size := ⟨_, rfl⟩
                  have L_J : Hid (w.heap.size ≤ k_J) := by rw [hk_J]; exact BW.out.size
                  rw [← hk_J] at m_ ⊢
                  generalize (w26_.alloc (.cells #[.int .i64 0, .int .i64 0, .int .i64 0, .slice none 0 0] 26)) = w27_ at m_ b_ ⊢
                  replace BW : Hid (Below _ _ _) := bstep BW.out b_
                  replace Hc : Hid (IsCalc _ _ _ _) := Hc.out.later b_
                  replace Hk : Hid (IsCalc _ _ _ _) := Hk.out.later b_
                  have J : Hid (MBox w27_ k_J 0 0 0 (.slice none 0 0)) := m_
                  clear m_ b_ hk_J
                  clear c1 c2 c3 k1 k2 k3
                  obtain ⟨c1, c2, c3⟩ := calc_cell Hc.out
                  obtain ⟨k1, k2, k3⟩ := calc_cell Hk.out
                  have ct : Cnt 1 := Cnt.mk _
                  go_region_held3 (fun w' => (w'.cell? ⟨kc, 0, none⟩ = some (.int .u8 FF)) ∧ (w'.cell? ⟨kk, 0, none⟩ = some (.int .u8 FF))) (simp [go_sem, *]) (first | fail)
                  clear ct
                  have hb_ : Below w27_.heap.size w27_ w27_.drew := (Below.refl _ _).drew
                  generalize w27_.drew = w28_ at hb_ ⊢
                  replace BW : Hid (Below _ _ _) := bstep BW.out hb_
                  replace Hc : Hid (IsCalc _ _ _ _) := Hc.out.later hb_
                  replace Hk : Hid (IsCalc _ _ _ _) := Hk.out.later hb_
                  replace J : Hid (MBox _ _ _ _ _ _) := J.out.below hb_
                  clear hb_
                  go_wp2
                  go_ret
                  exact ⟨ret_eq rfl, BW.out⟩

/-! ### THE ROW's STEP: WRITTEN OUT: LEAVE IT -/
set_option maxRecDepth 100000 in
theorem lifted (os : Os) (started : os.Started) (H : Type) (enc : TypeId × Value → H) :
    ReturnsInHanded {} Try.checked os 3 .any (Rows.mulStepsSpec.pre6 enc Try.prog Try.f3 Rows.mulStepsRow.domain false) (Rows.mulStepsSpec.post enc Try.prog Try.f3 false true false false) := by
  refine returnsInHanded_of_change (C := Try.checked) own started (by kernel_rfl) Try.func3
    (ChangeSpec.witness6 (enc := enc) (C := Try.checked) false ⟨#[], #[.int .i64 0, .int .i64 0, .int .i64 0, .slice none 0 0, .int .u64 0, .int .i64 0], []⟩ 8 (by kernel_rfl) (by kernel_rfl) (by kernel_rfl) (by kernel_rfl)) ?_
  intro W base args ds gs before hval0 hW hcnd _
  have hval : ∀ (j : Nat) t v, Try.f3.params[j]? = some t → args[j]? = some v → Value.okWide Try.prog W .any base t v := hval0
  have hW' := hW
  obtain ⟨p, q, hA0, hV, rfl, hfz, hnd⟩ := hW
  have hA : DataW.TrodAll enc Try.prog W 0 (fun _ => true) true Try.f3.params.toList args.toList ds p := hA0
  rw [Try.params3] at hA hval
  obtain ⟨v0, vs0, d0, ds0, p0, q0, hargs, rfl, rfl, h0, r0⟩ := trodAll_cons hA
  obtain ⟨v1, vs1, d1, ds1, p1, q1, rfl, rfl, rfl, h1, r1⟩ := trodAll_cons r0
  obtain ⟨v2, vs2, d2, ds2, p2, q2, rfl, rfl, rfl, h2, r2⟩ := trodAll_cons r1
  obtain ⟨v3, vs3, d3, ds3, p3, q3, rfl, rfl, rfl, h3, r3⟩ := trodAll_cons r2
  obtain ⟨v4, vs4, d4, ds4, p4, q4, rfl, rfl, rfl, h4, r4⟩ := trodAll_cons r3
  obtain ⟨v5, vs5, d5, ds5, p5, q5, rfl, rfl, rfl, h5, r5⟩ := trodAll_cons r4
  obtain ⟨rfl, rfl, rfl⟩ := trodAll_nil r5
  obtain rfl : args = #[v0, v1, v2, v3, v4, v5] := by cases args; simp_all
  obtain ⟨rfl, rfl⟩ := trodVars_none hV
  obtain ⟨a0, rfl, rfl, rfl, w0⟩ := open_int Try.underlying3 (hval 0 3 v0 rfl rfl) h0
  obtain ⟨a1, rfl, rfl, rfl, w1⟩ := open_int Try.underlying3 (hval 1 3 v1 rfl rfl) h1
  obtain ⟨a2, rfl, rfl, rfl, w2⟩ := open_int Try.underlying3 (hval 2 3 v2 rfl rfl) h2
  obtain ⟨a3, len3, cap3, rfl⟩ := okWide_slice Try.underlying22 (hval 3 22 v3 rfl rfl)
  have k3 := h3
  have lt3 : ∀ x ∈ p3, x.block < W.heap.size := by obtain ⟨m, hm⟩ := k3; exact DataW.trod_lt m _ _ _ hm
  obtain ⟨z3, w3⟩ : ∃ zs, IsRow .u64 W a3 len3 cap3 zs := by
    obtain ⟨fuel, hf⟩ := h3
    rcases open_ints Try.underlying22 Try.underlying23 (by kernel_rfl) hf with ⟨hcs, _⟩ | ⟨x, l, c, zs, hcs, _, hl, hm, hz, _, hcell, hwz⟩
    · simp [Value.cells] at hcs
      obtain ⟨rfl, rfl, rfl⟩ := hcs
      exact ⟨[], .inl ⟨rfl, rfl, rfl, rfl⟩⟩
    · simp [Value.cells] at hcs
      obtain ⟨rfl, rfl, rfl⟩ := hcs
      exact ⟨zs, .inr ⟨_, rfl, hl, hm, by simpa using hz, hcell, hwz⟩⟩
  obtain ⟨a4, rfl, rfl, rfl, w4⟩ := open_int Try.underlying23 (hval 4 23 v4 rfl rfl) h4
  obtain ⟨a5, rfl, rfl, rfl, w5⟩ := open_int Try.underlying3 (hval 5 3 v5 rfl rfl) h5
  clear hA0 hval0
  refine (walk a0 a1 a2 a3 len3 cap3 z3 a4 a5 W w0 w1 w2 w3 w4 w5).mono fun e W' ⟨he, bel⟩ => ?_
  subst he
  exact ⟨_, rfl, _, _, _, [], _, [], hW', trodAll_mk1 (shut_bool Try.underlying4 _), (trodAll_cons_mk (shut_int Try.underlying3 w0) (trodAll_cons_mk (shut_int Try.underlying3 w1) (trodAll_cons_mk (shut_int Try.underlying3 w2) (trodAll_cons_mk (Below.trod laidOut (by kernel_rfl) (of_decide_eq_true (by kernel_rfl)) k3 bel lt3) (trodAll_cons_mk (shut_int Try.underlying23 w4) (trodAll_cons_mk (shut_int Try.underlying3 w5) trodAll_mk0)))))), rfl, bel.frame _, fun h => by cases h⟩

theorem over : Rows.mulStepsRow.holds Try.pinned (OpenSpec.ofChange Rows.mulStepsSpec) :=
  OpenClaim.holds_of_wide 3 Try.f3 rfl rfl rfl rfl rfl rfl rfl ⟨rfl, rfl, rfl, rfl, rfl⟩ rfl rfl rfl rfl rfl (by kernel_rfl) Try.func3 (by kernel_rfl)
    (of_decide_eq_true (by kernel_rfl)) (by unfold Func.isWrapper; first | (rw [if_pos (by decide +kernel)]; kernel_rfl) | (rw [if_neg (by decide +kernel)]; exact ⟨rfl, rfl⟩))
    (fun os started H enc _ => lifted os started H enc)

/-- ████ THE STATEMENT ████ -/
theorem proved : Rows.MulStepsSaid := over
#print axioms proved
end Go.Proofs.Ytpakpgjbgehhjaa.mulSteps
