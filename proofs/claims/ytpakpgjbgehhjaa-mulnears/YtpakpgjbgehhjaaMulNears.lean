/-
  The law MulNears returns true at every input (any sizes, any slice of patterns), and leaves its arguments as they were. No conditions.
-/
import Derived.Test.YtpakpgjbgehhjaaRows
import Derived.WalkKit
import Derived.ProofKit
import Derived.OpenShut
import Derived.Test.YtpakpgjbgehhjaaGrO
import Derived.Test.YtpakpgjbgehhjaaGrR
import Derived.Test.YtpakpgjbgehhjaaGrU
import Derived.Test.YtpakpgjbgehhjaaGrV
import Derived.ShutString
import Derived.ChangeOld
import Derived.Below
namespace Go.Proofs.Ytpakpgjbgehhjaa.mulNears
open Go.ChangeShapes Go.WideShapes Go.ChangeAt Go.RowKit
open Go.ChangeMaps (open_string shut_string)
set_option linter.unusedVariables false

theorem own : ownKnob Try.prog.godebug = none := by kernel_rfl
theorem laidOut : laidOutB Try.prog = true := by kernel_rfl

/-- WHAT THE WALK IS TOLD OF A SLICE OF INTEGERS THAT CAME IN: it is nil; or it leads to a row of 'cap' cells, the numbers 'zs' (the first 'len' are its elements, the rest its spare room), each fitting its kind. -/
def IsRow (k : IntKind) (w : World) (a : Option Addr) (len cap : Nat) (zs : List Int) : Prop :=
  (a = none ∧ len = 0 ∧ cap = 0 ∧ zs = []) ∨
  ∃ x, a = some x ∧ len ≤ cap ∧ cap ≤ maxLen ∧ zs.length = cap ∧ (∀ i, i < zs.length → w.cell? (x.add i) = some (.int k (zs.getD i 0))) ∧ ∀ n ∈ zs, (Lit.int k n).wf = true

set_option linter.unusedSimpArgs false
theorem row_of (w : World) (a : Option Addr) (len cap : Nat) (zs : List Int) (h : IsRow .u64 w a len cap zs) : URow w a len cap (fun i => zs.getD i 0) := by
  rcases h with ⟨rfl, rfl, rfl, rfl⟩ | ⟨x, rfl, h1, h2, h3, h4, h5⟩
  · exact ⟨Nat.le_refl _, Nat.zero_le _, fun i => by simp, fun h => absurd h (Nat.lt_irrefl 0)⟩
  · refine ⟨h1, h2, fun i => ?_, fun hp => ?_⟩
    · show 0 ≤ zs.getD i 0 ∧ zs.getD i 0 < 18446744073709551616
      rcases Nat.lt_or_ge i zs.length with g | g
      · have hm : zs.getD i 0 ∈ zs := by
          rw [List.getD_eq_getElem?_getD, List.getElem?_eq_getElem g]
          exact List.getElem_mem g
        obtain ⟨q1, q2⟩ := bounds_u64 (h5 _ hm)
        exact ⟨q1, by omega⟩
      · rw [List.getD_eq_getElem?_getD, List.getElem?_eq_none g]
        simp
    · obtain ⟨b, o, s⟩ := x
      have hs : s = none := by simpa [Addr.add] using World.cell?_spot (h4 0 (by omega))
      subst hs
      have hb : b < w.heap.size := by
        have := World.block_lt_of_cell? _ _ (h4 0 (by omega))
        simpa [Addr.add] using this
      refine ⟨b, o, rfl, hb, fun i hi => ?_⟩
      have := h4 i (by omega)
      rw [add_plain] at this
      exact this
set_option maxRecDepth 100000 in
set_option maxHeartbeats 8000000 in
theorem walk (a0 : Int) (a1 : Int) (a2 : Int) (a3 : Option Addr) (len3 cap3 : Nat) (z3 : List Int) (w : World) (w0 : (Lit.int .i64 a0).wf = true) (w1 : (Lit.int .i64 a1).wf = true) (w2 : (Lit.int .i64 a2).wf = true) (w3 : IsRow .u64 w a3 len3 cap3 z3) :
    Calls Try.prog 4 #[.int .i64 a0, .int .i64 a1, .int .i64 a2, .slice a3 len3 cap3] w fun e w' => e = .returned (.bool true) ∧ Below w.heap.size w w' := by
  have hr := row_of w a3 len3 cap3 z3 w3
  generalize (fun i => z3.getD i 0) = U at hr
  clear w0 w1 w2 w3
  have a0e := and_3_i a0
  have a1e := and_7_i a1
  have a2e := and_3_i a2
  obtain ⟨P, hP⟩ : ∃ R : Nat, (R : Int) = a0 % 4 := ⟨(a0 % 4).toNat, by omega⟩
  obtain ⟨Q, hQ⟩ : ∃ R : Nat, (R : Int) = a1 % 8 := ⟨(a1 % 8).toNat, by omega⟩
  obtain ⟨R, hR⟩ : ∃ R : Nat, (R : Int) = a2 % 4 := ⟨(a2 % 4).toNat, by omega⟩
  rw [← hP] at a0e
  rw [← hQ] at a1e
  rw [← hR] at a2e
  have hP7 : P ≤ 7 := by omega
  have hQ7 : Q ≤ 7 := by omega
  have hR7 : R ≤ 7 := by omega
  clear hP hQ hR
  have hPQ : P * Q ≤ 49 := Nat.mul_le_mul hP7 hQ7
  have hPR : P * R ≤ 49 := Nat.mul_le_mul hP7 hR7
  have hQR : Q * R ≤ 49 := Nat.mul_le_mul hQ7 hR7
  have hRQ : R * Q ≤ 49 := Nat.mul_le_mul hR7 hQ7
  obtain ⟨lx, cx⟩ := hr.lenB
  have HR : Hid (URow _ _ _ _ _) := hr
  clear hr
  by_cases hl : 100 < len3
  · have hl2 : (100 : Int) < (len3 : Int) := by omega
    go_enter Try.func4, Try.ntmps4
    go_wp2_with fail
    refine (lHead11 _).mono ?_
    rintro e w1 ⟨rfl, hb1⟩
    go_wp2
    go_ret
    exact ⟨ret_eq rfl, hb1⟩
  have hl2 : ¬ (100 : Int) < (len3 : Int) := by omega
  have hdl : decide ((100 : Int) < (len3 : Int)) = false := decide_eq_false hl2
  obtain ⟨zX, hzX⟩ : ∃ z : Nat → Int, z = mC U len3 0 0 := ⟨_, rfl⟩
  obtain ⟨zY, hzY⟩ : ∃ z : Nat → Int, z = mC U len3 3 0 := ⟨_, rfl⟩
  have HzX : Hid (_ = _) := hzX
  have HzY : Hid (_ = _) := hzY
  clear hzX hzY
  have TX : Hid (Rgt (P : Int) (Q : Int) (Q : Int) (P * Q)) := tight P Q (by omega) (by omega)
  have TY : Hid (Rgt (Q : Int) (R : Int) (R : Int) (Q * R)) := tight Q R (by omega) (by omega)
  have TG : Hid (Rgt (P : Int) (R : Int) (R : Int) (P * R)) := tight P R (by omega) (by omega)
  go_enter Try.func4, Try.ntmps4
  go_wp2_with fail
  refine (lHead11 _).mono ?_
  rintro e w1 ⟨rfl, hb1⟩
  have BW : Hid (Below w.heap.size w w1) := hb1
  have UA : Hid (URow w1 a3 len3 cap3 U) := HR.out.below hb1
  clear hb1 HR
  go_wp2_with fail
  refine (lMade11 P Q 0 a3 len3 cap3 U _ UA.out (by omega) (by omega) (by omega) (by omega)).mono ?_
  rintro e w1_ ⟨gX, rfl, _, hU_, hb1_⟩
  rw [← HzX.out] at hU_
  replace BW : Hid (Below _ _ _) := bstep BW.out hb1_
  replace UA : Hid (URow _ _ _ _ _) := UA.out.below hb1_
  clear hb1_
  have UX : Hid (URow w1_ (some ⟨gX, 0, none⟩) (P * Q) (P * Q) zX) := hU_
  clear hU_
  go_wp2_with fail
  have m_ := MBox.made w1_ (P : Int) (Q : Int) (Q : Int) (.slice (some ⟨gX, 0, none⟩) (P * Q) (P * Q))
  have b_ : Below w1_.heap.size w1_ (w1_.alloc (.cells #[.int .i64 (P : Int), .int .i64 (Q : Int), .int .i64 (Q : Int), .slice (some ⟨gX, 0, none⟩) (P * Q) (P * Q)] 26)) := (Below.refl _ _).alloc (Nat.le_refl _) _
  obtain ⟨k_X, hk_X⟩ : ∃ k, k = w1_.heap.size := ⟨_, rfl⟩
  have L_X : Hid (w.heap.size ≤ k_X) := by rw [hk_X]; exact BW.out.size
  rw [← hk_X] at m_ ⊢
  generalize (w1_.alloc (.cells #[.int .i64 (P : Int), .int .i64 (Q : Int), .int .i64 (Q : Int), .slice (some ⟨gX, 0, none⟩) (P * Q) (P * Q)] 26)) = w2_ at m_ b_ ⊢
  replace BW : Hid (Below _ _ _) := bstep BW.out b_
  replace UA : Hid (URow _ _ _ _ _) := UA.out.below b_
  replace UX : Hid (URow _ _ _ _ _) := UX.out.below b_
  have X : Hid (MBox w2_ k_X (P : Int) (Q : Int) (Q : Int) (.slice (some ⟨gX, 0, none⟩) (P * Q) (P * Q))) := m_
  clear m_ b_ hk_X
  refine (lMade11 Q R 3 a3 len3 cap3 U _ UA.out (by omega) (by omega) (by omega) (by omega)).mono ?_
  rintro e w3_ ⟨gY, rfl, _, hU_, hb3_⟩
  rw [← HzY.out] at hU_
  replace BW : Hid (Below _ _ _) := bstep BW.out hb3_
  replace UA : Hid (URow _ _ _ _ _) := UA.out.below hb3_
  replace UX : Hid (URow _ _ _ _ _) := UX.out.below hb3_
  replace X : Hid (MBox _ _ _ _ _ _) := X.out.below hb3_
  clear hb3_
  have UY : Hid (URow w3_ (some ⟨gY, 0, none⟩) (Q * R) (Q * R) zY) := hU_
  clear hU_
  clear UA
  obtain ⟨X_0, X_1, X_2, X_3, X_4⟩ := X.out
  go_upto_region 10 with fail
  have m_ := MBox.made w3_ (Q : Int) (R : Int) (R : Int) (.slice (some ⟨gY, 0, none⟩) (Q * R) (Q * R))
  have b_ : Below w3_.heap.size w3_ (w3_.alloc (.cells #[.int .i64 (Q : Int), .int .i64 (R : Int), .int .i64 (R : Int), .slice (some ⟨gY, 0, none⟩) (Q * R) (Q * R)] 26)) := (Below.refl _ _).alloc (Nat.le_refl _) _
  obtain ⟨k_Y, hk_Y⟩ : ∃ k, k = w3_.heap.size := ⟨_, rfl⟩
  have L_Y : Hid (w.heap.size ≤ k_Y) := by rw [hk_Y]; exact BW.out.size
  rw [← hk_Y] at m_ ⊢
  clear X_0 X_1 X_2 X_3 X_4
  generalize (w3_.alloc (.cells #[.int .i64 (Q : Int), .int .i64 (R : Int), .int .i64 (R : Int), .slice (some ⟨gY, 0, none⟩) (Q * R) (Q * R)] 26)) = w4_ at m_ b_ ⊢
  replace BW : Hid (Below _ _ _) := bstep BW.out b_
  replace UX : Hid (URow _ _ _ _ _) := UX.out.below b_
  replace X : Hid (MBox _ _ _ _ _ _) := X.out.below b_
  replace UY : Hid (URow _ _ _ _ _) := UY.out.below b_
  have Y : Hid (MBox w4_ k_Y (Q : Int) (R : Int) (R : Int) (.slice (some ⟨gY, 0, none⟩) (Q * R) (Q * R))) := m_
  clear m_ b_ hk_Y
  obtain ⟨X_0, X_1, X_2, X_3, X_4⟩ := X.out
  obtain ⟨Y_0, Y_1, Y_2, Y_3, Y_4⟩ := Y.out
  go_wp2_with fail
  have nc_ := calc_new w4_
  have bV_ : Below w4_.heap.size w4_ (w4_.alloc (.cells #[.int .u8 0] 32)) := bmore (Below.refl _ _) _
  clear X_0 X_1 X_2 X_3 X_4 Y_0 Y_1 Y_2 Y_3 Y_4
  generalize (w4_.alloc (.cells #[.int .u8 0] 32)) = w5_ at nc_ bV_ ⊢
  obtain ⟨kc, hkc_⟩ : ∃ k, k = w4_.heap.size := ⟨_, rfl⟩
  rw [← hkc_] at nc_ ⊢
  have Oc : Hid (w.heap.size ≤ kc) := by show _ ≤ _; have := BW.out.size; omega
  have A_c_UX : Hid (Apt (some kc) (some ⟨gX, 0, none⟩) (P * Q)) := UX.out.apt (fun k e => by injection e with e; omega)
  have A_c_X : Hid (kc ≠ k_X) := by have := X.out.2.2.2.2; show _ ≠ _; omega
  have A_c_UY : Hid (Apt (some kc) (some ⟨gY, 0, none⟩) (Q * R)) := UY.out.apt (fun k e => by injection e with e; omega)
  have A_c_Y : Hid (kc ≠ k_Y) := by have := Y.out.2.2.2.2; show _ ≠ _; omega
  replace BW : Hid (Below _ _ _) := bstep BW.out bV_
  replace UX : Hid (URow _ _ _ _ _) := UX.out.below bV_
  replace X : Hid (MBox _ _ _ _ _ _) := X.out.below bV_
  replace UY : Hid (URow _ _ _ _ _) := UY.out.below bV_
  replace Y : Hid (MBox _ _ _ _ _ _) := Y.out.below bV_
  clear bV_ hkc_
  have Hc : Hid (IsCalc w5_ (.pointer (some ⟨kc, 0, none⟩)) (some kc) (0)) := nc_
  clear nc_
  refine (mGemm (.pointer (some ⟨kc, 0, none⟩)) (some kc) 0 P Q Q _ _ _ zX R R _ _ _ zY _ Hc.out TX.out TY.out UX.out UY.out (by omega) (by omega) (by omega)).mono ?_
  rintro e w6_ ⟨gG, zG, rfl, hg_, hU_, hE_, hC_, hb6_⟩
  have EG : Hid (∀ i k, i < P → k < R → zG (i * R + k) = dotV (fun j => zX (i * Q + j)) (fun j => zY (j * R + k)) Q) := hE_
  clear hE_
  have Nkc_gG : Hid (kc ≠ gG) := fun e => absurd (Nat.lt_of_lt_of_le (Hc.out.lt _ rfl) hg_) (by rw [e]; exact Nat.lt_irrefl _)
  clear hg_
  replace BW : Hid (Below _ _ _) := Bes.old BW.out hb6_ Oc.out
  replace UX : Hid (URow _ _ _ _ _) := UX.out.bes hb6_ A_c_UX.out
  replace X : Hid (MBox _ _ _ _ _ _) := X.out.bes hb6_ (ne_some A_c_X.out)
  replace UY : Hid (URow _ _ _ _ _) := UY.out.bes hb6_ A_c_UY.out
  replace Y : Hid (MBox _ _ _ _ _ _) := Y.out.bes hb6_ (ne_some A_c_Y.out)
  clear hb6_
  clear Hc
  have Hc : Hid (IsCalc w6_ (.pointer (some ⟨kc, 0, none⟩)) (some kc) (mmF 0 (fun i j => zX (i * Q + j)) (fun k j => zY (j * R + k)) Q R P)) := hC_
  clear hC_
  have UG : Hid (URow w6_ (some ⟨gG, 0, none⟩) (P * R) (P * R) zG) := hU_
  clear hU_
  obtain ⟨X_0, X_1, X_2, X_3, X_4⟩ := X.out
  obtain ⟨Y_0, Y_1, Y_2, Y_3, Y_4⟩ := Y.out
  go_wp2_with fail
  have m_ := MBox.made w6_ (P : Int) (R : Int) (R : Int) (.slice (some ⟨gG, 0, none⟩) (P * R) (P * R))
  have b_ : Below w6_.heap.size w6_ (w6_.alloc (.cells #[.int .i64 (P : Int), .int .i64 (R : Int), .int .i64 (R : Int), .slice (some ⟨gG, 0, none⟩) (P * R) (P * R)] 26)) := (Below.refl _ _).alloc (Nat.le_refl _) _
  obtain ⟨k_G, hk_G⟩ : ∃ k, k = w6_.heap.size := ⟨_, rfl⟩
  have L_G : Hid (w.heap.size ≤ k_G) := by rw [hk_G]; exact BW.out.size
  have Nkc_G : Hid (kc ≠ k_G) := by have := Hc.out.lt _ rfl; show _ ≠ _; omega
  rw [← hk_G] at m_ ⊢
  clear X_0 X_1 X_2 X_3 X_4 Y_0 Y_1 Y_2 Y_3 Y_4
  generalize (w6_.alloc (.cells #[.int .i64 (P : Int), .int .i64 (R : Int), .int .i64 (R : Int), .slice (some ⟨gG, 0, none⟩) (P * R) (P * R)] 26)) = w7_ at m_ b_ ⊢
  replace BW : Hid (Below _ _ _) := bstep BW.out b_
  replace UX : Hid (URow _ _ _ _ _) := UX.out.below b_
  replace X : Hid (MBox _ _ _ _ _ _) := X.out.below b_
  replace UY : Hid (URow _ _ _ _ _) := UY.out.below b_
  replace Y : Hid (MBox _ _ _ _ _ _) := Y.out.below b_
  replace Hc : Hid (IsCalc _ _ _ _) := Hc.out.later b_
  replace UG : Hid (URow _ _ _ _ _) := UG.out.below b_
  have G : Hid (MBox w7_ k_G (P : Int) (R : Int) (R : Int) (.slice (some ⟨gG, 0, none⟩) (P * R) (P * R))) := m_
  clear m_ b_ hk_G
  by_cases fX : AllF zX P Q Q
  rotate_left
  · skip
    obtain ⟨X_0, X_1, X_2, X_3, X_4⟩ := X.out
    obtain ⟨Y_0, Y_1, Y_2, Y_3, Y_4⟩ := Y.out
    obtain ⟨G_0, G_1, G_2, G_3, G_4⟩ := G.out
    refine (mFinNo P Q Q _ _ _ zX _ TX.out UX.out fX).mono ?_
    rintro e w8_ ⟨rfl, hb8_⟩
    clear X_0 X_1 X_2 X_3 X_4 Y_0 Y_1 Y_2 Y_3 Y_4 G_0 G_1 G_2 G_3 G_4
    replace BW : Hid (Below _ _ _) := bstep BW.out hb8_
    replace UX : Hid (URow _ _ _ _ _) := UX.out.below hb8_
    replace X : Hid (MBox _ _ _ _ _ _) := X.out.below hb8_
    replace UY : Hid (URow _ _ _ _ _) := UY.out.below hb8_
    replace Y : Hid (MBox _ _ _ _ _ _) := Y.out.below hb8_
    replace Hc : Hid (IsCalc _ _ _ _) := Hc.out.later hb8_
    replace UG : Hid (URow _ _ _ _ _) := UG.out.below hb8_
    replace G : Hid (MBox _ _ _ _ _ _) := G.out.below hb8_
    clear hb8_
    go_wp2
    go_ret
    exact ⟨ret_eq rfl, BW.out⟩
  obtain ⟨X_0, X_1, X_2, X_3, X_4⟩ := X.out
  obtain ⟨Y_0, Y_1, Y_2, Y_3, Y_4⟩ := Y.out
  obtain ⟨G_0, G_1, G_2, G_3, G_4⟩ := G.out
  refine (mFinOk P Q Q _ _ _ zX _ TX.out UX.out fX).mono ?_
  rintro e w8_ ⟨rfl, hb8_⟩
  clear X_0 X_1 X_2 X_3 X_4 Y_0 Y_1 Y_2 Y_3 Y_4 G_0 G_1 G_2 G_3 G_4
  replace BW : Hid (Below _ _ _) := bstep BW.out hb8_
  replace UX : Hid (URow _ _ _ _ _) := UX.out.below hb8_
  replace X : Hid (MBox _ _ _ _ _ _) := X.out.below hb8_
  replace UY : Hid (URow _ _ _ _ _) := UY.out.below hb8_
  replace Y : Hid (MBox _ _ _ _ _ _) := Y.out.below hb8_
  replace Hc : Hid (IsCalc _ _ _ _) := Hc.out.later hb8_
  replace UG : Hid (URow _ _ _ _ _) := UG.out.below hb8_
  replace G : Hid (MBox _ _ _ _ _ _) := G.out.below hb8_
  clear hb8_
  have HFX : Hid (AllF zX P Q Q) := fX
  clear fX
  by_cases fY : AllF zY Q R R
  rotate_left
  · skip
    obtain ⟨X_0, X_1, X_2, X_3, X_4⟩ := X.out
    obtain ⟨Y_0, Y_1, Y_2, Y_3, Y_4⟩ := Y.out
    obtain ⟨G_0, G_1, G_2, G_3, G_4⟩ := G.out
    go_wp2_with fail
    refine (mFinNo Q R R _ _ _ zY _ TY.out UY.out fY).mono ?_
    rintro e w9_ ⟨rfl, hb9_⟩
    clear X_0 X_1 X_2 X_3 X_4 Y_0 Y_1 Y_2 Y_3 Y_4 G_0 G_1 G_2 G_3 G_4
    replace BW : Hid (Below _ _ _) := bstep BW.out hb9_
    replace UX : Hid (URow _ _ _ _ _) := UX.out.below hb9_
    replace X : Hid (MBox _ _ _ _ _ _) := X.out.below hb9_
    replace UY : Hid (URow _ _ _ _ _) := UY.out.below hb9_
    replace Y : Hid (MBox _ _ _ _ _ _) := Y.out.below hb9_
    replace Hc : Hid (IsCalc _ _ _ _) := Hc.out.later hb9_
    replace UG : Hid (URow _ _ _ _ _) := UG.out.below hb9_
    replace G : Hid (MBox _ _ _ _ _ _) := G.out.below hb9_
    clear hb9_
    go_wp2
    go_ret
    exact ⟨ret_eq rfl, BW.out⟩
  obtain ⟨c1, c2, c3⟩ := calc_cell Hc.out
  clear c1 c2 c3
  obtain ⟨X_0, X_1, X_2, X_3, X_4⟩ := X.out
  obtain ⟨Y_0, Y_1, Y_2, Y_3, Y_4⟩ := Y.out
  obtain ⟨G_0, G_1, G_2, G_3, G_4⟩ := G.out
  go_wp2_with fail
  refine (mFinOk Q R R _ _ _ zY _ TY.out UY.out fY).mono ?_
  rintro e w9_ ⟨rfl, hb9_⟩
  clear X_0 X_1 X_2 X_3 X_4 Y_0 Y_1 Y_2 Y_3 Y_4 G_0 G_1 G_2 G_3 G_4
  replace BW : Hid (Below _ _ _) := bstep BW.out hb9_
  replace UX : Hid (URow _ _ _ _ _) := UX.out.below hb9_
  replace X : Hid (MBox _ _ _ _ _ _) := X.out.below hb9_
  replace UY : Hid (URow _ _ _ _ _) := UY.out.below hb9_
  replace Y : Hid (MBox _ _ _ _ _ _) := Y.out.below hb9_
  replace Hc : Hid (IsCalc _ _ _ _) := Hc.out.later hb9_
  replace UG : Hid (URow _ _ _ _ _) := UG.out.below hb9_
  replace G : Hid (MBox _ _ _ _ _ _) := G.out.below hb9_
  clear hb9_
  have HFY : Hid (AllF zY Q R R) := fY
  clear fY
  obtain ⟨FD, hFD⟩ : ∃ F, mmF 0 (fun i j => zX (i * Q + j)) (fun k j => zY (j * R + k)) Q R P = F := ⟨_, rfl⟩
  rw [hFD] at Hc
  have HFD : Hid (_ = _) := hFD
  clear hFD
  obtain ⟨c1, c2, c3⟩ := calc_cell Hc.out
  obtain ⟨G0, hG⟩ : ∃ G, bits .and .u8 FD 22 = G := ⟨_, rfl⟩
  by_cases hG0 : G0 = 0
  rotate_left
  · have hg0 : (G0 == 0) = false := by rw [beq_eq_false_iff_ne]; exact hG0
    go_wp2
    go_ret
    exact ⟨ret_eq rfl, BW.out⟩
  subst hG0
  have HM : Hid (∀ i k, i < P → k < R → bits .and .u8 (dotF 0 (fun j => zX (i * Q + j)) (fun j => zY (j * R + k)) Q) 22 = 0) := mask_mmF 0 (by decide) (by decide) (fun i j => zX (i * Q + j)) (fun k j => zY (j * R + k)) Q R P (by rw [HFD.out]; exact hG)
  go_wp2
  clear c1 c2 c3 hG
  clear Hc
  go_loopw [14] (fun s14_ wr => ∃ (i : Nat) , s14_ = .int .i64 (i : Int) ∧ i ≤ P ∧ Hid (Below w.heap.size w wr) ∧ Hid (URow wr (some ⟨gX, 0, none⟩) (P * Q) (P * Q) zX) ∧ Hid (MBox wr k_X (P : Int) (Q : Int) (Q : Int) (.slice (some ⟨gX, 0, none⟩) (P * Q) (P * Q))) ∧ Hid (URow wr (some ⟨gY, 0, none⟩) (Q * R) (Q * R) zY) ∧ Hid (MBox wr k_Y (Q : Int) (R : Int) (R : Int) (.slice (some ⟨gY, 0, none⟩) (Q * R) (Q * R))) ∧ Hid (URow wr (some ⟨gG, 0, none⟩) (P * R) (P * R) zG) ∧ Hid (MBox wr k_G (P : Int) (R : Int) (R : Int) (.slice (some ⟨gG, 0, none⟩) (P * R) (P * R)))) (fun s14_ _ => P - (intOf s14_).toNat)
  case atStart => exact ⟨0, rfl, Nat.zero_le _, BW, UX, X, UY, Y, UG, G⟩
  case round =>
    clear BW UX X UY Y UG G
    obtain ⟨i, rfl, hi_, BW, UX, X, UY, Y, UG, G⟩ := hrel
    obtain ⟨w10_, rfl⟩ : ∃ x, x = wr := ⟨wr, rfl⟩
    by_cases hlt : (i : Int) < (P : Int)
    · skip
      go_wp2_with fail
      go_loopw [15] (fun s15_ wr => ∃ (k : Nat) , s15_ = .int .i64 (k : Int) ∧ k ≤ R ∧ Hid (Below w.heap.size w wr) ∧ Hid (URow wr (some ⟨gX, 0, none⟩) (P * Q) (P * Q) zX) ∧ Hid (MBox wr k_X (P : Int) (Q : Int) (Q : Int) (.slice (some ⟨gX, 0, none⟩) (P * Q) (P * Q))) ∧ Hid (URow wr (some ⟨gY, 0, none⟩) (Q * R) (Q * R) zY) ∧ Hid (MBox wr k_Y (Q : Int) (R : Int) (R : Int) (.slice (some ⟨gY, 0, none⟩) (Q * R) (Q * R))) ∧ Hid (URow wr (some ⟨gG, 0, none⟩) (P * R) (P * R) zG) ∧ Hid (MBox wr k_G (P : Int) (R : Int) (R : Int) (.slice (some ⟨gG, 0, none⟩) (P * R) (P * R)))) (fun s15_ _ => R - (intOf s15_).toNat)
      case atStart => exact ⟨0, rfl, Nat.zero_le _, BW, UX, X, UY, Y, UG, G⟩
      case round =>
        clear BW UX X UY Y UG G
        obtain ⟨k, rfl, hk_, BW, UX, X, UY, Y, UG, G⟩ := hrel
        obtain ⟨w11_, rfl⟩ : ∃ x, x = wr := ⟨wr, rfl⟩
        by_cases hlt2 : (k : Int) < (R : Int)
        · skip
          obtain ⟨Xr, hXr⟩ : ∃ f : Nat → Int, f = fun j => zX (i * Q + j) := ⟨_, rfl⟩
          obtain ⟨Yc, hYc⟩ : ∃ f : Nat → Int, f = fun j => zY (j * R + k) := ⟨_, rfl⟩
          have HXr : Hid (∀ j, Xr j = zX (i * Q + j)) := by rw [hXr]; exact fun _ => rfl
          have HYc : Hid (∀ j, Yc j = zY (j * R + k)) := by rw [hYc]; exact fun _ => rfl
          have HMK : Hid (bits .and .u8 (dotF 0 Xr Yc Q) 22 = 0) := by rw [hXr, hYc]; exact HM.out i k (by omega) (by omega)
          have HGK : Hid (zG (i * R + k) = dotV Xr Yc Q) := by rw [hXr, hYc]; exact EG.out i k (by omega) (by omega)
          have HFXr : Hid (∀ j, j < Q → mag (Xr j) < 9218868437227405312) := fun j hj => by rw [HXr.out]; exact HFX.out i j (by omega) hj
          have HFYc : Hid (∀ j, j < Q → mag (Yc j) < 9218868437227405312) := fun j hj => by rw [HYc.out]; exact HFY.out j k hj (by omega)
          clear hXr hYc
          go_wp2_with fail
          have m0_ := BoxF.made w11_ (.bool false) (.slice none 0 0) (.int .i64 0) (.slice none 0 0) 49
          replace m0_ := m0_.alloc (.cells #[.bool false, .slice none 0 0, .int .i64 0, .slice none 0 0] 49)
          have m1_ := BoxF.made (w11_.alloc (.cells #[.bool false, .slice none 0 0, .int .i64 0, .slice none 0 0] 49)) (.bool false) (.slice none 0 0) (.int .i64 0) (.slice none 0 0) 49
          simp only [World.size_alloc] at m1_
          have b_ : Below w11_.heap.size w11_ ((w11_.alloc (.cells #[.bool false, .slice none 0 0, .int .i64 0, .slice none 0 0] 49)).alloc (.cells #[.bool false, .slice none 0 0, .int .i64 0, .slice none 0 0] 49)) := bmore (bmore (Below.refl _ _) _) _
          obtain ⟨k_l, hk_l⟩ : ∃ k, k = w11_.heap.size + 1 := ⟨_, rfl⟩
          have L_l : Hid (w.heap.size ≤ k_l) := by rw [hk_l]; exact Nat.le_trans BW.out.size (by omega)
          obtain ⟨k_s, hk_s⟩ : ∃ k, k = w11_.heap.size := ⟨_, rfl⟩
          have L_s : Hid (w.heap.size ≤ k_s) := by rw [hk_s]; exact Nat.le_trans BW.out.size (by omega)
          have K_sX : Hid (k_s ≠ k_X) := by have := X.out.2.2.2.2; show _ ≠ _; omega
          have K_sY : Hid (k_s ≠ k_Y) := by have := Y.out.2.2.2.2; show _ ≠ _; omega
          have K_sG : Hid (k_s ≠ k_G) := by have := G.out.2.2.2.2; show _ ≠ _; omega
          have A_sUX : Hid (Apt (some k_s) (some ⟨gX, 0, none⟩) (P * Q)) := UX.out.apt (fun k e => by injection e with e; omega)
          have A_sUY : Hid (Apt (some k_s) (some ⟨gY, 0, none⟩) (Q * R)) := UY.out.apt (fun k e => by injection e with e; omega)
          have A_sUG : Hid (Apt (some k_s) (some ⟨gG, 0, none⟩) (P * R)) := UG.out.apt (fun k e => by injection e with e; omega)
          have K_lX : Hid (k_l ≠ k_X) := by have := X.out.2.2.2.2; show _ ≠ _; omega
          have K_lY : Hid (k_l ≠ k_Y) := by have := Y.out.2.2.2.2; show _ ≠ _; omega
          have K_lG : Hid (k_l ≠ k_G) := by have := G.out.2.2.2.2; show _ ≠ _; omega
          have A_lUX : Hid (Apt (some k_l) (some ⟨gX, 0, none⟩) (P * Q)) := UX.out.apt (fun k e => by injection e with e; omega)
          have A_lUY : Hid (Apt (some k_l) (some ⟨gY, 0, none⟩) (Q * R)) := UY.out.apt (fun k e => by injection e with e; omega)
          have A_lUG : Hid (Apt (some k_l) (some ⟨gG, 0, none⟩) (P * R)) := UG.out.apt (fun k e => by injection e with e; omega)
          have N_sl : Hid (k_s ≠ k_l) := by show _ ≠ _; omega
          rw [← hk_l] at m1_ ⊢
          rw [← hk_s] at m0_ ⊢
          generalize ((w11_.alloc (.cells #[.bool false, .slice none 0 0, .int .i64 0, .slice none 0 0] 49)).alloc (.cells #[.bool false, .slice none 0 0, .int .i64 0, .slice none 0 0] 49)) = w12_ at m0_ m1_ b_ ⊢
          replace BW : Hid (Below _ _ _) := bstep BW.out b_
          replace UX : Hid (URow _ _ _ _ _) := UX.out.below b_
          replace X : Hid (MBox _ _ _ _ _ _) := X.out.below b_
          replace UY : Hid (URow _ _ _ _ _) := UY.out.below b_
          replace Y : Hid (MBox _ _ _ _ _ _) := Y.out.below b_
          replace UG : Hid (URow _ _ _ _ _) := UG.out.below b_
          replace G : Hid (MBox _ _ _ _ _ _) := G.out.below b_
          have b_s : Hid (BoxF w12_ k_s (.bool false) (.slice none 0 0) (.int .i64 0) (.slice none 0 0)) := m0_
          have b_l : Hid (BoxF w12_ k_l (.bool false) (.slice none 0 0) (.int .i64 0) (.slice none 0 0)) := m1_
          clear b_ m0_ hk_s m1_ hk_l
          obtain ⟨B0, hB0⟩ : ∃ B, B = w12_.heap.size := ⟨_, rfl⟩
          have KB_s : Hid (k_s < B0) := by rw [hB0]; exact b_s.out.2.2
          have KB_l : Hid (k_l < B0) := by rw [hB0]; exact b_l.out.2.2
          have ZB0 : Hid (B0 ≤ w12_.heap.size) := by show _ ≤ _; omega
          clear hB0
          go_wp2_with fail
          go_loopw [18] (fun s18_ wr => ∃ (j : Nat) (s_n : Bool) (s_a : Option Addr) (s_m s_c : Nat) (s_p : Int) (l_n : Bool) (l_a : Option Addr) (l_m l_c : Nat) (l_p : Int), s18_ = .int .i64 (j : Int) ∧ j ≤ Q ∧ Hid (Below w.heap.size w wr) ∧ Hid (URow wr (some ⟨gX, 0, none⟩) (P * Q) (P * Q) zX) ∧ Hid (MBox wr k_X (P : Int) (Q : Int) (Q : Int) (.slice (some ⟨gX, 0, none⟩) (P * Q) (P * Q))) ∧ Hid (URow wr (some ⟨gY, 0, none⟩) (Q * R) (Q * R) zY) ∧ Hid (MBox wr k_Y (Q : Int) (R : Int) (R : Int) (.slice (some ⟨gY, 0, none⟩) (Q * R) (Q * R))) ∧ Hid (URow wr (some ⟨gG, 0, none⟩) (P * R) (P * R) zG) ∧ Hid (MBox wr k_G (P : Int) (R : Int) (R : Int) (.slice (some ⟨gG, 0, none⟩) (P * R) (P * R))) ∧ Hid (B0 ≤ wr.heap.size) ∧ Hid (BoxF wr k_s (.bool s_n) (.slice s_a s_m s_c) (.int .i64 s_p) (.slice none 0 0)) ∧ Hid (Tell wr B0 (.agg #[.bool s_n, .slice s_a s_m s_c, .int .i64 s_p, .slice none 0 0]) 34 (34 + j) (sumP Xr Yc j * 268435456)) ∧ Hid (BoxF wr k_l (.bool l_n) (.slice l_a l_m l_c) (.int .i64 l_p) (.slice none 0 0)) ∧ Hid (Tell wr B0 (.agg #[.bool l_n, .slice l_a l_m l_c, .int .i64 l_p, .slice none 0 0]) 34 (34 + j) ((absP Xr Yc j : Int) * 268435456))) (fun s18_ _ => Q - (intOf s18_).toNat)
          case atStart => exact ⟨0, false, none, 0, 0, 0, false, none, 0, 0, 0, rfl, Nat.zero_le _, BW, UX, X, UY, Y, UG, G, ZB0, b_s, (Tell.zero _ _ _ _ _ (by simp)).eq rfl, b_l, (Tell.zero _ _ _ _ _ (by simp)).eq (by simp [absP])⟩
          case round =>
            clear BW UX X UY Y UG G ZB0 b_s b_l
            obtain ⟨j, s_n, s_a, s_m, s_c, s_p, l_n, l_a, l_m, l_c, l_p, rfl, hj_, BW, UX, X, UY, Y, UG, G, ZB0, b_s, t_s, b_l, t_l⟩ := hrel
            obtain ⟨w13_, rfl⟩ : ∃ x, x = wr := ⟨wr, rfl⟩
            by_cases hlt3 : (j : Int) < (Q : Int)
            · skip
              obtain ⟨x0, x1⟩ := UX.out.2.2.1 (i * Q + j)
              obtain ⟨y0, y1⟩ := UY.out.2.2.1 (j * R + k)
              have hxx := HXr.out j
              have hyy := HYc.out j
              have FNX := HFXr.out j (by omega)
              have FNY := HFYc.out j (by omega)
              obtain ⟨x, hx⟩ : ∃ x, zX (i * Q + j) = x := ⟨_, rfl⟩
              obtain ⟨y, hy⟩ : ∃ x, zY (j * R + k) = x := ⟨_, rfl⟩
              rw [hx] at x0 x1 hxx
              rw [hy] at y0 y1 hyy
              rw [hxx] at FNX
              rw [hyy] at FNY
              have HX1 : Hid (_ = _) := hx
              have HY1 : Hid (_ = _) := hy
              have HXX : Hid (Xr j = x) := hxx
              have HYY : Hid (Yc j = y) := hyy
              have HFNX : Hid (mag x < 9218868437227405312) := FNX
              have HFNY : Hid (mag y < 9218868437227405312) := FNY
              clear hx hy hxx hyy FNX FNY
              obtain ⟨X_0, X_1, X_2, X_3, X_4⟩ := X.out
              go_wp2_with fail
              refine (mAtN P Q Q _ _ _ zX i j _ TX.out UX.out (by omega) (by omega)).mono ?_
              rintro e w14_ ⟨rfl, hb14_⟩
              rw [HX1.out]
              clear X_0 X_1 X_2 X_3 X_4
              replace BW : Hid (Below _ _ _) := bstep BW.out hb14_
              replace UX : Hid (URow _ _ _ _ _) := UX.out.below hb14_
              replace X : Hid (MBox _ _ _ _ _ _) := X.out.below hb14_
              replace UY : Hid (URow _ _ _ _ _) := UY.out.below hb14_
              replace Y : Hid (MBox _ _ _ _ _ _) := Y.out.below hb14_
              replace UG : Hid (URow _ _ _ _ _) := UG.out.below hb14_
              replace G : Hid (MBox _ _ _ _ _ _) := G.out.below hb14_
              replace ZB0 : Hid (_ ≤ _) := Nat.le_trans ZB0.out (Below.size hb14_)
              replace b_s : Hid (BoxF _ _ _ _ _ _) := b_s.out.below hb14_
              replace t_s : Hid (Tell _ _ _ _ _ _) := t_s.out.below hb14_
              replace b_l : Hid (BoxF _ _ _ _ _ _) := b_l.out.below hb14_
              replace t_l : Hid (Tell _ _ _ _ _ _) := t_l.out.below hb14_
              clear hb14_
              go_wp2_with fail
              refine (dOf x _ x0 x1).mono ?_
              rintro e w15_ ⟨a_v, rfl, ht_, hb_⟩
              obtain ⟨a_n, a_a, a_m, a_c, a_p, rfl, ht2_⟩ := ht_.numform
              replace ht2_ := ht2_.base (b' := B0) ZB0.out
              clear ht_
              replace BW : Hid (Below _ _ _) := bstep BW.out hb_
              replace UX : Hid (URow _ _ _ _ _) := UX.out.below hb_
              replace X : Hid (MBox _ _ _ _ _ _) := X.out.below hb_
              replace UY : Hid (URow _ _ _ _ _) := UY.out.below hb_
              replace Y : Hid (MBox _ _ _ _ _ _) := Y.out.below hb_
              replace UG : Hid (URow _ _ _ _ _) := UG.out.below hb_
              replace G : Hid (MBox _ _ _ _ _ _) := G.out.below hb_
              replace ZB0 : Hid (_ ≤ _) := Nat.le_trans ZB0.out (Below.size hb_)
              replace b_s : Hid (BoxF _ _ _ _ _ _) := b_s.out.below hb_
              replace t_s : Hid (Tell _ _ _ _ _ _) := t_s.out.below hb_
              replace b_l : Hid (BoxF _ _ _ _ _ _) := b_l.out.below hb_
              replace t_l : Hid (Tell _ _ _ _ _ _) := t_l.out.below hb_
              clear hb_
              go_upto_region 28 with fail
              have mB_ := BoxF.made w15_ (.bool a_n) (.slice a_a a_m a_c) (.int .i64 a_p) (.slice none 0 0) 49
              have tB_ := ht2_.alloc (.cells #[.bool a_n, .slice a_a a_m a_c, .int .i64 a_p, .slice none 0 0] 49)
              have b_ := bmore (Below.refl w15_.heap.size w15_) (.cells #[.bool a_n, .slice a_a a_m a_c, .int .i64 a_p, .slice none 0 0] 49)
              clear ht2_
              generalize (w15_.alloc (.cells #[.bool a_n, .slice a_a a_m a_c, .int .i64 a_p, .slice none 0 0] 49)) = w16_ at mB_ b_ tB_ ⊢
              obtain ⟨k_a, hk_a⟩ : ∃ k, k = w15_.heap.size := ⟨_, rfl⟩
              have N_sa : Hid (k_s ≠ k_a) := by have := b_s.out.2.2; show _ ≠ _; omega
              have N_la : Hid (k_l ≠ k_a) := by have := b_l.out.2.2; show _ ≠ _; omega
              rw [← hk_a] at mB_ ⊢
              replace BW : Hid (Below _ _ _) := bstep BW.out b_
              replace UX : Hid (URow _ _ _ _ _) := UX.out.below b_
              replace X : Hid (MBox _ _ _ _ _ _) := X.out.below b_
              replace UY : Hid (URow _ _ _ _ _) := UY.out.below b_
              replace Y : Hid (MBox _ _ _ _ _ _) := Y.out.below b_
              replace UG : Hid (URow _ _ _ _ _) := UG.out.below b_
              replace G : Hid (MBox _ _ _ _ _ _) := G.out.below b_
              replace ZB0 : Hid (_ ≤ _) := Nat.le_trans ZB0.out (Below.size b_)
              replace b_s : Hid (BoxF _ _ _ _ _ _) := b_s.out.below b_
              replace t_s : Hid (Tell _ _ _ _ _ _) := t_s.out.below b_
              replace b_l : Hid (BoxF _ _ _ _ _ _) := b_l.out.below b_
              replace t_l : Hid (Tell _ _ _ _ _ _) := t_l.out.below b_
              have b_a : Hid (BoxF w16_ k_a (.bool a_n) (.slice a_a a_m a_c) (.int .i64 a_p) (.slice none 0 0)) := mB_
              have t_a : Hid (Tell w16_ B0 (.agg #[.bool a_n, .slice a_a a_m a_c, .int .i64 a_p, .slice none 0 0]) 17 17 (xv x)) := tB_
              clear mB_ b_ tB_ hk_a
              obtain ⟨Y_0, Y_1, Y_2, Y_3, Y_4⟩ := Y.out
              go_wp2_with fail
              refine (mAtN Q R R _ _ _ zY j k _ TY.out UY.out (by omega) (by omega)).mono ?_
              rintro e w17_ ⟨rfl, hb17_⟩
              rw [HY1.out]
              clear Y_0 Y_1 Y_2 Y_3 Y_4
              replace BW : Hid (Below _ _ _) := bstep BW.out hb17_
              replace UX : Hid (URow _ _ _ _ _) := UX.out.below hb17_
              replace X : Hid (MBox _ _ _ _ _ _) := X.out.below hb17_
              replace UY : Hid (URow _ _ _ _ _) := UY.out.below hb17_
              replace Y : Hid (MBox _ _ _ _ _ _) := Y.out.below hb17_
              replace UG : Hid (URow _ _ _ _ _) := UG.out.below hb17_
              replace G : Hid (MBox _ _ _ _ _ _) := G.out.below hb17_
              replace ZB0 : Hid (_ ≤ _) := Nat.le_trans ZB0.out (Below.size hb17_)
              replace b_s : Hid (BoxF _ _ _ _ _ _) := b_s.out.below hb17_
              replace t_s : Hid (Tell _ _ _ _ _ _) := t_s.out.below hb17_
              replace b_l : Hid (BoxF _ _ _ _ _ _) := b_l.out.below hb17_
              replace t_l : Hid (Tell _ _ _ _ _ _) := t_l.out.below hb17_
              replace b_a : Hid (BoxF _ _ _ _ _ _) := b_a.out.below hb17_
              replace t_a : Hid (Tell _ _ _ _ _ _) := t_a.out.below hb17_
              clear hb17_
              go_wp2_with fail
              refine (dOf y _ y0 y1).mono ?_
              rintro e w18_ ⟨h_v, rfl, ht_, hb_⟩
              obtain ⟨h_n, h_a, h_m, h_c, h_p, rfl, ht2_⟩ := ht_.numform
              replace ht2_ := ht2_.base (b' := B0) ZB0.out
              clear ht_
              replace BW : Hid (Below _ _ _) := bstep BW.out hb_
              replace UX : Hid (URow _ _ _ _ _) := UX.out.below hb_
              replace X : Hid (MBox _ _ _ _ _ _) := X.out.below hb_
              replace UY : Hid (URow _ _ _ _ _) := UY.out.below hb_
              replace Y : Hid (MBox _ _ _ _ _ _) := Y.out.below hb_
              replace UG : Hid (URow _ _ _ _ _) := UG.out.below hb_
              replace G : Hid (MBox _ _ _ _ _ _) := G.out.below hb_
              replace ZB0 : Hid (_ ≤ _) := Nat.le_trans ZB0.out (Below.size hb_)
              replace b_s : Hid (BoxF _ _ _ _ _ _) := b_s.out.below hb_
              replace t_s : Hid (Tell _ _ _ _ _ _) := t_s.out.below hb_
              replace b_l : Hid (BoxF _ _ _ _ _ _) := b_l.out.below hb_
              replace t_l : Hid (Tell _ _ _ _ _ _) := t_l.out.below hb_
              replace b_a : Hid (BoxF _ _ _ _ _ _) := b_a.out.below hb_
              replace t_a : Hid (Tell _ _ _ _ _ _) := t_a.out.below hb_
              clear hb_
              go_upto_region 29 with fail
              have mB_ := BoxF.made w18_ (.bool h_n) (.slice h_a h_m h_c) (.int .i64 h_p) (.slice none 0 0) 49
              have tB_ := ht2_.alloc (.cells #[.bool h_n, .slice h_a h_m h_c, .int .i64 h_p, .slice none 0 0] 49)
              have b_ := bmore (Below.refl w18_.heap.size w18_) (.cells #[.bool h_n, .slice h_a h_m h_c, .int .i64 h_p, .slice none 0 0] 49)
              clear ht2_
              generalize (w18_.alloc (.cells #[.bool h_n, .slice h_a h_m h_c, .int .i64 h_p, .slice none 0 0] 49)) = w19_ at mB_ b_ tB_ ⊢
              obtain ⟨k_h, hk_h⟩ : ∃ k, k = w18_.heap.size := ⟨_, rfl⟩
              have N_sh : Hid (k_s ≠ k_h) := by have := b_s.out.2.2; show _ ≠ _; omega
              have N_lh : Hid (k_l ≠ k_h) := by have := b_l.out.2.2; show _ ≠ _; omega
              have N_ah : Hid (k_a ≠ k_h) := by have := b_a.out.2.2; show _ ≠ _; omega
              rw [← hk_h] at mB_ ⊢
              replace BW : Hid (Below _ _ _) := bstep BW.out b_
              replace UX : Hid (URow _ _ _ _ _) := UX.out.below b_
              replace X : Hid (MBox _ _ _ _ _ _) := X.out.below b_
              replace UY : Hid (URow _ _ _ _ _) := UY.out.below b_
              replace Y : Hid (MBox _ _ _ _ _ _) := Y.out.below b_
              replace UG : Hid (URow _ _ _ _ _) := UG.out.below b_
              replace G : Hid (MBox _ _ _ _ _ _) := G.out.below b_
              replace ZB0 : Hid (_ ≤ _) := Nat.le_trans ZB0.out (Below.size b_)
              replace b_s : Hid (BoxF _ _ _ _ _ _) := b_s.out.below b_
              replace t_s : Hid (Tell _ _ _ _ _ _) := t_s.out.below b_
              replace b_l : Hid (BoxF _ _ _ _ _ _) := b_l.out.below b_
              replace t_l : Hid (Tell _ _ _ _ _ _) := t_l.out.below b_
              replace b_a : Hid (BoxF _ _ _ _ _ _) := b_a.out.below b_
              replace t_a : Hid (Tell _ _ _ _ _ _) := t_a.out.below b_
              have b_h : Hid (BoxF w19_ k_h (.bool h_n) (.slice h_a h_m h_c) (.int .i64 h_p) (.slice none 0 0)) := mB_
              have t_h : Hid (Tell w19_ B0 (.agg #[.bool h_n, .slice h_a h_m h_c, .int .i64 h_p, .slice none 0 0]) 17 17 (xv y)) := tB_
              clear mB_ b_ tB_ hk_h
              obtain ⟨⟨b_s_0, b_s_1, b_s_2, b_s_3⟩, ⟨b_s_5, b_s_6, b_s_7, b_s_8⟩, b_s_4⟩ := b_s.out
              obtain ⟨⟨b_a_0, b_a_1, b_a_2, b_a_3⟩, ⟨b_a_5, b_a_6, b_a_7, b_a_8⟩, b_a_4⟩ := b_a.out
              obtain ⟨⟨b_h_0, b_h_1, b_h_2, b_h_3⟩, ⟨b_h_5, b_h_6, b_h_7, b_h_8⟩, b_h_4⟩ := b_h.out
              go_wp2_with fail
              clear b_s_0 b_s_1 b_s_2 b_s_3 b_s_4 b_s_5 b_s_6 b_s_7 b_s_8 b_a_0 b_a_1 b_a_2 b_a_3 b_a_4 b_a_5 b_a_6 b_a_7 b_a_8 b_h_0 b_h_1 b_h_2 b_h_3 b_h_4 b_h_5 b_h_6 b_h_7 b_h_8
              have HBa : Hid (Below w19_.heap.size w19_ w19_.drew) := (Below.refl _ _).drew
              have hfz_ := fun (w' : World) (h : Below w19_.heap.size w19_ w') => b_s.out.below h
              refine wp_region_noPanic ?_
              refine AnyT.start (T := (fun w' => (w'.cell? ⟨k_s, 0, none⟩ = some (.bool s_n) ∧ w'.cell? ⟨k_s, 1, none⟩ = some (.slice s_a s_m s_c) ∧ w'.cell? ⟨k_s, 2, none⟩ = some (.int .i64 s_p) ∧ w'.cell? ⟨k_s, 3, none⟩ = some (.slice none 0 0)) ∧ (w'.cell? ⟨k_a, 0, none⟩ = some (.bool a_n) ∧ w'.cell? ⟨k_a, 1, none⟩ = some (.slice a_a a_m a_c) ∧ w'.cell? ⟨k_a, 2, none⟩ = some (.int .i64 a_p) ∧ w'.cell? ⟨k_a, 3, none⟩ = some (.slice none 0 0)) ∧ (w'.cell? ⟨k_h, 0, none⟩ = some (.bool h_n) ∧ w'.cell? ⟨k_h, 1, none⟩ = some (.slice h_a h_m h_c) ∧ w'.cell? ⟨k_h, 2, none⟩ = some (.int .i64 h_p) ∧ w'.cell? ⟨k_h, 3, none⟩ = some (.slice none 0 0)))) (z := 5) (by kernel_rfl) ?_
              have hHeld0 := (⟨b_s.out.drew.cells, b_a.out.drew.cells, b_h.out.drew.cells⟩ : (fun w' => (w'.cell? ⟨k_s, 0, none⟩ = some (.bool s_n) ∧ w'.cell? ⟨k_s, 1, none⟩ = some (.slice s_a s_m s_c) ∧ w'.cell? ⟨k_s, 2, none⟩ = some (.int .i64 s_p) ∧ w'.cell? ⟨k_s, 3, none⟩ = some (.slice none 0 0)) ∧ (w'.cell? ⟨k_a, 0, none⟩ = some (.bool a_n) ∧ w'.cell? ⟨k_a, 1, none⟩ = some (.slice a_a a_m a_c) ∧ w'.cell? ⟨k_a, 2, none⟩ = some (.int .i64 a_p) ∧ w'.cell? ⟨k_a, 3, none⟩ = some (.slice none 0 0)) ∧ (w'.cell? ⟨k_h, 0, none⟩ = some (.bool h_n) ∧ w'.cell? ⟨k_h, 1, none⟩ = some (.slice h_a h_m h_c) ∧ w'.cell? ⟨k_h, 2, none⟩ = some (.int .i64 h_p) ∧ w'.cell? ⟨k_h, 3, none⟩ = some (.slice none 0 0))) w19_.drew)
              refine AnyT.take (i := 0) (oi := ({ dst := some 104, op := Op.load _ (Operand.tmp 16), type := _, pos := _, after := _, guard := none } : Oper)) (v := ?_) rfl (by kernel_rfl) (by kernel_rfl) (by kernel_rfl) (by kernel_rfl) (fun _ _ _ h => h) (Or.inl ⟨by rfl, ?_⟩) hHeld0 ?_
              rotate_left
              · intro w' hSw; (try dsimp only at hSw); go_simp <;> (try with_reducible rfl)
              (try simp only [Act.put, List.setIfInBounds_toArray, List.set_cons_zero, List.set_cons_succ])
              refine AnyT.take (i := 1) (oi := ({ dst := some 105, op := Op.load _ (Operand.tmp 19), type := _, pos := _, after := _, guard := none } : Oper)) (v := ?_) rfl (by kernel_rfl) (by kernel_rfl) (by kernel_rfl) (by kernel_rfl) (fun _ _ _ h => h) (Or.inl ⟨by rfl, ?_⟩) hHeld0 ?_
              rotate_left
              · intro w' hSw; (try dsimp only at hSw); go_simp <;> (try with_reducible rfl)
              (try simp only [Act.put, List.setIfInBounds_toArray, List.set_cons_zero, List.set_cons_succ])
              refine AnyT.take (i := 2) (oi := ({ dst := some 106, op := Op.load _ (Operand.tmp 21), type := _, pos := _, after := _, guard := none } : Oper)) (v := ?_) rfl (by kernel_rfl) (by kernel_rfl) (by kernel_rfl) (by kernel_rfl) (fun _ _ _ h => h) (Or.inl ⟨by rfl, ?_⟩) hHeld0 ?_
              rotate_left
              · intro w' hSw; (try dsimp only at hSw); go_simp <;> (try with_reducible rfl)
              (try simp only [Act.put, List.setIfInBounds_toArray, List.set_cons_zero, List.set_cons_succ])
              refine AnyT.one (i := 3) (o := ({ dst := some 107, op := Op.call { callee := Callee.value (Operand.func _), args := #[Operand.tmp 105, Operand.tmp 106], argTypes := _ }, type := _, pos := _, after := _, guard := none } : Oper)) (by kernel_rfl) rfl (fun K hK => ?_)
              go_simp
              refine (dMul _ _ _ B0 17 17 17 17 _ _ (t_a.out.below HBa.out) (t_h.out.below HBa.out) (by omega) (by omega) (by omega) (by omega) (by omega) (by omega)).mono ?_
              rintro e Wq0_ ⟨r1x0_v, rfl, ht_, hb_⟩
              obtain ⟨r1x0_n, r1x0_a, r1x0_m, r1x0_c, r1x0_p, rfl, ht2_⟩ := ht_.numform
              clear ht_
              have t_r1x0 : Hid (Tell Wq0_ B0 (.agg #[.bool r1x0_n, .slice r1x0_a r1x0_m r1x0_c, .int .i64 r1x0_p, .slice none 0 0]) 34 34 (xv x * xv y)) := ht2_.base (by have := ZB0.out; have := Below.size HBa.out; show B0 ≤ _; omega)
              clear ht2_
              replace HBa : Hid (Below w19_.heap.size w19_ Wq0_) := bstep HBa.out hb_
              clear hb_
              (try go_wp2_with fail)
              refine hK.out _ _ (fun _ => ⟨(b_s.out.below HBa.out).cells, (b_a.out.below HBa.out).cells, (b_h.out.below HBa.out).cells⟩) (fun hHeld1 => ?_)
              replace hHeld0 := hHeld1 (by decide)
              clear hK K hHeld1
              (try simp only [Act.put, List.setIfInBounds_toArray, List.set_cons_zero, List.set_cons_succ])
              refine AnyT.one (i := 4) (o := ({ dst := some 108, op := Op.call { callee := Callee.value (Operand.func _), args := #[Operand.tmp 104, Operand.tmp 107], argTypes := _ }, type := _, pos := _, after := _, guard := none } : Oper)) (by kernel_rfl) rfl (fun K hK => ?_)
              go_simp
              refine (dAdd _ _ _ B0 34 (34 + (j : Int)) _ _ (t_s.out.below HBa.out) ((t_r1x0.out).wide (34 + (j : Int)) (by omega)) (by omega) (by omega) (by omega)).mono ?_
              rintro e Wq1_ ⟨r1x1_v, rfl, ht_, hb_⟩
              obtain ⟨r1x1_n, r1x1_a, r1x1_m, r1x1_c, r1x1_p, rfl, ht2_⟩ := ht_.numform
              clear ht_
              have t_r1x1 : Hid (Tell Wq1_ B0 (.agg #[.bool r1x1_n, .slice r1x1_a r1x1_m r1x1_c, .int .i64 r1x1_p, .slice none 0 0]) 34 (34 + (j : Int) + 1) (sumP Xr Yc j * 268435456 + xv x * xv y)) := ht2_.base (by have := ZB0.out; have := Below.size HBa.out; show B0 ≤ _; omega)
              clear ht2_
              replace t_r1x0 : Hid (Tell _ _ _ _ _ _) := t_r1x0.out.below hb_
              replace HBa : Hid (Below w19_.heap.size w19_ Wq1_) := bstep HBa.out hb_
              clear hb_
              (try go_wp2_with fail)
              refine hK.out _ _ (fun _ => ⟨(b_s.out.below HBa.out).cells, (b_a.out.below HBa.out).cells, (b_h.out.below HBa.out).cells⟩) (fun hHeld1 => ?_)
              replace hHeld0 := hHeld1 (by decide)
              clear hK K hHeld1
              (try simp only [Act.put, List.setIfInBounds_toArray, List.set_cons_zero, List.set_cons_succ])
              refine AnyT.one (i := 5) (o := ({ dst := none, op := Op.store _ (Operand.tmp 16) (Operand.tmp 108), type := _, pos := _, after := _, guard := none } : Oper)) (by kernel_rfl) rfl (fun K hK => ?_)
              clear hHeld0
              obtain ⟨⟨z0_, z1_, z2_, z3_⟩, ⟨z5_, z6_, z7_, z8_⟩, z4_⟩ := hfz_ _ HBa.out
              go_simp
              refine hK.out _ _ (fun h => absurd rfl h) (fun _ => ?_)
              clear hK K
              (try simp only [Act.put, List.setIfInBounds_toArray, List.set_cons_zero, List.set_cons_succ])
              refine AnyT.done (by kernel_rfl) ?_
              refine NoPanic.normal ?_
              have bs_ := bes_puts Wq1_ k_s (.bool r1x1_n) (.slice r1x1_a r1x1_m r1x1_c) (.int .i64 r1x1_p) (.slice none 0 0)
              have mB_ := (b_s.out.below HBa.out).put (.bool r1x1_n) (.slice r1x1_a r1x1_m r1x1_c) (.int .i64 r1x1_p) (.slice none 0 0)
              have tB_ := t_r1x1.out.put (b := k_s) KB_s.out (.bool r1x1_n) (.slice r1x1_a r1x1_m r1x1_c) (.int .i64 r1x1_p) (.slice none 0 0)
              clear z0_ z1_ z2_ z3_ z4_ z5_ z6_ z7_ z8_ hfz_
              replace BW : Hid (Below _ _ _) := bstep BW.out HBa.out
              replace UX : Hid (URow _ _ _ _ _) := UX.out.below HBa.out
              replace X : Hid (MBox _ _ _ _ _ _) := X.out.below HBa.out
              replace UY : Hid (URow _ _ _ _ _) := UY.out.below HBa.out
              replace Y : Hid (MBox _ _ _ _ _ _) := Y.out.below HBa.out
              replace UG : Hid (URow _ _ _ _ _) := UG.out.below HBa.out
              replace G : Hid (MBox _ _ _ _ _ _) := G.out.below HBa.out
              replace ZB0 : Hid (_ ≤ _) := Nat.le_trans ZB0.out (Below.size HBa.out)
              replace b_s : Hid (BoxF _ _ _ _ _ _) := b_s.out.below HBa.out
              replace t_s : Hid (Tell _ _ _ _ _ _) := t_s.out.below HBa.out
              replace b_l : Hid (BoxF _ _ _ _ _ _) := b_l.out.below HBa.out
              replace t_l : Hid (Tell _ _ _ _ _ _) := t_l.out.below HBa.out
              replace b_a : Hid (BoxF _ _ _ _ _ _) := b_a.out.below HBa.out
              replace t_a : Hid (Tell _ _ _ _ _ _) := t_a.out.below HBa.out
              replace b_h : Hid (BoxF _ _ _ _ _ _) := b_h.out.below HBa.out
              replace t_h : Hid (Tell _ _ _ _ _ _) := t_h.out.below HBa.out
              replace BW : Hid (Below _ _ _) := Bes.old BW.out bs_ L_s.out
              replace UX : Hid (URow _ _ _ _ _) := UX.out.puts A_sUX.out (.bool r1x1_n) (.slice r1x1_a r1x1_m r1x1_c) (.int .i64 r1x1_p) (.slice none 0 0)
              replace X : Hid (MBox _ _ _ _ _ _) := X.out.bes bs_ (ne_some K_sX.out)
              replace UY : Hid (URow _ _ _ _ _) := UY.out.puts A_sUY.out (.bool r1x1_n) (.slice r1x1_a r1x1_m r1x1_c) (.int .i64 r1x1_p) (.slice none 0 0)
              replace Y : Hid (MBox _ _ _ _ _ _) := Y.out.bes bs_ (ne_some K_sY.out)
              replace UG : Hid (URow _ _ _ _ _) := UG.out.puts A_sUG.out (.bool r1x1_n) (.slice r1x1_a r1x1_m r1x1_c) (.int .i64 r1x1_p) (.slice none 0 0)
              replace G : Hid (MBox _ _ _ _ _ _) := G.out.bes bs_ (ne_some K_sG.out)
              replace ZB0 : Hid (_ ≤ _) := Nat.le_trans ZB0.out (Bes.size bs_)
              replace b_l : Hid (BoxF _ _ _ _ _ _) := b_l.out.puts N_sl.out (.bool r1x1_n) (.slice r1x1_a r1x1_m r1x1_c) (.int .i64 r1x1_p) (.slice none 0 0)
              replace t_l : Hid (Tell _ _ _ _ _ _) := t_l.out.put (b := k_s) KB_s.out (.bool r1x1_n) (.slice r1x1_a r1x1_m r1x1_c) (.int .i64 r1x1_p) (.slice none 0 0)
              replace b_a : Hid (BoxF _ _ _ _ _ _) := b_a.out.puts N_sa.out (.bool r1x1_n) (.slice r1x1_a r1x1_m r1x1_c) (.int .i64 r1x1_p) (.slice none 0 0)
              replace t_a : Hid (Tell _ _ _ _ _ _) := t_a.out.put (b := k_s) KB_s.out (.bool r1x1_n) (.slice r1x1_a r1x1_m r1x1_c) (.int .i64 r1x1_p) (.slice none 0 0)
              replace b_h : Hid (BoxF _ _ _ _ _ _) := b_h.out.puts N_sh.out (.bool r1x1_n) (.slice r1x1_a r1x1_m r1x1_c) (.int .i64 r1x1_p) (.slice none 0 0)
              replace t_h : Hid (Tell _ _ _ _ _ _) := t_h.out.put (b := k_s) KB_s.out (.bool r1x1_n) (.slice r1x1_a r1x1_m r1x1_c) (.int .i64 r1x1_p) (.slice none 0 0)
              replace b_s : Hid (BoxF _ _ _ _ _ _) := mB_
              replace t_s : Hid (Tell _ B0 (.agg #[.bool r1x1_n, .slice r1x1_a r1x1_m r1x1_c, .int .i64 r1x1_p, .slice none 0 0]) 34 (34 + (j : Int) + 1) (sumP Xr Yc j * 268435456 + xv x * xv y)) := tB_
              clear mB_ tB_ bs_ HBa t_r1x0 t_r1x1
              generalize ((((Wq1_.setCell ⟨k_s, 0, none⟩ (.bool r1x1_n)).setCell ⟨k_s, 1, none⟩ (.slice r1x1_a r1x1_m r1x1_c)).setCell ⟨k_s, 2, none⟩ (.int .i64 r1x1_p)).setCell ⟨k_s, 3, none⟩ (.slice none 0 0)) = w20_ at BW UX X UY Y UG G ZB0 b_s t_s b_l t_l b_a t_a b_h t_h ⊢
              obtain ⟨⟨b_l_0, b_l_1, b_l_2, b_l_3⟩, ⟨b_l_5, b_l_6, b_l_7, b_l_8⟩, b_l_4⟩ := b_l.out
              obtain ⟨⟨b_a_0, b_a_1, b_a_2, b_a_3⟩, ⟨b_a_5, b_a_6, b_a_7, b_a_8⟩, b_a_4⟩ := b_a.out
              obtain ⟨⟨b_h_0, b_h_1, b_h_2, b_h_3⟩, ⟨b_h_5, b_h_6, b_h_7, b_h_8⟩, b_h_4⟩ := b_h.out
              go_wp2_with fail
              clear b_l_0 b_l_1 b_l_2 b_l_3 b_l_4 b_l_5 b_l_6 b_l_7 b_l_8 b_a_0 b_a_1 b_a_2 b_a_3 b_a_4 b_a_5 b_a_6 b_a_7 b_a_8 b_h_0 b_h_1 b_h_2 b_h_3 b_h_4 b_h_5 b_h_6 b_h_7 b_h_8
              have HBa : Hid (Below w20_.heap.size w20_ w20_.drew) := (Below.refl _ _).drew
              have hfz_ := fun (w' : World) (h : Below w20_.heap.size w20_ w') => b_l.out.below h
              refine wp_region_noPanic ?_
              refine AnyT.start (T := (fun w' => (w'.cell? ⟨k_l, 0, none⟩ = some (.bool l_n) ∧ w'.cell? ⟨k_l, 1, none⟩ = some (.slice l_a l_m l_c) ∧ w'.cell? ⟨k_l, 2, none⟩ = some (.int .i64 l_p) ∧ w'.cell? ⟨k_l, 3, none⟩ = some (.slice none 0 0)) ∧ (w'.cell? ⟨k_a, 0, none⟩ = some (.bool a_n) ∧ w'.cell? ⟨k_a, 1, none⟩ = some (.slice a_a a_m a_c) ∧ w'.cell? ⟨k_a, 2, none⟩ = some (.int .i64 a_p) ∧ w'.cell? ⟨k_a, 3, none⟩ = some (.slice none 0 0)) ∧ (w'.cell? ⟨k_h, 0, none⟩ = some (.bool h_n) ∧ w'.cell? ⟨k_h, 1, none⟩ = some (.slice h_a h_m h_c) ∧ w'.cell? ⟨k_h, 2, none⟩ = some (.int .i64 h_p) ∧ w'.cell? ⟨k_h, 3, none⟩ = some (.slice none 0 0)))) (z := 6) (by kernel_rfl) ?_
              have hHeld0 := (⟨b_l.out.drew.cells, b_a.out.drew.cells, b_h.out.drew.cells⟩ : (fun w' => (w'.cell? ⟨k_l, 0, none⟩ = some (.bool l_n) ∧ w'.cell? ⟨k_l, 1, none⟩ = some (.slice l_a l_m l_c) ∧ w'.cell? ⟨k_l, 2, none⟩ = some (.int .i64 l_p) ∧ w'.cell? ⟨k_l, 3, none⟩ = some (.slice none 0 0)) ∧ (w'.cell? ⟨k_a, 0, none⟩ = some (.bool a_n) ∧ w'.cell? ⟨k_a, 1, none⟩ = some (.slice a_a a_m a_c) ∧ w'.cell? ⟨k_a, 2, none⟩ = some (.int .i64 a_p) ∧ w'.cell? ⟨k_a, 3, none⟩ = some (.slice none 0 0)) ∧ (w'.cell? ⟨k_h, 0, none⟩ = some (.bool h_n) ∧ w'.cell? ⟨k_h, 1, none⟩ = some (.slice h_a h_m h_c) ∧ w'.cell? ⟨k_h, 2, none⟩ = some (.int .i64 h_p) ∧ w'.cell? ⟨k_h, 3, none⟩ = some (.slice none 0 0))) w20_.drew)
              refine AnyT.take (i := 0) (oi := ({ dst := some 109, op := Op.load _ (Operand.tmp 17), type := _, pos := _, after := _, guard := none } : Oper)) (v := ?_) rfl (by kernel_rfl) (by kernel_rfl) (by kernel_rfl) (by kernel_rfl) (fun _ _ _ h => h) (Or.inl ⟨by rfl, ?_⟩) hHeld0 ?_
              rotate_left
              · intro w' hSw; (try dsimp only at hSw); go_simp <;> (try with_reducible rfl)
              (try simp only [Act.put, List.setIfInBounds_toArray, List.set_cons_zero, List.set_cons_succ])
              refine AnyT.take (i := 1) (oi := ({ dst := some 110, op := Op.load _ (Operand.tmp 19), type := _, pos := _, after := _, guard := none } : Oper)) (v := ?_) rfl (by kernel_rfl) (by kernel_rfl) (by kernel_rfl) (by kernel_rfl) (fun _ _ _ h => h) (Or.inl ⟨by rfl, ?_⟩) hHeld0 ?_
              rotate_left
              · intro w' hSw; (try dsimp only at hSw); go_simp <;> (try with_reducible rfl)
              (try simp only [Act.put, List.setIfInBounds_toArray, List.set_cons_zero, List.set_cons_succ])
              refine AnyT.take (i := 2) (oi := ({ dst := some 111, op := Op.load _ (Operand.tmp 21), type := _, pos := _, after := _, guard := none } : Oper)) (v := ?_) rfl (by kernel_rfl) (by kernel_rfl) (by kernel_rfl) (by kernel_rfl) (fun _ _ _ h => h) (Or.inl ⟨by rfl, ?_⟩) hHeld0 ?_
              rotate_left
              · intro w' hSw; (try dsimp only at hSw); go_simp <;> (try with_reducible rfl)
              (try simp only [Act.put, List.setIfInBounds_toArray, List.set_cons_zero, List.set_cons_succ])
              refine AnyT.one (i := 3) (o := ({ dst := some 112, op := Op.call { callee := Callee.value (Operand.func _), args := #[Operand.tmp 110, Operand.tmp 111], argTypes := _ }, type := _, pos := _, after := _, guard := none } : Oper)) (by kernel_rfl) rfl (fun K hK => ?_)
              go_simp
              refine (dMul _ _ _ B0 17 17 17 17 _ _ (t_a.out.below HBa.out) (t_h.out.below HBa.out) (by omega) (by omega) (by omega) (by omega) (by omega) (by omega)).mono ?_
              rintro e Wq0_ ⟨r2x0_v, rfl, ht_, hb_⟩
              obtain ⟨r2x0_n, r2x0_a, r2x0_m, r2x0_c, r2x0_p, rfl, ht2_⟩ := ht_.numform
              clear ht_
              have t_r2x0 : Hid (Tell Wq0_ B0 (.agg #[.bool r2x0_n, .slice r2x0_a r2x0_m r2x0_c, .int .i64 r2x0_p, .slice none 0 0]) 34 34 (xv x * xv y)) := ht2_.base (by have := ZB0.out; have := Below.size HBa.out; show B0 ≤ _; omega)
              clear ht2_
              replace HBa : Hid (Below w20_.heap.size w20_ Wq0_) := bstep HBa.out hb_
              clear hb_
              (try go_wp2_with fail)
              refine hK.out _ _ (fun _ => ⟨(b_l.out.below HBa.out).cells, (b_a.out.below HBa.out).cells, (b_h.out.below HBa.out).cells⟩) (fun hHeld1 => ?_)
              replace hHeld0 := hHeld1 (by decide)
              clear hK K hHeld1
              (try simp only [Act.put, List.setIfInBounds_toArray, List.set_cons_zero, List.set_cons_succ])
              refine AnyT.one (i := 4) (o := ({ dst := some 113, op := Op.call { callee := Callee.value (Operand.func _), args := #[Operand.tmp 112], argTypes := _ }, type := _, pos := _, after := _, guard := none } : Oper)) (by kernel_rfl) rfl (fun K hK => ?_)
              go_simp
              refine (dAbs _ _ B0 34 34 _ t_r2x0.out (by omega) (by omega)).mono ?_
              rintro e Wq1_ ⟨r2x1_v, rfl, ht_, hb_⟩
              obtain ⟨r2x1_n, r2x1_a, r2x1_m, r2x1_c, r2x1_p, rfl, ht2_⟩ := ht_.numform
              clear ht_
              have t_r2x1 : Hid (Tell Wq1_ B0 (.agg #[.bool r2x1_n, .slice r2x1_a r2x1_m r2x1_c, .int .i64 r2x1_p, .slice none 0 0]) 34 34 (((xv x * xv y).natAbs : Int))) := ht2_.base (by have := ZB0.out; have := Below.size HBa.out; show B0 ≤ _; omega)
              clear ht2_
              replace t_r2x0 : Hid (Tell _ _ _ _ _ _) := t_r2x0.out.below hb_
              replace HBa : Hid (Below w20_.heap.size w20_ Wq1_) := bstep HBa.out hb_
              clear hb_
              (try go_wp2_with fail)
              refine hK.out _ _ (fun _ => ⟨(b_l.out.below HBa.out).cells, (b_a.out.below HBa.out).cells, (b_h.out.below HBa.out).cells⟩) (fun hHeld1 => ?_)
              replace hHeld0 := hHeld1 (by decide)
              clear hK K hHeld1
              (try simp only [Act.put, List.setIfInBounds_toArray, List.set_cons_zero, List.set_cons_succ])
              refine AnyT.one (i := 5) (o := ({ dst := some 114, op := Op.call { callee := Callee.value (Operand.func _), args := #[Operand.tmp 109, Operand.tmp 113], argTypes := _ }, type := _, pos := _, after := _, guard := none } : Oper)) (by kernel_rfl) rfl (fun K hK => ?_)
              go_simp
              refine (dAdd _ _ _ B0 34 (34 + (j : Int)) _ _ (t_l.out.below HBa.out) ((t_r2x1.out).wide (34 + (j : Int)) (by omega)) (by omega) (by omega) (by omega)).mono ?_
              rintro e Wq2_ ⟨r2x2_v, rfl, ht_, hb_⟩
              obtain ⟨r2x2_n, r2x2_a, r2x2_m, r2x2_c, r2x2_p, rfl, ht2_⟩ := ht_.numform
              clear ht_
              have t_r2x2 : Hid (Tell Wq2_ B0 (.agg #[.bool r2x2_n, .slice r2x2_a r2x2_m r2x2_c, .int .i64 r2x2_p, .slice none 0 0]) 34 (34 + (j : Int) + 1) ((absP Xr Yc j : Int) * 268435456 + ((xv x * xv y).natAbs : Int))) := ht2_.base (by have := ZB0.out; have := Below.size HBa.out; show B0 ≤ _; omega)
              clear ht2_
              replace t_r2x0 : Hid (Tell _ _ _ _ _ _) := t_r2x0.out.below hb_
              replace t_r2x1 : Hid (Tell _ _ _ _ _ _) := t_r2x1.out.below hb_
              replace HBa : Hid (Below w20_.heap.size w20_ Wq2_) := bstep HBa.out hb_
              clear hb_
              (try go_wp2_with fail)
              refine hK.out _ _ (fun _ => ⟨(b_l.out.below HBa.out).cells, (b_a.out.below HBa.out).cells, (b_h.out.below HBa.out).cells⟩) (fun hHeld1 => ?_)
              replace hHeld0 := hHeld1 (by decide)
              clear hK K hHeld1
              (try simp only [Act.put, List.setIfInBounds_toArray, List.set_cons_zero, List.set_cons_succ])
              refine AnyT.one (i := 6) (o := ({ dst := none, op := Op.store _ (Operand.tmp 17) (Operand.tmp 114), type := _, pos := _, after := _, guard := none } : Oper)) (by kernel_rfl) rfl (fun K hK => ?_)
              clear hHeld0
              obtain ⟨⟨z0_, z1_, z2_, z3_⟩, ⟨z5_, z6_, z7_, z8_⟩, z4_⟩ := hfz_ _ HBa.out
              go_simp
              refine hK.out _ _ (fun h => absurd rfl h) (fun _ => ?_)
              clear hK K
              (try simp only [Act.put, List.setIfInBounds_toArray, List.set_cons_zero, List.set_cons_succ])
              refine AnyT.done (by kernel_rfl) ?_
              refine NoPanic.normal ?_
              have bs_ := bes_puts Wq2_ k_l (.bool r2x2_n) (.slice r2x2_a r2x2_m r2x2_c) (.int .i64 r2x2_p) (.slice none 0 0)
              have mB_ := (b_l.out.below HBa.out).put (.bool r2x2_n) (.slice r2x2_a r2x2_m r2x2_c) (.int .i64 r2x2_p) (.slice none 0 0)
              have tB_ := t_r2x2.out.put (b := k_l) KB_l.out (.bool r2x2_n) (.slice r2x2_a r2x2_m r2x2_c) (.int .i64 r2x2_p) (.slice none 0 0)
              clear z0_ z1_ z2_ z3_ z4_ z5_ z6_ z7_ z8_ hfz_
              replace BW : Hid (Below _ _ _) := bstep BW.out HBa.out
              replace UX : Hid (URow _ _ _ _ _) := UX.out.below HBa.out
              replace X : Hid (MBox _ _ _ _ _ _) := X.out.below HBa.out
              replace UY : Hid (URow _ _ _ _ _) := UY.out.below HBa.out
              replace Y : Hid (MBox _ _ _ _ _ _) := Y.out.below HBa.out
              replace UG : Hid (URow _ _ _ _ _) := UG.out.below HBa.out
              replace G : Hid (MBox _ _ _ _ _ _) := G.out.below HBa.out
              replace ZB0 : Hid (_ ≤ _) := Nat.le_trans ZB0.out (Below.size HBa.out)
              replace b_s : Hid (BoxF _ _ _ _ _ _) := b_s.out.below HBa.out
              replace t_s : Hid (Tell _ _ _ _ _ _) := t_s.out.below HBa.out
              replace b_l : Hid (BoxF _ _ _ _ _ _) := b_l.out.below HBa.out
              replace t_l : Hid (Tell _ _ _ _ _ _) := t_l.out.below HBa.out
              replace b_a : Hid (BoxF _ _ _ _ _ _) := b_a.out.below HBa.out
              replace t_a : Hid (Tell _ _ _ _ _ _) := t_a.out.below HBa.out
              replace b_h : Hid (BoxF _ _ _ _ _ _) := b_h.out.below HBa.out
              replace t_h : Hid (Tell _ _ _ _ _ _) := t_h.out.below HBa.out
              replace BW : Hid (Below _ _ _) := Bes.old BW.out bs_ L_l.out
              replace UX : Hid (URow _ _ _ _ _) := UX.out.puts A_lUX.out (.bool r2x2_n) (.slice r2x2_a r2x2_m r2x2_c) (.int .i64 r2x2_p) (.slice none 0 0)
              replace X : Hid (MBox _ _ _ _ _ _) := X.out.bes bs_ (ne_some K_lX.out)
              replace UY : Hid (URow _ _ _ _ _) := UY.out.puts A_lUY.out (.bool r2x2_n) (.slice r2x2_a r2x2_m r2x2_c) (.int .i64 r2x2_p) (.slice none 0 0)
              replace Y : Hid (MBox _ _ _ _ _ _) := Y.out.bes bs_ (ne_some K_lY.out)
              replace UG : Hid (URow _ _ _ _ _) := UG.out.puts A_lUG.out (.bool r2x2_n) (.slice r2x2_a r2x2_m r2x2_c) (.int .i64 r2x2_p) (.slice none 0 0)
              replace G : Hid (MBox _ _ _ _ _ _) := G.out.bes bs_ (ne_some K_lG.out)
              replace ZB0 : Hid (_ ≤ _) := Nat.le_trans ZB0.out (Bes.size bs_)
              replace b_s : Hid (BoxF _ _ _ _ _ _) := b_s.out.puts (Ne.symm N_sl.out) (.bool r2x2_n) (.slice r2x2_a r2x2_m r2x2_c) (.int .i64 r2x2_p) (.slice none 0 0)
              replace t_s : Hid (Tell _ _ _ _ _ _) := t_s.out.put (b := k_l) KB_l.out (.bool r2x2_n) (.slice r2x2_a r2x2_m r2x2_c) (.int .i64 r2x2_p) (.slice none 0 0)
              replace b_a : Hid (BoxF _ _ _ _ _ _) := b_a.out.puts N_la.out (.bool r2x2_n) (.slice r2x2_a r2x2_m r2x2_c) (.int .i64 r2x2_p) (.slice none 0 0)
              replace t_a : Hid (Tell _ _ _ _ _ _) := t_a.out.put (b := k_l) KB_l.out (.bool r2x2_n) (.slice r2x2_a r2x2_m r2x2_c) (.int .i64 r2x2_p) (.slice none 0 0)
              replace b_h : Hid (BoxF _ _ _ _ _ _) := b_h.out.puts N_lh.out (.bool r2x2_n) (.slice r2x2_a r2x2_m r2x2_c) (.int .i64 r2x2_p) (.slice none 0 0)
              replace t_h : Hid (Tell _ _ _ _ _ _) := t_h.out.put (b := k_l) KB_l.out (.bool r2x2_n) (.slice r2x2_a r2x2_m r2x2_c) (.int .i64 r2x2_p) (.slice none 0 0)
              replace b_l : Hid (BoxF _ _ _ _ _ _) := mB_
              replace t_l : Hid (Tell _ B0 (.agg #[.bool r2x2_n, .slice r2x2_a r2x2_m r2x2_c, .int .i64 r2x2_p, .slice none 0 0]) 34 (34 + (j : Int) + 1) ((absP Xr Yc j : Int) * 268435456 + ((xv x * xv y).natAbs : Int))) := tB_
              clear mB_ tB_ bs_ HBa t_r2x0 t_r2x1 t_r2x2
              generalize ((((Wq2_.setCell ⟨k_l, 0, none⟩ (.bool r2x2_n)).setCell ⟨k_l, 1, none⟩ (.slice r2x2_a r2x2_m r2x2_c)).setCell ⟨k_l, 2, none⟩ (.int .i64 r2x2_p)).setCell ⟨k_l, 3, none⟩ (.slice none 0 0)) = w21_ at BW UX X UY Y UG G ZB0 b_s t_s b_l t_l b_a t_a b_h t_h ⊢
              have XE := xv_mul x y HFNX.out HFNY.out
              have ES : sumP Xr Yc j * 268435456 + xv x * xv y = sumP Xr Yc (j + 1) * 268435456 := by
                show _ = (sumP Xr Yc j + sv (Xr j) * sv (Yc j)) * 268435456
                rw [HXX.out, HYY.out, XE, Int.add_mul]
              have EL : (absP Xr Yc j : Int) * 268435456 + ((xv x * xv y).natAbs : Int) = (absP Xr Yc (j + 1) : Int) * 268435456 := by
                show _ = ((absP Xr Yc j + (sv (Xr j) * sv (Yc j)).natAbs : Nat) : Int) * 268435456
                rw [HXX.out, HYY.out, XE]
                generalize sv x * sv y = P
                omega
              have TS : Hid (Tell _ _ _ 34 (34 + ((j + 1 : Nat) : Int)) (sumP Xr Yc (j + 1) * 268435456)) := (t_s.out.wide _ (by omega)).eq ES
              have TL : Hid (Tell _ _ _ 34 (34 + ((j + 1 : Nat) : Int)) ((absP Xr Yc (j + 1) : Int) * 268435456)) := (t_l.out.wide _ (by omega)).eq EL
              clear XE ES EL t_s t_l t_a t_h b_a b_h
              go_wp2
              go_roundw
              case rel => exact ⟨j + 1, _, _, _, _, _, _, _, _, _, _, by go_num, by omega, BW, UX, X, UY, Y, UG, G, ZB0, b_s, TS, b_l, TL⟩
              case measure => simp [intOf]; omega
            · obtain rfl : Q = j := by omega
              obtain ⟨fd, dd⟩ := dot_err Xr Yc Q (by omega) HFXr.out HFYc.out HMK.out
              obtain ⟨d0, d1⟩ := dotV_rng Xr Yc Q
              obtain ⟨d, hd⟩ : ∃ d, dotV Xr Yc Q = d := ⟨_, rfl⟩
              rw [hd] at fd dd d0 d1
              have HGD : Hid (zG (i * R + k) = d) := HGK.out.trans hd
              have DD : Hid (_ ≤ _) := dd
              have FD_ : Hid (mag d < 9218868437227405312) := fd
              clear dd fd hd
              obtain ⟨G_0, G_1, G_2, G_3, G_4⟩ := G.out
              go_wp2_with fail
              refine (mAtN P R R _ _ _ zG i k _ TG.out UG.out (by omega) (by omega)).mono ?_
              rintro e w14_ ⟨rfl, hb14_⟩
              rw [HGD.out]
              clear G_0 G_1 G_2 G_3 G_4
              replace BW : Hid (Below _ _ _) := bstep BW.out hb14_
              replace UX : Hid (URow _ _ _ _ _) := UX.out.below hb14_
              replace X : Hid (MBox _ _ _ _ _ _) := X.out.below hb14_
              replace UY : Hid (URow _ _ _ _ _) := UY.out.below hb14_
              replace Y : Hid (MBox _ _ _ _ _ _) := Y.out.below hb14_
              replace UG : Hid (URow _ _ _ _ _) := UG.out.below hb14_
              replace G : Hid (MBox _ _ _ _ _ _) := G.out.below hb14_
              replace ZB0 : Hid (_ ≤ _) := Nat.le_trans ZB0.out (Below.size hb14_)
              replace b_s : Hid (BoxF _ _ _ _ _ _) := b_s.out.below hb14_
              replace t_s : Hid (Tell _ _ _ _ _ _) := t_s.out.below hb14_
              replace b_l : Hid (BoxF _ _ _ _ _ _) := b_l.out.below hb14_
              replace t_l : Hid (Tell _ _ _ _ _ _) := t_l.out.below hb14_
              clear hb14_
              go_wp2_with fail
              refine (dOf d _ d0 d1).mono ?_
              rintro e w15_ ⟨g_v, rfl, ht_, hb_⟩
              obtain ⟨g_n, g_a, g_m, g_c, g_p, rfl, ht2_⟩ := ht_.numform
              replace ht2_ := ht2_.base (b' := B0) ZB0.out
              clear ht_
              replace BW : Hid (Below _ _ _) := bstep BW.out hb_
              replace UX : Hid (URow _ _ _ _ _) := UX.out.below hb_
              replace X : Hid (MBox _ _ _ _ _ _) := X.out.below hb_
              replace UY : Hid (URow _ _ _ _ _) := UY.out.below hb_
              replace Y : Hid (MBox _ _ _ _ _ _) := Y.out.below hb_
              replace UG : Hid (URow _ _ _ _ _) := UG.out.below hb_
              replace G : Hid (MBox _ _ _ _ _ _) := G.out.below hb_
              replace ZB0 : Hid (_ ≤ _) := Nat.le_trans ZB0.out (Below.size hb_)
              replace b_s : Hid (BoxF _ _ _ _ _ _) := b_s.out.below hb_
              replace t_s : Hid (Tell _ _ _ _ _ _) := t_s.out.below hb_
              replace b_l : Hid (BoxF _ _ _ _ _ _) := b_l.out.below hb_
              replace t_l : Hid (Tell _ _ _ _ _ _) := t_l.out.below hb_
              clear hb_
              go_upto_region 32 with fail
              have mB_ := BoxF.made w15_ (.bool g_n) (.slice g_a g_m g_c) (.int .i64 g_p) (.slice none 0 0) 49
              have tB_ := ht2_.alloc (.cells #[.bool g_n, .slice g_a g_m g_c, .int .i64 g_p, .slice none 0 0] 49)
              have b_ := bmore (Below.refl w15_.heap.size w15_) (.cells #[.bool g_n, .slice g_a g_m g_c, .int .i64 g_p, .slice none 0 0] 49)
              clear ht2_
              generalize (w15_.alloc (.cells #[.bool g_n, .slice g_a g_m g_c, .int .i64 g_p, .slice none 0 0] 49)) = w16_ at mB_ b_ tB_ ⊢
              obtain ⟨k_g, hk_g⟩ : ∃ k, k = w15_.heap.size := ⟨_, rfl⟩
              have N_sg : Hid (k_s ≠ k_g) := by have := b_s.out.2.2; show _ ≠ _; omega
              have N_lg : Hid (k_l ≠ k_g) := by have := b_l.out.2.2; show _ ≠ _; omega
              rw [← hk_g] at mB_ ⊢
              replace BW : Hid (Below _ _ _) := bstep BW.out b_
              replace UX : Hid (URow _ _ _ _ _) := UX.out.below b_
              replace X : Hid (MBox _ _ _ _ _ _) := X.out.below b_
              replace UY : Hid (URow _ _ _ _ _) := UY.out.below b_
              replace Y : Hid (MBox _ _ _ _ _ _) := Y.out.below b_
              replace UG : Hid (URow _ _ _ _ _) := UG.out.below b_
              replace G : Hid (MBox _ _ _ _ _ _) := G.out.below b_
              replace ZB0 : Hid (_ ≤ _) := Nat.le_trans ZB0.out (Below.size b_)
              replace b_s : Hid (BoxF _ _ _ _ _ _) := b_s.out.below b_
              replace t_s : Hid (Tell _ _ _ _ _ _) := t_s.out.below b_
              replace b_l : Hid (BoxF _ _ _ _ _ _) := b_l.out.below b_
              replace t_l : Hid (Tell _ _ _ _ _ _) := t_l.out.below b_
              have b_g : Hid (BoxF w16_ k_g (.bool g_n) (.slice g_a g_m g_c) (.int .i64 g_p) (.slice none 0 0)) := mB_
              have t_g : Hid (Tell w16_ B0 (.agg #[.bool g_n, .slice g_a g_m g_c, .int .i64 g_p, .slice none 0 0]) 17 17 (xv d)) := tB_
              clear mB_ b_ tB_ hk_g
              have hw2 : IntKind.i64.wrap (2 * (Q : Int)) = 2 * (Q : Int) := by rw [IntKind.wrap_i64]; omega
              obtain ⟨cc, hcc⟩ : ∃ c, cmpZ (((xv d * pw (34 - 17) - sumP Xr Yc Q * 268435456).natAbs : Int) * pw (35 - 34)) ((absP Xr Yc Q : Int) * 268435456 * (2 * (Q : Int)) * 2048) = c := ⟨_, rfl⟩
              have hc0 : cc ≤ 0 := by
                rw [← hcc]
                refine cmp_nonpos _ _ ?_
                have e : xv d = sv d * 16384 := by unfold xv; rw [if_pos FD_.out]
                rw [show 34 - 17 = 17 from rfl, show 35 - 34 = 1 from rfl, pw17, pw1, e]
                exact dots_le _ _ _ _ _ DD.out
              have HCC : Hid (_ = _) := hcc
              clear hcc
              obtain ⟨⟨b_g_0, b_g_1, b_g_2, b_g_3⟩, ⟨b_g_5, b_g_6, b_g_7, b_g_8⟩, b_g_4⟩ := b_g.out
              obtain ⟨⟨b_s_0, b_s_1, b_s_2, b_s_3⟩, ⟨b_s_5, b_s_6, b_s_7, b_s_8⟩, b_s_4⟩ := b_s.out
              obtain ⟨⟨b_l_0, b_l_1, b_l_2, b_l_3⟩, ⟨b_l_5, b_l_6, b_l_7, b_l_8⟩, b_l_4⟩ := b_l.out
              go_wp2_with fail
              clear b_g_0 b_g_1 b_g_2 b_g_3 b_g_4 b_g_5 b_g_6 b_g_7 b_g_8 b_s_0 b_s_1 b_s_2 b_s_3 b_s_4 b_s_5 b_s_6 b_s_7 b_s_8 b_l_0 b_l_1 b_l_2 b_l_3 b_l_4 b_l_5 b_l_6 b_l_7 b_l_8
              have ct : Cnt 1 := Cnt.mk _
              have HBa : Hid (Below w16_.heap.size w16_ w16_) := Below.refl _ _
              go_region_held3 (fun w' => (w'.cell? ⟨k_g, 0, none⟩ = some (.bool g_n) ∧ w'.cell? ⟨k_g, 1, none⟩ = some (.slice g_a g_m g_c) ∧ w'.cell? ⟨k_g, 2, none⟩ = some (.int .i64 g_p) ∧ w'.cell? ⟨k_g, 3, none⟩ = some (.slice none 0 0)) ∧ (w'.cell? ⟨k_s, 0, none⟩ = some (.bool s_n) ∧ w'.cell? ⟨k_s, 1, none⟩ = some (.slice s_a s_m s_c) ∧ w'.cell? ⟨k_s, 2, none⟩ = some (.int .i64 s_p) ∧ w'.cell? ⟨k_s, 3, none⟩ = some (.slice none 0 0)) ∧ (w'.cell? ⟨k_l, 0, none⟩ = some (.bool l_n) ∧ w'.cell? ⟨k_l, 1, none⟩ = some (.slice l_a l_m l_c) ∧ w'.cell? ⟨k_l, 2, none⟩ = some (.int .i64 l_p) ∧ w'.cell? ⟨k_l, 3, none⟩ = some (.slice none 0 0))) (exact ⟨(b_g.out.below (by with_reducible repeat (first | (refine Below.drew ?_) | (refine bmore ?_ _) | exact HBa.out | exact Below.refl _ _))).cells, (b_s.out.below (by with_reducible repeat (first | (refine Below.drew ?_) | (refine bmore ?_ _) | exact HBa.out | exact Below.refl _ _))).cells, (b_l.out.below (by with_reducible repeat (first | (refine Below.drew ?_) | (refine bmore ?_ _) | exact HBa.out | exact Below.refl _ _))).cells⟩) (first | (have ck : Cnt 1 := ct; go_at_call 27; refine (dSub _ _ _ B0 34 (34 + (Q : Int)) _ _ ((t_g.out.below (by with_reducible repeat (first | (refine Below.drew ?_) | (refine bmore ?_ _) | exact HBa.out | exact Below.refl _ _))).up 34 (34 + (Q : Int)) (by omega) (by omega)) (t_s.out.below (by with_reducible repeat (first | (refine Below.drew ?_) | (refine bmore ?_ _) | exact HBa.out | exact Below.refl _ _))) (by omega) (by omega) (by omega)).mono ?_; rintro e Wq0_ ⟨r1x0_v, rfl, ht_, hb_⟩; obtain ⟨r1x0_n, r1x0_a, r1x0_m, r1x0_c, r1x0_p, rfl, ht2_⟩ := ht_.numform; clear ht_; have hbt_ : Below w16_.heap.size w16_ Wq0_ := bstep (by with_reducible repeat (first | (refine Below.drew ?_) | (refine bmore ?_ _) | exact (Below.refl _ _) | exact Below.refl _ _)) hb_; have t_r1x0 : Hid (Tell Wq0_ B0 (.agg #[.bool r1x0_n, .slice r1x0_a r1x0_m r1x0_c, .int .i64 r1x0_p, .slice none 0 0]) 34 ((34 + (Q : Int)) + 1) (xv d * pw (34 - 17) - sumP Xr Yc Q * 268435456)) := ht2_.base (Nat.le_trans ZB0.out (Below.size (B := w16_.heap.size) (by with_reducible repeat (first | (refine Below.drew ?_) | (refine bmore ?_ _) | exact HBa.out | exact Below.refl _ _)))); clear ht2_; replace HBa : Hid (Below w16_.heap.size w16_ Wq0_) := bstep HBa.out hbt_; replace ct : Cnt 2 := Cnt.mk _; clear hb_ hbt_ ck) | (have ck : Cnt 2 := ct; go_at_call 26; refine (dAbs _ _ B0 34 ((34 + (Q : Int)) + 1) _ (t_r1x0.out.below (by with_reducible repeat (first | (refine Below.drew ?_) | (refine bmore ?_ _) | exact (Below.refl _ _) | exact Below.refl _ _))) (by omega) (by omega)).mono ?_; rintro e Wq1_ ⟨r1x1_v, rfl, ht_, hb_⟩; obtain ⟨r1x1_n, r1x1_a, r1x1_m, r1x1_c, r1x1_p, rfl, ht2_⟩ := ht_.numform; clear ht_; have hbt_ : Below Wq0_.heap.size Wq0_ Wq1_ := bstep (by with_reducible repeat (first | (refine Below.drew ?_) | (refine bmore ?_ _) | exact (Below.refl _ _) | exact Below.refl _ _)) hb_; have t_r1x1 : Hid (Tell Wq1_ B0 (.agg #[.bool r1x1_n, .slice r1x1_a r1x1_m r1x1_c, .int .i64 r1x1_p, .slice none 0 0]) 34 ((34 + (Q : Int)) + 1) (((xv d * pw (34 - 17) - sumP Xr Yc Q * 268435456).natAbs : Int))) := ht2_.base (Nat.le_trans ZB0.out (Below.size (B := w16_.heap.size) (by with_reducible repeat (first | (refine Below.drew ?_) | (refine bmore ?_ _) | exact HBa.out | exact Below.refl _ _)))); clear ht2_; replace t_r1x0 : Hid (Tell _ _ _ _ _ _) := t_r1x0.out.below hbt_; replace HBa : Hid (Below w16_.heap.size w16_ Wq1_) := bstep HBa.out hbt_; replace ct : Cnt 3 := Cnt.mk _; clear hb_ hbt_ ck) | (have ck : Cnt 3 := ct; go_at_call 29; refine (dInt (2 * (Q : Int)) _ (by omega) (by omega)).mono ?_; rintro e Wq2_ ⟨r1x2_v, rfl, ht_, hb_⟩; obtain ⟨r1x2_n, r1x2_a, r1x2_m, r1x2_c, r1x2_p, rfl, ht2_⟩ := ht_.numform; clear ht_; have hbt_ : Below Wq1_.heap.size Wq1_ Wq2_ := bstep (by with_reducible repeat (first | (refine Below.drew ?_) | (refine bmore ?_ _) | exact (Below.refl _ _) | exact Below.refl _ _)) hb_; have t_r1x2 : Hid (Tell Wq2_ B0 (.agg #[.bool r1x2_n, .slice r1x2_a r1x2_m r1x2_c, .int .i64 r1x2_p, .slice none 0 0]) 0 2 (2 * (Q : Int))) := ht2_.base (Nat.le_trans ZB0.out (Below.size (B := w16_.heap.size) (by with_reducible repeat (first | (refine Below.drew ?_) | (refine bmore ?_ _) | exact HBa.out | exact Below.refl _ _)))); clear ht2_; replace t_r1x0 : Hid (Tell _ _ _ _ _ _) := t_r1x0.out.below hbt_; replace t_r1x1 : Hid (Tell _ _ _ _ _ _) := t_r1x1.out.below hbt_; replace HBa : Hid (Below w16_.heap.size w16_ Wq2_) := bstep HBa.out hbt_; replace ct : Cnt 4 := Cnt.mk _; clear hb_ hbt_ ck) | (have ck : Cnt 4 := ct; go_at_call 25; refine (dMul _ _ _ B0 34 0 (34 + (Q : Int)) 2 _ _ (t_l.out.below (by with_reducible repeat (first | (refine Below.drew ?_) | (refine bmore ?_ _) | exact HBa.out | exact Below.refl _ _))) (t_r1x2.out.below (by with_reducible repeat (first | (refine Below.drew ?_) | (refine bmore ?_ _) | exact (Below.refl _ _) | exact Below.refl _ _))) (by omega) (by omega) (by omega) (by omega) (by omega) (by omega)).mono ?_; rintro e Wq3_ ⟨r1x3_v, rfl, ht_, hb_⟩; obtain ⟨r1x3_n, r1x3_a, r1x3_m, r1x3_c, r1x3_p, rfl, ht2_⟩ := ht_.numform; clear ht_; have hbt_ : Below Wq2_.heap.size Wq2_ Wq3_ := bstep (by with_reducible repeat (first | (refine Below.drew ?_) | (refine bmore ?_ _) | exact (Below.refl _ _) | exact Below.refl _ _)) hb_; have t_r1x3 : Hid (Tell Wq3_ B0 (.agg #[.bool r1x3_n, .slice r1x3_a r1x3_m r1x3_c, .int .i64 r1x3_p, .slice none 0 0]) 34 ((34 + (Q : Int)) + 2) ((absP Xr Yc Q : Int) * 268435456 * (2 * (Q : Int)))) := ht2_.base (Nat.le_trans ZB0.out (Below.size (B := w16_.heap.size) (by with_reducible repeat (first | (refine Below.drew ?_) | (refine bmore ?_ _) | exact HBa.out | exact Below.refl _ _)))); clear ht2_; replace t_r1x0 : Hid (Tell _ _ _ _ _ _) := t_r1x0.out.below hbt_; replace t_r1x1 : Hid (Tell _ _ _ _ _ _) := t_r1x1.out.below hbt_; replace t_r1x2 : Hid (Tell _ _ _ _ _ _) := t_r1x2.out.below hbt_; replace HBa : Hid (Below w16_.heap.size w16_ Wq3_) := bstep HBa.out hbt_; replace ct : Cnt 5 := Cnt.mk _; clear hb_ hbt_ ck) | (have ck : Cnt 5 := ct; go_at_call 30; refine (dTwoAt (-53) 1 1 2048 _ (by decide) (by decide) (by decide) (by decide)).mono ?_; rintro e Wq4_ ⟨r1x4_v, rfl, ht_, hb_⟩; obtain ⟨r1x4_n, r1x4_a, r1x4_m, r1x4_c, r1x4_p, rfl, ht2_⟩ := ht_.numform; clear ht_; have hbt_ : Below Wq3_.heap.size Wq3_ Wq4_ := bstep (by with_reducible repeat (first | (refine Below.drew ?_) | (refine bmore ?_ _) | exact (Below.refl _ _) | exact Below.refl _ _)) hb_; have t_r1x4 : Hid (Tell Wq4_ B0 (.agg #[.bool r1x4_n, .slice r1x4_a r1x4_m r1x4_c, .int .i64 r1x4_p, .slice none 0 0]) 1 1 (2048)) := ht2_.base (Nat.le_trans ZB0.out (Below.size (B := w16_.heap.size) (by with_reducible repeat (first | (refine Below.drew ?_) | (refine bmore ?_ _) | exact HBa.out | exact Below.refl _ _)))); clear ht2_; replace t_r1x0 : Hid (Tell _ _ _ _ _ _) := t_r1x0.out.below hbt_; replace t_r1x1 : Hid (Tell _ _ _ _ _ _) := t_r1x1.out.below hbt_; replace t_r1x2 : Hid (Tell _ _ _ _ _ _) := t_r1x2.out.below hbt_; replace t_r1x3 : Hid (Tell _ _ _ _ _ _) := t_r1x3.out.below hbt_; replace HBa : Hid (Below w16_.heap.size w16_ Wq4_) := bstep HBa.out hbt_; replace ct : Cnt 6 := Cnt.mk _; clear hb_ hbt_ ck) | (have ck : Cnt 6 := ct; go_at_call 25; refine (dMul _ _ _ B0 34 1 ((34 + (Q : Int)) + 2) 1 _ _ (t_r1x3.out.below (by with_reducible repeat (first | (refine Below.drew ?_) | (refine bmore ?_ _) | exact (Below.refl _ _) | exact Below.refl _ _))) (t_r1x4.out.below (by with_reducible repeat (first | (refine Below.drew ?_) | (refine bmore ?_ _) | exact (Below.refl _ _) | exact Below.refl _ _))) (by omega) (by omega) (by omega) (by omega) (by omega) (by omega)).mono ?_; rintro e Wq5_ ⟨r1x5_v, rfl, ht_, hb_⟩; obtain ⟨r1x5_n, r1x5_a, r1x5_m, r1x5_c, r1x5_p, rfl, ht2_⟩ := ht_.numform; clear ht_; have hbt_ : Below Wq4_.heap.size Wq4_ Wq5_ := bstep (by with_reducible repeat (first | (refine Below.drew ?_) | (refine bmore ?_ _) | exact (Below.refl _ _) | exact Below.refl _ _)) hb_; have t_r1x5 : Hid (Tell Wq5_ B0 (.agg #[.bool r1x5_n, .slice r1x5_a r1x5_m r1x5_c, .int .i64 r1x5_p, .slice none 0 0]) 35 ((34 + (Q : Int)) + 2 + 1) ((absP Xr Yc Q : Int) * 268435456 * (2 * (Q : Int)) * 2048)) := ht2_.base (Nat.le_trans ZB0.out (Below.size (B := w16_.heap.size) (by with_reducible repeat (first | (refine Below.drew ?_) | (refine bmore ?_ _) | exact HBa.out | exact Below.refl _ _)))); clear ht2_; replace t_r1x0 : Hid (Tell _ _ _ _ _ _) := t_r1x0.out.below hbt_; replace t_r1x1 : Hid (Tell _ _ _ _ _ _) := t_r1x1.out.below hbt_; replace t_r1x2 : Hid (Tell _ _ _ _ _ _) := t_r1x2.out.below hbt_; replace t_r1x3 : Hid (Tell _ _ _ _ _ _) := t_r1x3.out.below hbt_; replace t_r1x4 : Hid (Tell _ _ _ _ _ _) := t_r1x4.out.below hbt_; replace HBa : Hid (Below w16_.heap.size w16_ Wq5_) := bstep HBa.out hbt_; replace ct : Cnt 7 := Cnt.mk _; clear hb_ hbt_ ck) | (have ck : Cnt 7 := ct; go_at_call 28; refine (dCmp _ _ _ B0 35 ((34 + (Q : Int)) + 2 + 1) _ _ ((t_r1x1.out.below (by with_reducible repeat (first | (refine Below.drew ?_) | (refine bmore ?_ _) | exact (Below.refl _ _) | exact Below.refl _ _))).up 35 ((34 + (Q : Int)) + 2 + 1) (by omega) (by omega)) (t_r1x5.out.below (by with_reducible repeat (first | (refine Below.drew ?_) | (refine bmore ?_ _) | exact (Below.refl _ _) | exact Below.refl _ _))) (by omega) (by omega)).mono ?_; rintro e Wq6_ ⟨rfl, hb_⟩; rw [HCC.out]; have hbt_ : Below Wq5_.heap.size Wq5_ Wq6_ := bstep (by with_reducible repeat (first | (refine Below.drew ?_) | (refine bmore ?_ _) | exact (Below.refl _ _) | exact Below.refl _ _)) hb_; replace t_r1x0 : Hid (Tell _ _ _ _ _ _) := t_r1x0.out.below hbt_; replace t_r1x1 : Hid (Tell _ _ _ _ _ _) := t_r1x1.out.below hbt_; replace t_r1x2 : Hid (Tell _ _ _ _ _ _) := t_r1x2.out.below hbt_; replace t_r1x3 : Hid (Tell _ _ _ _ _ _) := t_r1x3.out.below hbt_; replace t_r1x4 : Hid (Tell _ _ _ _ _ _) := t_r1x4.out.below hbt_; replace t_r1x5 : Hid (Tell _ _ _ _ _ _) := t_r1x5.out.below hbt_; replace HBa : Hid (Below w16_.heap.size w16_ Wq6_) := bstep HBa.out hbt_; replace ct : Cnt 8 := Cnt.mk _; clear hb_ hbt_ ck))
              replace BW : Hid (Below _ _ _) := bstep BW.out HBa.out
              replace UX : Hid (URow _ _ _ _ _) := UX.out.below HBa.out
              replace X : Hid (MBox _ _ _ _ _ _) := X.out.below HBa.out
              replace UY : Hid (URow _ _ _ _ _) := UY.out.below HBa.out
              replace Y : Hid (MBox _ _ _ _ _ _) := Y.out.below HBa.out
              replace UG : Hid (URow _ _ _ _ _) := UG.out.below HBa.out
              replace G : Hid (MBox _ _ _ _ _ _) := G.out.below HBa.out
              replace ZB0 : Hid (_ ≤ _) := Nat.le_trans ZB0.out (Below.size HBa.out)
              replace b_s : Hid (BoxF _ _ _ _ _ _) := b_s.out.below HBa.out
              replace t_s : Hid (Tell _ _ _ _ _ _) := t_s.out.below HBa.out
              replace b_l : Hid (BoxF _ _ _ _ _ _) := b_l.out.below HBa.out
              replace t_l : Hid (Tell _ _ _ _ _ _) := t_l.out.below HBa.out
              replace b_g : Hid (BoxF _ _ _ _ _ _) := b_g.out.below HBa.out
              replace t_g : Hid (Tell _ _ _ _ _ _) := t_g.out.below HBa.out
              clear HBa ct t_r1x0 t_r1x1 t_r1x2 t_r1x3 t_r1x4 t_r1x5
              go_wp2
              go_roundw
              case rel => exact ⟨k + 1, by go_num, by omega, BW, UX, X, UY, Y, UG, G⟩
              case measure => simp [intOf]; omega
        · obtain rfl : R = k := by omega
          go_wp2
          go_roundw
          case rel => exact ⟨i + 1, by go_num, by omega, BW, UX, X, UY, Y, UG, G⟩
          case measure => simp [intOf]; omega
    · obtain rfl : P = i := by omega
      go_wp2
      go_ret
      exact ⟨ret_eq rfl, BW.out⟩

/-! ### THE ROW's STEP: WRITTEN OUT: LEAVE IT -/
set_option maxRecDepth 100000 in
theorem lifted (os : Os) (started : os.Started) (H : Type) (enc : TypeId × Value → H) :
    ReturnsInHanded {} Try.checked os 4 .any (Rows.mulNearsSpec.pre6 enc Try.prog Try.f4 Rows.mulNearsRow.domain false) (Rows.mulNearsSpec.post enc Try.prog Try.f4 false true false false) := by
  refine returnsInHanded_of_change (C := Try.checked) own started (by kernel_rfl) Try.func4
    (ChangeSpec.witness6 (enc := enc) (C := Try.checked) false ⟨#[], #[.int .i64 0, .int .i64 0, .int .i64 0, .slice none 0 0], []⟩ 8 (by kernel_rfl) (by kernel_rfl) (by kernel_rfl) (by kernel_rfl)) ?_
  intro W base args ds gs before hval0 hW hcnd _
  have hval : ∀ (j : Nat) t v, Try.f4.params[j]? = some t → args[j]? = some v → Value.okWide Try.prog W .any base t v := hval0
  have hW' := hW
  obtain ⟨p, q, hA0, hV, rfl, hfz, hnd⟩ := hW
  have hA : DataW.TrodAll enc Try.prog W 0 (fun _ => true) true Try.f4.params.toList args.toList ds p := hA0
  rw [Try.params4] at hA hval
  obtain ⟨v0, vs0, d0, ds0, p0, q0, hargs, rfl, rfl, h0, r0⟩ := trodAll_cons hA
  obtain ⟨v1, vs1, d1, ds1, p1, q1, rfl, rfl, rfl, h1, r1⟩ := trodAll_cons r0
  obtain ⟨v2, vs2, d2, ds2, p2, q2, rfl, rfl, rfl, h2, r2⟩ := trodAll_cons r1
  obtain ⟨v3, vs3, d3, ds3, p3, q3, rfl, rfl, rfl, h3, r3⟩ := trodAll_cons r2
  obtain ⟨rfl, rfl, rfl⟩ := trodAll_nil r3
  obtain rfl : args = #[v0, v1, v2, v3] := by cases args; simp_all
  obtain ⟨rfl, rfl⟩ := trodVars_none hV
  obtain ⟨a0, rfl, rfl, rfl, w0⟩ := open_int Try.underlying3 (hval 0 3 v0 rfl rfl) h0
  obtain ⟨a1, rfl, rfl, rfl, w1⟩ := open_int Try.underlying3 (hval 1 3 v1 rfl rfl) h1
  obtain ⟨a2, rfl, rfl, rfl, w2⟩ := open_int Try.underlying3 (hval 2 3 v2 rfl rfl) h2
  obtain ⟨a3, len3, cap3, rfl⟩ := okWide_slice Try.underlying22 (hval 3 22 v3 rfl rfl)
  have k3 := h3
  have lt3 : ∀ x ∈ p3, x.block < W.heap.size := by obtain ⟨m, hm⟩ := k3; exact DataW.trod_lt m _ _ _ hm
  obtain ⟨z3, w3⟩ : ∃ zs, IsRow .u64 W a3 len3 cap3 zs := by
    obtain ⟨fuel, hf⟩ := h3
    rcases open_ints Try.underlying22 Try.underlying23 (by kernel_rfl) hf with ⟨hcs, _⟩ | ⟨x, l, c, zs, hcs, _, hl, hm, hz, _, hcell, hwz⟩
    · simp [Value.cells] at hcs
      obtain ⟨rfl, rfl, rfl⟩ := hcs
      exact ⟨[], .inl ⟨rfl, rfl, rfl, rfl⟩⟩
    · simp [Value.cells] at hcs
      obtain ⟨rfl, rfl, rfl⟩ := hcs
      exact ⟨zs, .inr ⟨_, rfl, hl, hm, by simpa using hz, hcell, hwz⟩⟩
  clear hA0 hval0
  refine (walk a0 a1 a2 a3 len3 cap3 z3 W w0 w1 w2 w3).mono fun e W' ⟨he, bel⟩ => ?_
  subst he
  exact ⟨_, rfl, _, _, _, [], _, [], hW', trodAll_mk1 (shut_bool Try.underlying4 _), (trodAll_cons_mk (shut_int Try.underlying3 w0) (trodAll_cons_mk (shut_int Try.underlying3 w1) (trodAll_cons_mk (shut_int Try.underlying3 w2) (trodAll_cons_mk (Below.trod laidOut (by kernel_rfl) (of_decide_eq_true (by kernel_rfl)) k3 bel lt3) trodAll_mk0)))), rfl, bel.frame _, fun h => by cases h⟩

theorem over : Rows.mulNearsRow.holds Try.pinned (OpenSpec.ofChange Rows.mulNearsSpec) :=
  OpenClaim.holds_of_wide 4 Try.f4 rfl rfl rfl rfl rfl rfl rfl ⟨rfl, rfl, rfl, rfl, rfl⟩ rfl rfl rfl rfl rfl (by kernel_rfl) Try.func4 (by kernel_rfl)
    (of_decide_eq_true (by kernel_rfl)) (by unfold Func.isWrapper; first | (rw [if_pos (by decide +kernel)]; kernel_rfl) | (rw [if_neg (by decide +kernel)]; exact ⟨rfl, rfl⟩))
    (fun os started H enc _ => lifted os started H enc)

/-- ████ THE STATEMENT ████ -/
theorem proved : Rows.MulNearsSaid := over
#print axioms proved
end Go.Proofs.Ytpakpgjbgehhjaa.mulNears
