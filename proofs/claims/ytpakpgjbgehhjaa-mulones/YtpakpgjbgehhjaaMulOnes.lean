/-
  The law MulOnes returns true at every input (any sizes, any slice of patterns), and leaves its arguments as they were. No conditions.
-/
import Derived.Test.YtpakpgjbgehhjaaRows
import Derived.WalkKit
import Derived.ProofKit
import Derived.OpenShut
import Derived.Test.YtpakpgjbgehhjaaGrAJ
import Derived.Test.YtpakpgjbgehhjaaGrL
import Derived.Test.YtpakpgjbgehhjaaGrN
import Derived.Test.YtpakpgjbgehhjaaGrR
import Derived.Test.YtpakpgjbgehhjaaGrU
import Derived.Test.YtpakpgjbgehhjaaGrV
import Derived.ShutString
import Derived.ChangeOld
import Derived.Below
namespace Go.Proofs.Ytpakpgjbgehhjaa.mulOnes
open Go.ChangeShapes Go.WideShapes Go.ChangeAt Go.RowKit
open Go.ChangeMaps (open_string shut_string)
set_option linter.unusedVariables false

theorem own : ownKnob Try.prog.godebug = none := by kernel_rfl
theorem laidOut : laidOutB Try.prog = true := by kernel_rfl

/-- WHAT THE WALK IS TOLD OF A SLICE OF INTEGERS THAT CAME IN: it is nil; or it leads to a row of 'cap' cells, the numbers 'zs' (the first 'len' are its elements, the rest its spare room), each fitting its kind. -/
def IsRow (k : IntKind) (w : World) (a : Option Addr) (len cap : Nat) (zs : List Int) : Prop :=
  (a = none ∧ len = 0 ∧ cap = 0 ∧ zs = []) ∨
  ∃ x, a = some x ∧ len ≤ cap ∧ cap ≤ maxLen ∧ zs.length = cap ∧ (∀ i, i < zs.length → w.cell? (x.add i) = some (.int k (zs.getD i 0))) ∧ ∀ n ∈ zs, (Lit.int k n).wf = true

set_option linter.unusedSimpArgs false
theorem row_of (w : World) (a : Option Addr) (len cap : Nat) (zs : List Int) (h : IsRow .u64 w a len cap zs) : URow w a len cap (fun i => zs.getD i 0) := by
  rcases h with ⟨rfl, rfl, rfl, rfl⟩ | ⟨x, rfl, h1, h2, h3, h4, h5⟩
  · exact ⟨Nat.le_refl _, Nat.zero_le _, fun i => by simp, fun h => absurd h (Nat.lt_irrefl 0)⟩
  · refine ⟨h1, h2, fun i => ?_, fun hp => ?_⟩
    · show 0 ≤ zs.getD i 0 ∧ zs.getD i 0 < 18446744073709551616
      rcases Nat.lt_or_ge i zs.length with g | g
      · have hm : zs.getD i 0 ∈ zs := by
          rw [List.getD_eq_getElem?_getD, List.getElem?_eq_getElem g]
          exact List.getElem_mem g
        obtain ⟨q1, q2⟩ := bounds_u64 (h5 _ hm)
        exact ⟨q1, by omega⟩
      · rw [List.getD_eq_getElem?_getD, List.getElem?_eq_none g]
        simp
    · obtain ⟨b, o, s⟩ := x
      have hs : s = none := by simpa [Addr.add] using World.cell?_spot (h4 0 (by omega))
      subst hs
      have hb : b < w.heap.size := by
        have := World.block_lt_of_cell? _ _ (h4 0 (by omega))
        simpa [Addr.add] using this
      refine ⟨b, o, rfl, hb, fun i hi => ?_⟩
      have := h4 i (by omega)
      rw [add_plain] at this
      exact this
set_option maxRecDepth 100000 in
set_option maxHeartbeats 8000000 in
theorem walk (a0 : Int) (a1 : Int) (a2 : Int) (a3 : Option Addr) (len3 cap3 : Nat) (z3 : List Int) (w : World) (w0 : (Lit.int .i64 a0).wf = true) (w1 : (Lit.int .i64 a1).wf = true) (w2 : (Lit.int .i64 a2).wf = true) (w3 : IsRow .u64 w a3 len3 cap3 z3) :
    Calls Try.prog 5 #[.int .i64 a0, .int .i64 a1, .int .i64 a2, .slice a3 len3 cap3] w fun e w' => e = .returned (.bool true) ∧ Below w.heap.size w w' := by
  have hr := row_of w a3 len3 cap3 z3 w3
  generalize (fun i => z3.getD i 0) = U at hr
  clear w0 w1 w2 w3
  have a0e := and_7_i a0
  have a1e := and_7_i a1
  have a2e := and_7_i a2
  obtain ⟨P, hP⟩ : ∃ R : Nat, (R : Int) = a0 % 8 := ⟨(a0 % 8).toNat, by omega⟩
  obtain ⟨Q, hQ⟩ : ∃ R : Nat, (R : Int) = a1 % 8 := ⟨(a1 % 8).toNat, by omega⟩
  obtain ⟨R, hR⟩ : ∃ R : Nat, (R : Int) = a2 % 8 := ⟨(a2 % 8).toNat, by omega⟩
  rw [← hP] at a0e
  rw [← hQ] at a1e
  rw [← hR] at a2e
  have hP7 : P ≤ 7 := by omega
  have hQ7 : Q ≤ 7 := by omega
  have hR7 : R ≤ 7 := by omega
  clear hP hQ hR
  have hPQ : P * Q ≤ 49 := Nat.mul_le_mul hP7 hQ7
  have hQP : Q * P ≤ 49 := Nat.mul_le_mul hQ7 hP7
  have hPR : P * R ≤ 49 := Nat.mul_le_mul hP7 hR7
  have hRP : R * P ≤ 49 := Nat.mul_le_mul hR7 hP7
  have hQR : Q * R ≤ 49 := Nat.mul_le_mul hQ7 hR7
  have hRQ : R * Q ≤ 49 := Nat.mul_le_mul hR7 hQ7
  have hPP : P * P ≤ 49 := Nat.mul_le_mul hP7 hP7
  have hQQ : Q * Q ≤ 49 := Nat.mul_le_mul hQ7 hQ7
  obtain ⟨lx, cx⟩ := hr.lenB
  have HR : Hid (URow _ _ _ _ _) := hr
  clear hr
  by_cases hl : 100 < len3
  · have hl2 : (100 : Int) < (len3 : Int) := by omega
    go_enter Try.func5, Try.ntmps5
    go_wp2_with fail
    refine (lHead11 _).mono ?_
    rintro e w1 ⟨rfl, hb1⟩
    go_wp2
    go_ret
    exact ⟨ret_eq rfl, hb1⟩
  have hl2 : ¬ (100 : Int) < (len3 : Int) := by omega
  have hdl : decide ((100 : Int) < (len3 : Int)) = false := decide_eq_false hl2
  obtain ⟨zX, hzX⟩ : ∃ z : Nat → Int, z = mC U len3 0 0 := ⟨_, rfl⟩
  obtain ⟨zY, hzY⟩ : ∃ z : Nat → Int, z = mC U len3 3 0 := ⟨_, rfl⟩
  have HzX : Hid (_ = _) := hzX
  have HzY : Hid (_ = _) := hzY
  clear hzX hzY
  have TX : Hid (Rgt (P : Int) (Q : Int) (Q : Int) (P * Q)) := tight P Q (by omega) (by omega)
  have TY : Hid (Rgt (Q : Int) (R : Int) (R : Int) (Q * R)) := tight Q R (by omega) (by omega)
  have TG : Hid (Rgt (P : Int) (R : Int) (R : Int) (P * R)) := tight P R (by omega) (by omega)
  have TP : Hid (Rgt (P : Int) (P : Int) (P : Int) (P * P)) := tight P P (by omega) (by omega)
  have TQ : Hid (Rgt (Q : Int) (Q : Int) (Q : Int) (Q * Q)) := tight Q Q (by omega) (by omega)
  have TXT : Hid (Rgt (Q : Int) (P : Int) (P : Int) (Q * P)) := tight Q P (by omega) (by omega)
  have TYT : Hid (Rgt (R : Int) (Q : Int) (Q : Int) (R * Q)) := tight R Q (by omega) (by omega)
  have TT : Hid (Rgt (R : Int) (P : Int) (P : Int) (R * P)) := tight R P (by omega) (by omega)
  go_enter Try.func5, Try.ntmps5
  go_wp2_with fail
  refine (lHead11 _).mono ?_
  rintro e w1 ⟨rfl, hb1⟩
  have BW : Hid (Below w.heap.size w w1) := hb1
  have UA : Hid (URow w1 a3 len3 cap3 U) := HR.out.below hb1
  clear hb1 HR
  go_wp2_with fail
  refine (lMade11 P Q 0 a3 len3 cap3 U _ UA.out (by omega) (by omega) (by omega) (by omega)).mono ?_
  rintro e w1_ ⟨gX, rfl, _, hU_, hb1_⟩
  rw [← HzX.out] at hU_
  replace BW : Hid (Below _ _ _) := bstep BW.out hb1_
  replace UA : Hid (URow _ _ _ _ _) := UA.out.below hb1_
  clear hb1_
  have UX : Hid (URow w1_ (some ⟨gX, 0, none⟩) (P * Q) (P * Q) zX) := hU_
  clear hU_
  go_wp2_with fail
  have m_ := MBox.made w1_ (P : Int) (Q : Int) (Q : Int) (.slice (some ⟨gX, 0, none⟩) (P * Q) (P * Q))
  have b_ : Below w1_.heap.size w1_ (w1_.alloc (.cells #[.int .i64 (P : Int), .int .i64 (Q : Int), .int .i64 (Q : Int), .slice (some ⟨gX, 0, none⟩) (P * Q) (P * Q)] 26)) := (Below.refl _ _).alloc (Nat.le_refl _) _
  obtain ⟨k_X, hk_X⟩ : ∃ k, k = w1_.heap.size := ⟨_, rfl⟩
  have L_X : Hid (w.heap.size ≤ k_X) := by rw [hk_X]; exact BW.out.size
  rw [← hk_X] at m_ ⊢
  generalize (w1_.alloc (.cells #[.int .i64 (P : Int), .int .i64 (Q : Int), .int .i64 (Q : Int), .slice (some ⟨gX, 0, none⟩) (P * Q) (P * Q)] 26)) = w2_ at m_ b_ ⊢
  replace BW : Hid (Below _ _ _) := bstep BW.out b_
  replace UA : Hid (URow _ _ _ _ _) := UA.out.below b_
  replace UX : Hid (URow _ _ _ _ _) := UX.out.below b_
  have X : Hid (MBox w2_ k_X (P : Int) (Q : Int) (Q : Int) (.slice (some ⟨gX, 0, none⟩) (P * Q) (P * Q))) := m_
  clear m_ b_ hk_X
  refine (lMade11 Q R 3 a3 len3 cap3 U _ UA.out (by omega) (by omega) (by omega) (by omega)).mono ?_
  rintro e w3_ ⟨gY, rfl, _, hU_, hb3_⟩
  rw [← HzY.out] at hU_
  replace BW : Hid (Below _ _ _) := bstep BW.out hb3_
  replace UA : Hid (URow _ _ _ _ _) := UA.out.below hb3_
  replace UX : Hid (URow _ _ _ _ _) := UX.out.below hb3_
  replace X : Hid (MBox _ _ _ _ _ _) := X.out.below hb3_
  clear hb3_
  have UY : Hid (URow w3_ (some ⟨gY, 0, none⟩) (Q * R) (Q * R) zY) := hU_
  clear hU_
  clear UA
  obtain ⟨X_0, X_1, X_2, X_3, X_4⟩ := X.out
  go_wp2_with fail
  have m_ := MBox.made w3_ (Q : Int) (R : Int) (R : Int) (.slice (some ⟨gY, 0, none⟩) (Q * R) (Q * R))
  have b_ : Below w3_.heap.size w3_ (w3_.alloc (.cells #[.int .i64 (Q : Int), .int .i64 (R : Int), .int .i64 (R : Int), .slice (some ⟨gY, 0, none⟩) (Q * R) (Q * R)] 26)) := (Below.refl _ _).alloc (Nat.le_refl _) _
  obtain ⟨k_Y, hk_Y⟩ : ∃ k, k = w3_.heap.size := ⟨_, rfl⟩
  have L_Y : Hid (w.heap.size ≤ k_Y) := by rw [hk_Y]; exact BW.out.size
  rw [← hk_Y] at m_ ⊢
  clear X_0 X_1 X_2 X_3 X_4
  generalize (w3_.alloc (.cells #[.int .i64 (Q : Int), .int .i64 (R : Int), .int .i64 (R : Int), .slice (some ⟨gY, 0, none⟩) (Q * R) (Q * R)] 26)) = w4_ at m_ b_ ⊢
  replace BW : Hid (Below _ _ _) := bstep BW.out b_
  replace UX : Hid (URow _ _ _ _ _) := UX.out.below b_
  replace X : Hid (MBox _ _ _ _ _ _) := X.out.below b_
  replace UY : Hid (URow _ _ _ _ _) := UY.out.below b_
  have Y : Hid (MBox w4_ k_Y (Q : Int) (R : Int) (R : Int) (.slice (some ⟨gY, 0, none⟩) (Q * R) (Q * R))) := m_
  clear m_ b_ hk_Y
  by_cases fX : AllF zX P Q Q
  rotate_left
  · skip
    obtain ⟨X_0, X_1, X_2, X_3, X_4⟩ := X.out
    obtain ⟨Y_0, Y_1, Y_2, Y_3, Y_4⟩ := Y.out
    refine (mFinNo P Q Q _ _ _ zX _ TX.out UX.out fX).mono ?_
    rintro e w5_ ⟨rfl, hb5_⟩
    clear X_0 X_1 X_2 X_3 X_4 Y_0 Y_1 Y_2 Y_3 Y_4
    replace BW : Hid (Below _ _ _) := bstep BW.out hb5_
    replace UX : Hid (URow _ _ _ _ _) := UX.out.below hb5_
    replace X : Hid (MBox _ _ _ _ _ _) := X.out.below hb5_
    replace UY : Hid (URow _ _ _ _ _) := UY.out.below hb5_
    replace Y : Hid (MBox _ _ _ _ _ _) := Y.out.below hb5_
    clear hb5_
    go_wp2
    go_ret
    exact ⟨ret_eq rfl, BW.out⟩
  obtain ⟨X_0, X_1, X_2, X_3, X_4⟩ := X.out
  obtain ⟨Y_0, Y_1, Y_2, Y_3, Y_4⟩ := Y.out
  refine (mFinOk P Q Q _ _ _ zX _ TX.out UX.out fX).mono ?_
  rintro e w5_ ⟨rfl, hb5_⟩
  clear X_0 X_1 X_2 X_3 X_4 Y_0 Y_1 Y_2 Y_3 Y_4
  replace BW : Hid (Below _ _ _) := bstep BW.out hb5_
  replace UX : Hid (URow _ _ _ _ _) := UX.out.below hb5_
  replace X : Hid (MBox _ _ _ _ _ _) := X.out.below hb5_
  replace UY : Hid (URow _ _ _ _ _) := UY.out.below hb5_
  replace Y : Hid (MBox _ _ _ _ _ _) := Y.out.below hb5_
  clear hb5_
  have HFX : Hid (AllF zX P Q Q) := fX
  clear fX
  by_cases fY : AllF zY Q R R
  rotate_left
  · skip
    obtain ⟨X_0, X_1, X_2, X_3, X_4⟩ := X.out
    obtain ⟨Y_0, Y_1, Y_2, Y_3, Y_4⟩ := Y.out
    go_wp2_with fail
    refine (mFinNo Q R R _ _ _ zY _ TY.out UY.out fY).mono ?_
    rintro e w6_ ⟨rfl, hb6_⟩
    clear X_0 X_1 X_2 X_3 X_4 Y_0 Y_1 Y_2 Y_3 Y_4
    replace BW : Hid (Below _ _ _) := bstep BW.out hb6_
    replace UX : Hid (URow _ _ _ _ _) := UX.out.below hb6_
    replace X : Hid (MBox _ _ _ _ _ _) := X.out.below hb6_
    replace UY : Hid (URow _ _ _ _ _) := UY.out.below hb6_
    replace Y : Hid (MBox _ _ _ _ _ _) := Y.out.below hb6_
    clear hb6_
    go_wp2
    go_ret
    exact ⟨ret_eq rfl, BW.out⟩
  obtain ⟨X_0, X_1, X_2, X_3, X_4⟩ := X.out
  obtain ⟨Y_0, Y_1, Y_2, Y_3, Y_4⟩ := Y.out
  go_wp2_with fail
  refine (mFinOk Q R R _ _ _ zY _ TY.out UY.out fY).mono ?_
  rintro e w6_ ⟨rfl, hb6_⟩
  clear X_0 X_1 X_2 X_3 X_4 Y_0 Y_1 Y_2 Y_3 Y_4
  replace BW : Hid (Below _ _ _) := bstep BW.out hb6_
  replace UX : Hid (URow _ _ _ _ _) := UX.out.below hb6_
  replace X : Hid (MBox _ _ _ _ _ _) := X.out.below hb6_
  replace UY : Hid (URow _ _ _ _ _) := UY.out.below hb6_
  replace Y : Hid (MBox _ _ _ _ _ _) := Y.out.below hb6_
  clear hb6_
  clear fY
  have XR : Hid (∀ i, 0 ≤ zX i ∧ zX i < 18446744073709551616) := UX.out.2.2.1
  have ct : Cnt 1 := Cnt.mk _
  obtain ⟨X_0, X_1, X_2, X_3, X_4⟩ := X.out
  go_wp2_with fail
  clear X_0 X_1 X_2 X_3 X_4
  go_cut [11, 12] (fun t h wx => ∃ (k_L gL : Nat) (zL : Nat → Int), t = .pointer (some ⟨k_L, 0, none⟩) ∧ h = .int .i64 0 ∧ Hid (∀ i k, i < P → k < Q → Like (zX (i * Q + k)) (zL (i * Q + k))) ∧ Hid (MBox wx k_L (P : Int) (Q : Int) (Q : Int) (.slice (some ⟨gL, 0, none⟩) (P * Q) (P * Q))) ∧ Hid (URow wx (some ⟨gL, 0, none⟩) (P * Q) (P * Q) zL) ∧ Hid (Below w.heap.size w wx) ∧ Hid (URow wx (some ⟨gX, 0, none⟩) (P * Q) (P * Q) zX) ∧ Hid (MBox wx k_X (P : Int) (Q : Int) (Q : Int) (.slice (some ⟨gX, 0, none⟩) (P * Q) (P * Q))) ∧ Hid (URow wx (some ⟨gY, 0, none⟩) (Q * R) (Q * R) zY) ∧ Hid (MBox wx k_Y (Q : Int) (R : Int) (R : Int) (.slice (some ⟨gY, 0, none⟩) (Q * R) (Q * R))))
  case first =>
    have HBa : Hid (Below w6_.heap.size w6_ w6_) := Below.refl _ _
    have dh : ∀ w : World, w.drew.heap = w.heap := fun _ => rfl
    obtain ⟨X_0, X_1, X_2, X_3, X_4⟩ := X.out
    obtain ⟨Y_0, Y_1, Y_2, Y_3, Y_4⟩ := Y.out
    go_region_held3 (fun w' => (w'.cell? ⟨k_X, 0, none⟩ = some (.int .i64 (P : Int)) ∧ w'.cell? ⟨k_X, 1, none⟩ = some (.int .i64 (Q : Int)) ∧ w'.cell? ⟨k_X, 2, none⟩ = some (.int .i64 (Q : Int)) ∧ w'.cell? ⟨k_X, 3, none⟩ = some (.slice (some ⟨gX, 0, none⟩) (P * Q) (P * Q)))) (exact (X.out.below (by with_reducible repeat (first | (refine Below.drew ?_) | (refine bmore ?_ _) | (refine Below.setCell ?_ (by first | omega | (simp <;> omega)) _) | exact HBa.out | exact Below.refl _ _))).cells) (first | (have ck : Cnt 1 := ct; go_at_call 31; refine (mOneZ P _ (by omega)).mono ?_; rintro e Wn0_ ⟨gI, zI, rfl, hgi_, hUi_, hIi_, hb_⟩; obtain ⟨pc0, pf0⟩ := bcell hb_; have hr0 : ∀ b, b < _ → b < Wn0_.heap.size := (fun b h => Nat.lt_of_lt_of_le h hb_.size); have hq0 := hb_.size; (try simp [dh] at hq0); have hbt_ : Below w6_.heap.size w6_ Wn0_ := bstep (by with_reducible repeat (first | (refine Below.drew ?_) | (refine bmore ?_ _) | (refine Below.setCell ?_ (by first | omega | (simp <;> omega)) _) | exact (Below.refl _ _) | exact Below.refl _ _)) hb_; replace HBa : Hid (Below w6_.heap.size w6_ Wn0_) := bstep HBa.out hbt_; have hsz0 := HBa.out.size; have UI : Hid (URow Wn0_ (some ⟨gI, 0, none⟩) (P * P) (P * P) zI) := hUi_; have II : Hid (dgn zI (fun _ => 4607182418800017408) P) := hIi_; (try simp [dh] at hgi_); clear hUi_ hIi_; replace ct : Cnt 2 := Cnt.mk _; clear ck; (try (have hT00 : w6_.heap.size < Wn0_.heap.size := by omega)); clear hb_ hbt_) | (have ck : Cnt 2 := ct; go_at_call 14; refine (mGemm0 P P P _ _ _ zI Q Q _ _ _ zX _ TP.out TX.out (UI.out.below (by with_reducible repeat (first | (refine Below.drew ?_) | (refine bmore ?_ _) | (refine Below.setCell ?_ (by first | omega | (simp <;> omega)) _) | exact (Below.refl _ _) | exact Below.refl _ _))) (UX.out.below (by with_reducible repeat (first | (refine Below.drew ?_) | (refine bmore ?_ _) | (refine Below.setCell ?_ (by first | omega | (simp <;> omega)) _) | exact HBa.out | exact Below.refl _ _))) (by omega) (by omega) (by omega)).mono ?_; rintro e Wn1_ ⟨gL, zL, rfl, hgz_, hUz_, hEz_, hb_⟩; obtain ⟨pc1, pf1⟩ := bcell hb_; have hr1 : ∀ b, b < _ → b < Wn1_.heap.size := (fun b h => Nat.lt_of_lt_of_le h hb_.size); have hq1 := hb_.size; (try simp [dh] at hq1); have hbt_ : Below Wn0_.heap.size Wn0_ Wn1_ := bstep (by with_reducible repeat (first | (refine Below.drew ?_) | (refine bmore ?_ _) | (refine Below.setCell ?_ (by first | omega | (simp <;> omega)) _) | exact (Below.refl _ _) | exact Below.refl _ _)) hb_; replace UI : Hid (URow _ _ _ _ _) := UI.out.below hbt_; replace HBa : Hid (Below w6_.heap.size w6_ Wn1_) := bstep HBa.out hbt_; have hsz1 := HBa.out.size; have UL : Hid (URow Wn1_ (some ⟨gL, 0, none⟩) (P * Q) (P * Q) zL) := hUz_; have EL : Hid (∀ i k, i < P → k < Q → Like (zX (i * Q + k)) (zL (i * Q + k))) := fun i k hi hk => one_left zI zX zL P Q II.out XR.out HFX.out hEz_ i k hi hk; (try simp [dh] at hgz_); clear hUz_ hEz_; replace ct : Cnt 3 := Cnt.mk _; clear ck; (try (have hT10 : w6_.heap.size < Wn1_.heap.size := by omega)); (try (have hT11 : Wn0_.heap.size < Wn1_.heap.size := by omega)); clear hb_ hbt_))
    all_goals
      go_wp2
      go_meet
      refine ⟨_, gL, zL, rfl, rfl, EL, (by show MBox _ _ _ _ _ _; first | (with_reducible exact MBox.new) | (with_reducible refine MBox.four ?_ ?_ ?_ ?_ ?_) <;> (first | (simp [go_sem, pc0, pc1, hr0, hr1]; done) | (simp [go_sem, pc0, pc1, hr0, hr1, hT00, hT10]; done) | (simp [go_sem, pc0, pc1, hr0, hr1, hT11]; done) | (simp [dh]; omega) | omega)), (by show URow _ _ _ _ _; with_reducible repeat (first | exact UL.out | (refine URow.drew ?_) | (refine URow.alloc ?_ _) | (refine URow.put ?_ (by first | omega | (simp [dh] <;> omega)) _))), bstep BW.out (by with_reducible repeat (first | (refine Below.drew ?_) | (refine bmore ?_ _) | (refine Below.setCell ?_ (by first | omega | (simp <;> omega)) _) | exact HBa.out | exact Below.refl _ _)), UX.out.below (by with_reducible repeat (first | (refine Below.drew ?_) | (refine bmore ?_ _) | (refine Below.setCell ?_ (by first | omega | (simp <;> omega)) _) | exact HBa.out | exact Below.refl _ _)), X.out.below (by with_reducible repeat (first | (refine Below.drew ?_) | (refine bmore ?_ _) | (refine Below.setCell ?_ (by first | omega | (simp <;> omega)) _) | exact HBa.out | exact Below.refl _ _)), UY.out.below (by with_reducible repeat (first | (refine Below.drew ?_) | (refine bmore ?_ _) | (refine Below.setCell ?_ (by first | omega | (simp <;> omega)) _) | exact HBa.out | exact Below.refl _ _)), Y.out.below (by with_reducible repeat (first | (refine Below.drew ?_) | (refine bmore ?_ _) | (refine Below.setCell ?_ (by first | omega | (simp <;> omega)) _) | exact HBa.out | exact Below.refl _ _))⟩
  case rest =>
    clear BW UX X UY Y
    obtain ⟨k_L, gL, zL, rfl, rfl, EL, L, UL, BW, UX, X, UY, Y⟩ := hcut
    clear ct
    have ct : Cnt 1 := Cnt.mk _
    obtain ⟨X_0, X_1, X_2, X_3, X_4⟩ := X.out
    go_wp2_with fail
    clear X_0 X_1 X_2 X_3 X_4
    go_cut [13, 14] (fun t h wx => ∃ (k_S gS : Nat) (zS : Nat → Int), t = .pointer (some ⟨k_S, 0, none⟩) ∧ h = .int .i64 0 ∧ Hid (∀ i k, i < P → k < Q → Like (zX (i * Q + k)) (zS (i * Q + k))) ∧ Hid (MBox wx k_S (P : Int) (Q : Int) (Q : Int) (.slice (some ⟨gS, 0, none⟩) (P * Q) (P * Q))) ∧ Hid (URow wx (some ⟨gS, 0, none⟩) (P * Q) (P * Q) zS) ∧ Hid (Below w.heap.size w wx) ∧ Hid (URow wx (some ⟨gX, 0, none⟩) (P * Q) (P * Q) zX) ∧ Hid (MBox wx k_X (P : Int) (Q : Int) (Q : Int) (.slice (some ⟨gX, 0, none⟩) (P * Q) (P * Q))) ∧ Hid (URow wx (some ⟨gY, 0, none⟩) (Q * R) (Q * R) zY) ∧ Hid (MBox wx k_Y (Q : Int) (R : Int) (R : Int) (.slice (some ⟨gY, 0, none⟩) (Q * R) (Q * R))) ∧ Hid (MBox wx k_L (P : Int) (Q : Int) (Q : Int) (.slice (some ⟨gL, 0, none⟩) (P * Q) (P * Q))) ∧ Hid (URow wx (some ⟨gL, 0, none⟩) (P * Q) (P * Q) zL))
    case first =>
      have HBa : Hid (Below wc.heap.size wc wc) := Below.refl _ _
      have dh : ∀ w : World, w.drew.heap = w.heap := fun _ => rfl
      obtain ⟨X_0, X_1, X_2, X_3, X_4⟩ := X.out
      obtain ⟨Y_0, Y_1, Y_2, Y_3, Y_4⟩ := Y.out
      obtain ⟨L_0, L_1, L_2, L_3, L_4⟩ := L.out
      go_region_held3 (fun w' => (w'.cell? ⟨k_X, 0, none⟩ = some (.int .i64 (P : Int)) ∧ w'.cell? ⟨k_X, 1, none⟩ = some (.int .i64 (Q : Int)) ∧ w'.cell? ⟨k_X, 2, none⟩ = some (.int .i64 (Q : Int)) ∧ w'.cell? ⟨k_X, 3, none⟩ = some (.slice (some ⟨gX, 0, none⟩) (P * Q) (P * Q)))) (exact (X.out.below (by with_reducible repeat (first | (refine Below.drew ?_) | (refine bmore ?_ _) | (refine Below.setCell ?_ (by first | omega | (simp <;> omega)) _) | exact HBa.out | exact Below.refl _ _))).cells) (first | (have ck : Cnt 1 := ct; go_at_call 31; refine (mOneZ Q _ (by omega)).mono ?_; rintro e Wn0_ ⟨gI, zI, rfl, hgi_, hUi_, hIi_, hb_⟩; obtain ⟨pc0, pf0⟩ := bcell hb_; have hr0 : ∀ b, b < _ → b < Wn0_.heap.size := (fun b h => Nat.lt_of_lt_of_le h hb_.size); have hq0 := hb_.size; (try simp [dh] at hq0); have hbt_ : Below wc.heap.size wc Wn0_ := bstep (by with_reducible repeat (first | (refine Below.drew ?_) | (refine bmore ?_ _) | (refine Below.setCell ?_ (by first | omega | (simp <;> omega)) _) | exact (Below.refl _ _) | exact Below.refl _ _)) hb_; replace HBa : Hid (Below wc.heap.size wc Wn0_) := bstep HBa.out hbt_; have hsz0 := HBa.out.size; have UI : Hid (URow Wn0_ (some ⟨gI, 0, none⟩) (Q * Q) (Q * Q) zI) := hUi_; have II : Hid (dgn zI (fun _ => 4607182418800017408) Q) := hIi_; (try simp [dh] at hgi_); clear hUi_ hIi_; replace ct : Cnt 2 := Cnt.mk _; clear ck; (try (have hT00 : wc.heap.size < Wn0_.heap.size := by omega)); clear hb_ hbt_) | (have ck : Cnt 2 := ct; go_at_call 14; refine (mGemm0 P Q Q _ _ _ zX Q Q _ _ _ zI _ TX.out TQ.out (UX.out.below (by with_reducible repeat (first | (refine Below.drew ?_) | (refine bmore ?_ _) | (refine Below.setCell ?_ (by first | omega | (simp <;> omega)) _) | exact HBa.out | exact Below.refl _ _))) (UI.out.below (by with_reducible repeat (first | (refine Below.drew ?_) | (refine bmore ?_ _) | (refine Below.setCell ?_ (by first | omega | (simp <;> omega)) _) | exact (Below.refl _ _) | exact Below.refl _ _))) (by omega) (by omega) (by omega)).mono ?_; rintro e Wn1_ ⟨gS, zS, rfl, hgz_, hUz_, hEz_, hb_⟩; obtain ⟨pc1, pf1⟩ := bcell hb_; have hr1 : ∀ b, b < _ → b < Wn1_.heap.size := (fun b h => Nat.lt_of_lt_of_le h hb_.size); have hq1 := hb_.size; (try simp [dh] at hq1); have hbt_ : Below Wn0_.heap.size Wn0_ Wn1_ := bstep (by with_reducible repeat (first | (refine Below.drew ?_) | (refine bmore ?_ _) | (refine Below.setCell ?_ (by first | omega | (simp <;> omega)) _) | exact (Below.refl _ _) | exact Below.refl _ _)) hb_; replace UI : Hid (URow _ _ _ _ _) := UI.out.below hbt_; replace HBa : Hid (Below wc.heap.size wc Wn1_) := bstep HBa.out hbt_; have hsz1 := HBa.out.size; have US : Hid (URow Wn1_ (some ⟨gS, 0, none⟩) (P * Q) (P * Q) zS) := hUz_; have ES : Hid (∀ i k, i < P → k < Q → Like (zX (i * Q + k)) (zS (i * Q + k))) := fun i k hi hk => one_right zI zX zS P Q II.out XR.out HFX.out hEz_ i k hi hk; (try simp [dh] at hgz_); clear hUz_ hEz_; replace ct : Cnt 3 := Cnt.mk _; clear ck; (try (have hT10 : wc.heap.size < Wn1_.heap.size := by omega)); (try (have hT11 : Wn0_.heap.size < Wn1_.heap.size := by omega)); clear hb_ hbt_))
      all_goals
        go_wp2
        go_meet
        refine ⟨_, gS, zS, rfl, rfl, ES, (by show MBox _ _ _ _ _ _; first | (with_reducible exact MBox.new) | (with_reducible refine MBox.four ?_ ?_ ?_ ?_ ?_) <;> (first | (simp [go_sem, pc0, pc1, hr0, hr1]; done) | (simp [go_sem, pc0, pc1, hr0, hr1, hT00, hT10]; done) | (simp [go_sem, pc0, pc1, hr0, hr1, hT11]; done) | (simp [dh]; omega) | omega)), (by show URow _ _ _ _ _; with_reducible repeat (first | exact US.out | (refine URow.drew ?_) | (refine URow.alloc ?_ _) | (refine URow.put ?_ (by first | omega | (simp [dh] <;> omega)) _))), bstep BW.out (by with_reducible repeat (first | (refine Below.drew ?_) | (refine bmore ?_ _) | (refine Below.setCell ?_ (by first | omega | (simp <;> omega)) _) | exact HBa.out | exact Below.refl _ _)), UX.out.below (by with_reducible repeat (first | (refine Below.drew ?_) | (refine bmore ?_ _) | (refine Below.setCell ?_ (by first | omega | (simp <;> omega)) _) | exact HBa.out | exact Below.refl _ _)), X.out.below (by with_reducible repeat (first | (refine Below.drew ?_) | (refine bmore ?_ _) | (refine Below.setCell ?_ (by first | omega | (simp <;> omega)) _) | exact HBa.out | exact Below.refl _ _)), UY.out.below (by with_reducible repeat (first | (refine Below.drew ?_) | (refine bmore ?_ _) | (refine Below.setCell ?_ (by first | omega | (simp <;> omega)) _) | exact HBa.out | exact Below.refl _ _)), Y.out.below (by with_reducible repeat (first | (refine Below.drew ?_) | (refine bmore ?_ _) | (refine Below.setCell ?_ (by first | omega | (simp <;> omega)) _) | exact HBa.out | exact Below.refl _ _)), L.out.below (by with_reducible repeat (first | (refine Below.drew ?_) | (refine bmore ?_ _) | (refine Below.setCell ?_ (by first | omega | (simp <;> omega)) _) | exact HBa.out | exact Below.refl _ _)), UL.out.below (by with_reducible repeat (first | (refine Below.drew ?_) | (refine bmore ?_ _) | (refine Below.setCell ?_ (by first | omega | (simp <;> omega)) _) | exact HBa.out | exact Below.refl _ _))⟩
    case rest =>
      clear BW UX X UY Y L UL
      obtain ⟨k_S, gS, zS, rfl, rfl, ES, S, US, BW, UX, X, UY, Y, L, UL⟩ := hcut
      clear ct
      obtain ⟨X_0, X_1, X_2, X_3, X_4⟩ := X.out
      obtain ⟨Y_0, Y_1, Y_2, Y_3, Y_4⟩ := Y.out
      go_wp2_with fail
      refine (mGemm0 P Q Q _ _ _ zX R R _ _ _ zY _ TX.out TY.out UX.out UY.out (by omega) (by omega) (by omega)).mono ?_
      rintro e w7_ ⟨gG, zG, rfl, _, hU_, hE_, hb7_⟩
      have EG : Hid (∀ i k, i < P → k < R → zG (i * R + k) = dotV (fun j => zX (i * Q + j)) (fun j => zY (j * R + k)) Q) := hE_
      clear hE_
      clear X_0 X_1 X_2 X_3 X_4 Y_0 Y_1 Y_2 Y_3 Y_4
      replace BW : Hid (Below _ _ _) := bstep BW.out hb7_
      replace UX : Hid (URow _ _ _ _ _) := UX.out.below hb7_
      replace X : Hid (MBox _ _ _ _ _ _) := X.out.below hb7_
      replace UY : Hid (URow _ _ _ _ _) := UY.out.below hb7_
      replace Y : Hid (MBox _ _ _ _ _ _) := Y.out.below hb7_
      replace L : Hid (MBox _ _ _ _ _ _) := L.out.below hb7_
      replace UL : Hid (URow _ _ _ _ _) := UL.out.below hb7_
      replace S : Hid (MBox _ _ _ _ _ _) := S.out.below hb7_
      replace US : Hid (URow _ _ _ _ _) := US.out.below hb7_
      clear hb7_
      have UG : Hid (URow w7_ (some ⟨gG, 0, none⟩) (P * R) (P * R) zG) := hU_
      clear hU_
      go_upto_region 12 with fail
      have m_ := MBox.made w7_ (P : Int) (R : Int) (R : Int) (.slice (some ⟨gG, 0, none⟩) (P * R) (P * R))
      have b_ : Below w7_.heap.size w7_ (w7_.alloc (.cells #[.int .i64 (P : Int), .int .i64 (R : Int), .int .i64 (R : Int), .slice (some ⟨gG, 0, none⟩) (P * R) (P * R)] 26)) := (Below.refl _ _).alloc (Nat.le_refl _) _
      obtain ⟨k_G, hk_G⟩ : ∃ k, k = w7_.heap.size := ⟨_, rfl⟩
      have L_G : Hid (w.heap.size ≤ k_G) := by rw [hk_G]; exact BW.out.size
      rw [← hk_G] at m_ ⊢
      generalize (w7_.alloc (.cells #[.int .i64 (P : Int), .int .i64 (R : Int), .int .i64 (R : Int), .slice (some ⟨gG, 0, none⟩) (P * R) (P * R)] 26)) = w8_ at m_ b_ ⊢
      replace BW : Hid (Below _ _ _) := bstep BW.out b_
      replace UX : Hid (URow _ _ _ _ _) := UX.out.below b_
      replace X : Hid (MBox _ _ _ _ _ _) := X.out.below b_
      replace UY : Hid (URow _ _ _ _ _) := UY.out.below b_
      replace Y : Hid (MBox _ _ _ _ _ _) := Y.out.below b_
      replace L : Hid (MBox _ _ _ _ _ _) := L.out.below b_
      replace UL : Hid (URow _ _ _ _ _) := UL.out.below b_
      replace S : Hid (MBox _ _ _ _ _ _) := S.out.below b_
      replace US : Hid (URow _ _ _ _ _) := US.out.below b_
      replace UG : Hid (URow _ _ _ _ _) := UG.out.below b_
      have G : Hid (MBox w8_ k_G (P : Int) (R : Int) (R : Int) (.slice (some ⟨gG, 0, none⟩) (P * R) (P * R))) := m_
      clear m_ b_ hk_G
      have ct : Cnt 1 := Cnt.mk _
      obtain ⟨Y_0, Y_1, Y_2, Y_3, Y_4⟩ := Y.out
      obtain ⟨X_0, X_1, X_2, X_3, X_4⟩ := X.out
      go_wp2_with fail
      clear Y_0 Y_1 Y_2 Y_3 Y_4 X_0 X_1 X_2 X_3 X_4
      go_cut [17, 18] (fun t h wx => ∃ (k_T gT : Nat) (zT : Nat → Int), t = .pointer (some ⟨k_T, 0, none⟩) ∧ h = .int .i64 0 ∧ Hid (∀ i k, i < R → k < P → zT (i * P + k) = dotV (fun j => zY (j * R + i)) (fun j => zX (k * Q + j)) Q) ∧ Hid (MBox wx k_T (R : Int) (P : Int) (P : Int) (.slice (some ⟨gT, 0, none⟩) (R * P) (R * P))) ∧ Hid (URow wx (some ⟨gT, 0, none⟩) (R * P) (R * P) zT) ∧ Hid (Below w.heap.size w wx) ∧ Hid (URow wx (some ⟨gX, 0, none⟩) (P * Q) (P * Q) zX) ∧ Hid (MBox wx k_X (P : Int) (Q : Int) (Q : Int) (.slice (some ⟨gX, 0, none⟩) (P * Q) (P * Q))) ∧ Hid (URow wx (some ⟨gY, 0, none⟩) (Q * R) (Q * R) zY) ∧ Hid (MBox wx k_Y (Q : Int) (R : Int) (R : Int) (.slice (some ⟨gY, 0, none⟩) (Q * R) (Q * R))) ∧ Hid (MBox wx k_L (P : Int) (Q : Int) (Q : Int) (.slice (some ⟨gL, 0, none⟩) (P * Q) (P * Q))) ∧ Hid (URow wx (some ⟨gL, 0, none⟩) (P * Q) (P * Q) zL) ∧ Hid (MBox wx k_S (P : Int) (Q : Int) (Q : Int) (.slice (some ⟨gS, 0, none⟩) (P * Q) (P * Q))) ∧ Hid (URow wx (some ⟨gS, 0, none⟩) (P * Q) (P * Q) zS) ∧ Hid (URow wx (some ⟨gG, 0, none⟩) (P * R) (P * R) zG) ∧ Hid (MBox wx k_G (P : Int) (R : Int) (R : Int) (.slice (some ⟨gG, 0, none⟩) (P * R) (P * R))))
      case first =>
        have HBa : Hid (Below w8_.heap.size w8_ w8_) := Below.refl _ _
        have dh : ∀ w : World, w.drew.heap = w.heap := fun _ => rfl
        obtain ⟨X_0, X_1, X_2, X_3, X_4⟩ := X.out
        obtain ⟨Y_0, Y_1, Y_2, Y_3, Y_4⟩ := Y.out
        obtain ⟨L_0, L_1, L_2, L_3, L_4⟩ := L.out
        obtain ⟨S_0, S_1, S_2, S_3, S_4⟩ := S.out
        obtain ⟨G_0, G_1, G_2, G_3, G_4⟩ := G.out
        go_region_held3 (fun w' => (w'.cell? ⟨k_Y, 0, none⟩ = some (.int .i64 (Q : Int)) ∧ w'.cell? ⟨k_Y, 1, none⟩ = some (.int .i64 (R : Int)) ∧ w'.cell? ⟨k_Y, 2, none⟩ = some (.int .i64 (R : Int)) ∧ w'.cell? ⟨k_Y, 3, none⟩ = some (.slice (some ⟨gY, 0, none⟩) (Q * R) (Q * R))) ∧ (w'.cell? ⟨k_X, 0, none⟩ = some (.int .i64 (P : Int)) ∧ w'.cell? ⟨k_X, 1, none⟩ = some (.int .i64 (Q : Int)) ∧ w'.cell? ⟨k_X, 2, none⟩ = some (.int .i64 (Q : Int)) ∧ w'.cell? ⟨k_X, 3, none⟩ = some (.slice (some ⟨gX, 0, none⟩) (P * Q) (P * Q)))) (exact ⟨(Y.out.below (by with_reducible repeat (first | (refine Below.drew ?_) | (refine bmore ?_ _) | (refine Below.setCell ?_ (by first | omega | (simp <;> omega)) _) | exact HBa.out | exact Below.refl _ _))).cells, (X.out.below (by with_reducible repeat (first | (refine Below.drew ?_) | (refine bmore ?_ _) | (refine Below.setCell ?_ (by first | omega | (simp <;> omega)) _) | exact HBa.out | exact Below.refl _ _))).cells⟩) (first | (have ck : Cnt 1 := ct; go_at_call 17; refine (mTurnZ Q R R _ _ _ zY _ TY.out (UY.out.below (by with_reducible repeat (first | (refine Below.drew ?_) | (refine bmore ?_ _) | (refine Below.setCell ?_ (by first | omega | (simp <;> omega)) _) | exact HBa.out | exact Below.refl _ _))) (by omega)).mono ?_; rintro e Wn0_ ⟨gA, zA, rfl, hga_, hUa_, hEa_, hb_⟩; obtain ⟨pc0, pf0⟩ := bcell hb_; have hr0 : ∀ b, b < _ → b < Wn0_.heap.size := (fun b h => Nat.lt_of_lt_of_le h hb_.size); have hq0 := hb_.size; (try simp [dh] at hq0); have hbt_ : Below w8_.heap.size w8_ Wn0_ := bstep (by with_reducible repeat (first | (refine Below.drew ?_) | (refine bmore ?_ _) | (refine Below.setCell ?_ (by first | omega | (simp <;> omega)) _) | exact (Below.refl _ _) | exact Below.refl _ _)) hb_; replace HBa : Hid (Below w8_.heap.size w8_ Wn0_) := bstep HBa.out hbt_; have hsz0 := HBa.out.size; have UYt : Hid (URow Wn0_ (some ⟨gA, 0, none⟩) (R * Q) (R * Q) zA) := hUa_; have EA : Hid (∀ p q, p < R → q < Q → zA (p * Q + q) = zY (q * R + p)) := hEa_; (try simp [dh] at hga_); clear hUa_ hEa_; replace ct : Cnt 2 := Cnt.mk _; clear ck; (try (have hT00 : w8_.heap.size < Wn0_.heap.size := by omega)); clear hb_ hbt_) | (have ck : Cnt 2 := ct; go_at_call 17; refine (mTurnZ P Q Q _ _ _ zX _ TX.out (UX.out.below (by with_reducible repeat (first | (refine Below.drew ?_) | (refine bmore ?_ _) | (refine Below.setCell ?_ (by first | omega | (simp <;> omega)) _) | exact HBa.out | exact Below.refl _ _))) (by omega)).mono ?_; rintro e Wn1_ ⟨gB, zB, rfl, hgb_, hUb_, hEb_, hb_⟩; obtain ⟨pc1, pf1⟩ := bcell hb_; have hr1 : ∀ b, b < _ → b < Wn1_.heap.size := (fun b h => Nat.lt_of_lt_of_le h hb_.size); have hq1 := hb_.size; (try simp [dh] at hq1); have hbt_ : Below Wn0_.heap.size Wn0_ Wn1_ := bstep (by with_reducible repeat (first | (refine Below.drew ?_) | (refine bmore ?_ _) | (refine Below.setCell ?_ (by first | omega | (simp <;> omega)) _) | exact (Below.refl _ _) | exact Below.refl _ _)) hb_; replace UYt : Hid (URow _ _ _ _ _) := UYt.out.below hbt_; replace HBa : Hid (Below w8_.heap.size w8_ Wn1_) := bstep HBa.out hbt_; have hsz1 := HBa.out.size; have UXt : Hid (URow Wn1_ (some ⟨gB, 0, none⟩) (Q * P) (Q * P) zB) := hUb_; have EB : Hid (∀ p q, p < Q → q < P → zB (p * P + q) = zX (q * Q + p)) := hEb_; (try simp [dh] at hgb_); clear hUb_ hEb_; replace ct : Cnt 3 := Cnt.mk _; clear ck; (try (have hT10 : w8_.heap.size < Wn1_.heap.size := by omega)); (try (have hT11 : Wn0_.heap.size < Wn1_.heap.size := by omega)); clear hb_ hbt_) | (have ck : Cnt 3 := ct; go_at_call 14; refine (mGemm0 R Q Q _ _ _ zA P P _ _ _ zB _ TYT.out TXT.out (UYt.out.below (by with_reducible repeat (first | (refine Below.drew ?_) | (refine bmore ?_ _) | (refine Below.setCell ?_ (by first | omega | (simp <;> omega)) _) | exact (Below.refl _ _) | exact Below.refl _ _))) (UXt.out.below (by with_reducible repeat (first | (refine Below.drew ?_) | (refine bmore ?_ _) | (refine Below.setCell ?_ (by first | omega | (simp <;> omega)) _) | exact (Below.refl _ _) | exact Below.refl _ _))) (by omega) (by omega) (by omega)).mono ?_; rintro e Wn2_ ⟨gT, zT, rfl, hgz_, hUz_, hEz_, hb_⟩; obtain ⟨pc2, pf2⟩ := bcell hb_; have hr2 : ∀ b, b < _ → b < Wn2_.heap.size := (fun b h => Nat.lt_of_lt_of_le h hb_.size); have hq2 := hb_.size; (try simp [dh] at hq2); have hbt_ : Below Wn1_.heap.size Wn1_ Wn2_ := bstep (by with_reducible repeat (first | (refine Below.drew ?_) | (refine bmore ?_ _) | (refine Below.setCell ?_ (by first | omega | (simp <;> omega)) _) | exact (Below.refl _ _) | exact Below.refl _ _)) hb_; replace UYt : Hid (URow _ _ _ _ _) := UYt.out.below hbt_; replace UXt : Hid (URow _ _ _ _ _) := UXt.out.below hbt_; replace HBa : Hid (Below w8_.heap.size w8_ Wn2_) := bstep HBa.out hbt_; have hsz2 := HBa.out.size; have UT : Hid (URow Wn2_ (some ⟨gT, 0, none⟩) (R * P) (R * P) zT) := hUz_; have ET : Hid (∀ i k, i < R → k < P → zT (i * P + k) = dotV (fun j => zY (j * R + i)) (fun j => zX (k * Q + j)) Q) := fun i k hi hk => (hEz_ i k hi hk).trans (dotV_same _ _ _ _ Q (fun j hj => EA.out i j hi hj) (fun j hj => EB.out j k hj hk)); (try simp [dh] at hgz_); clear hUz_ hEz_; replace ct : Cnt 4 := Cnt.mk _; clear ck; (try (have hT20 : w8_.heap.size < Wn2_.heap.size := by omega)); (try (have hT21 : Wn0_.heap.size < Wn2_.heap.size := by omega)); (try (have hT22 : Wn1_.heap.size < Wn2_.heap.size := by omega)); clear hb_ hbt_))
        all_goals
          go_wp2
          go_meet
          refine ⟨_, gT, zT, rfl, rfl, ET, (by show MBox _ _ _ _ _ _; first | (with_reducible exact MBox.new) | (with_reducible refine MBox.four ?_ ?_ ?_ ?_ ?_) <;> (first | (simp [go_sem, pc0, pc1, pc2, hr0, hr1, hr2]; done) | (simp [go_sem, pc0, pc1, pc2, hr0, hr1, hr2, hT00, hT10, hT20]; done) | (simp [go_sem, pc0, pc1, pc2, hr0, hr1, hr2, hT11, hT21]; done) | (simp [go_sem, pc0, pc1, pc2, hr0, hr1, hr2, hT22]; done) | (simp [dh]; omega) | omega)), (by show URow _ _ _ _ _; with_reducible repeat (first | exact UT.out | (refine URow.drew ?_) | (refine URow.alloc ?_ _) | (refine URow.put ?_ (by first | omega | (simp [dh] <;> omega)) _))), bstep BW.out (by with_reducible repeat (first | (refine Below.drew ?_) | (refine bmore ?_ _) | (refine Below.setCell ?_ (by first | omega | (simp <;> omega)) _) | exact HBa.out | exact Below.refl _ _)), UX.out.below (by with_reducible repeat (first | (refine Below.drew ?_) | (refine bmore ?_ _) | (refine Below.setCell ?_ (by first | omega | (simp <;> omega)) _) | exact HBa.out | exact Below.refl _ _)), X.out.below (by with_reducible repeat (first | (refine Below.drew ?_) | (refine bmore ?_ _) | (refine Below.setCell ?_ (by first | omega | (simp <;> omega)) _) | exact HBa.out | exact Below.refl _ _)), UY.out.below (by with_reducible repeat (first | (refine Below.drew ?_) | (refine bmore ?_ _) | (refine Below.setCell ?_ (by first | omega | (simp <;> omega)) _) | exact HBa.out | exact Below.refl _ _)), Y.out.below (by with_reducible repeat (first | (refine Below.drew ?_) | (refine bmore ?_ _) | (refine Below.setCell ?_ (by first | omega | (simp <;> omega)) _) | exact HBa.out | exact Below.refl _ _)), L.out.below (by with_reducible repeat (first | (refine Below.drew ?_) | (refine bmore ?_ _) | (refine Below.setCell ?_ (by first | omega | (simp <;> omega)) _) | exact HBa.out | exact Below.refl _ _)), UL.out.below (by with_reducible repeat (first | (refine Below.drew ?_) | (refine bmore ?_ _) | (refine Below.setCell ?_ (by first | omega | (simp <;> omega)) _) | exact HBa.out | exact Below.refl _ _)), S.out.below (by with_reducible repeat (first | (refine Below.drew ?_) | (refine bmore ?_ _) | (refine Below.setCell ?_ (by first | omega | (simp <;> omega)) _) | exact HBa.out | exact Below.refl _ _)), US.out.below (by with_reducible repeat (first | (refine Below.drew ?_) | (refine bmore ?_ _) | (refine Below.setCell ?_ (by first | omega | (simp <;> omega)) _) | exact HBa.out | exact Below.refl _ _)), UG.out.below (by with_reducible repeat (first | (refine Below.drew ?_) | (refine bmore ?_ _) | (refine Below.setCell ?_ (by first | omega | (simp <;> omega)) _) | exact HBa.out | exact Below.refl _ _)), G.out.below (by with_reducible repeat (first | (refine Below.drew ?_) | (refine bmore ?_ _) | (refine Below.setCell ?_ (by first | omega | (simp <;> omega)) _) | exact HBa.out | exact Below.refl _ _))⟩
      case rest =>
        clear BW UX X UY Y L UL S US UG G
        obtain ⟨k_T, gT, zT, rfl, rfl, ET, T, UT, BW, UX, X, UY, Y, L, UL, S, US, UG, G⟩ := hcut
        clear ct
        have ESM : Hid (∀ p q, p < R → q < P → zG (q * R + p) = zT (p * P + q)) := fun p q hp hq => by rw [EG.out q p hq hp, ET.out p q hp hq, dotV_comm]
        clear EG ET
        clear Y UY
        go_wp2_with fail
        obtain ⟨G_0, G_1, G_2, G_3, G_4⟩ := G.out
        obtain ⟨T_0, T_1, T_2, T_3, T_4⟩ := T.out
        go_region_held3 (fun w' => (w'.cell? ⟨k_G, 0, none⟩ = some (.int .i64 (P : Int)) ∧ w'.cell? ⟨k_G, 1, none⟩ = some (.int .i64 (R : Int)) ∧ w'.cell? ⟨k_G, 2, none⟩ = some (.int .i64 (R : Int)) ∧ w'.cell? ⟨k_G, 3, none⟩ = some (.slice (some ⟨gG, 0, none⟩) (P * R) (P * R))) ∧ (w'.cell? ⟨k_T, 0, none⟩ = some (.int .i64 (R : Int)) ∧ w'.cell? ⟨k_T, 1, none⟩ = some (.int .i64 (P : Int)) ∧ w'.cell? ⟨k_T, 2, none⟩ = some (.int .i64 (P : Int)) ∧ w'.cell? ⟨k_T, 3, none⟩ = some (.slice (some ⟨gT, 0, none⟩) (R * P) (R * P)))) (simp [go_sem, *]) (first | (go_at_call 17; refine (mTurnZ P R R _ _ _ zG _ TG.out (by first | (with_reducible exact UG.out) | exact UG.out.below ((Below.refl _ _).drew)) (by omega)).mono ?_; rintro e w9_ ⟨gu, Xu, rfl, _, hUu, hEu, hb9_⟩; replace hb9_ : Below wc.heap.size wc w9_ := (by first | exact ((Below.refl _ _).drew).trans hb9_ | exact hb9_); have Uu : Hid (URow w9_ (some ⟨gu, 0, none⟩) (R * P) (R * P) Xu) := hUu; have ESN : Hid (∀ p q, p < R → q < P → Xu (p * P + q) = zT (p * P + q)) := fun p q hp hq => (by rw [hEu p q hp hq]; exact ESM.out p q hp hq); clear hUu hEu; clear G_0 G_1 G_2 G_3 G_4 T_0 T_1 T_2 T_3 T_4; replace BW : Hid (Below _ _ _) := bstep BW.out hb9_; replace UX : Hid (URow _ _ _ _ _) := UX.out.below hb9_; replace X : Hid (MBox _ _ _ _ _ _) := X.out.below hb9_; replace L : Hid (MBox _ _ _ _ _ _) := L.out.below hb9_; replace UL : Hid (URow _ _ _ _ _) := UL.out.below hb9_; replace S : Hid (MBox _ _ _ _ _ _) := S.out.below hb9_; replace US : Hid (URow _ _ _ _ _) := US.out.below hb9_; replace UG : Hid (URow _ _ _ _ _) := UG.out.below hb9_; replace G : Hid (MBox _ _ _ _ _ _) := G.out.below hb9_; replace T : Hid (MBox _ _ _ _ _ _) := T.out.below hb9_; replace UT : Hid (URow _ _ _ _ _) := UT.out.below hb9_; obtain ⟨G_0, G_1, G_2, G_3, G_4⟩ := G.out; obtain ⟨T_0, T_1, T_2, T_3, T_4⟩ := T.out; clear hb9_) | (go_at_call 32; refine (mSame R P P P _ _ _ _ _ _ Xu zT _ TT.out TT.out (by first | (with_reducible exact Uu.out) | exact Uu.out.below ((Below.refl _ _).drew)) (by first | (with_reducible exact UT.out) | exact UT.out.below ((Below.refl _ _).drew)) ESN.out).mono ?_; rintro e w10_ ⟨rfl, hb10_⟩; replace hb10_ : Below w9_.heap.size w9_ w10_ := (by first | exact ((Below.refl _ _).drew).trans hb10_ | exact hb10_); clear G_0 G_1 G_2 G_3 G_4 T_0 T_1 T_2 T_3 T_4; replace BW : Hid (Below _ _ _) := bstep BW.out hb10_; replace UX : Hid (URow _ _ _ _ _) := UX.out.below hb10_; replace X : Hid (MBox _ _ _ _ _ _) := X.out.below hb10_; replace L : Hid (MBox _ _ _ _ _ _) := L.out.below hb10_; replace UL : Hid (URow _ _ _ _ _) := UL.out.below hb10_; replace S : Hid (MBox _ _ _ _ _ _) := S.out.below hb10_; replace US : Hid (URow _ _ _ _ _) := US.out.below hb10_; replace UG : Hid (URow _ _ _ _ _) := UG.out.below hb10_; replace G : Hid (MBox _ _ _ _ _ _) := G.out.below hb10_; replace T : Hid (MBox _ _ _ _ _ _) := T.out.below hb10_; replace UT : Hid (URow _ _ _ _ _) := UT.out.below hb10_; replace Uu : Hid (URow _ _ _ _ _) := Uu.out.below hb10_; obtain ⟨G_0, G_1, G_2, G_3, G_4⟩ := G.out; obtain ⟨T_0, T_1, T_2, T_3, T_4⟩ := T.out; clear hb10_))
        clear G_0 G_1 G_2 G_3 G_4 T_0 T_1 T_2 T_3 T_4
        clear G T UG UT Uu
        obtain ⟨PQ, hPQe⟩ : ∃ x, P * Q = x := ⟨_, rfl⟩
        have HL : Hid (∀ n, n < PQ → Like (zX n) (zL n)) := by rw [← hPQe]; exact fun n hn => flat_all (P := fun n => Like (zX n) (zL n)) P Q EL.out n hn
        have HS : Hid (∀ n, n < PQ → Like (zX n) (zS n)) := by rw [← hPQe]; exact fun n hn => flat_all (P := fun n => Like (zX n) (zS n)) P Q ES.out n hn
        rw [hPQe] at X UX L UL S US hPQ
        clear hPQe EL ES HFX
        obtain ⟨X_0, X_1, X_2, X_3, X_4⟩ := X.out
        go_wp2_with fail
        clear X_0 X_1 X_2 X_3 X_4
        go_loopw [99] (fun s99_ wr => ∃ (i : Nat) , s99_ = .int .i64 (i : Int) ∧ i ≤ PQ ∧ Hid (Below w.heap.size w wr) ∧ Hid (URow wr (some ⟨gX, 0, none⟩) (PQ) (PQ) zX) ∧ Hid (MBox wr k_X (P : Int) (Q : Int) (Q : Int) (.slice (some ⟨gX, 0, none⟩) (PQ) (PQ))) ∧ Hid (MBox wr k_L (P : Int) (Q : Int) (Q : Int) (.slice (some ⟨gL, 0, none⟩) (PQ) (PQ))) ∧ Hid (URow wr (some ⟨gL, 0, none⟩) (PQ) (PQ) zL) ∧ Hid (MBox wr k_S (P : Int) (Q : Int) (Q : Int) (.slice (some ⟨gS, 0, none⟩) (PQ) (PQ))) ∧ Hid (URow wr (some ⟨gS, 0, none⟩) (PQ) (PQ) zS)) (fun s99_ _ => PQ - (intOf s99_).toNat)
        case atStart => exact ⟨0, rfl, Nat.zero_le _, BW, UX, X, L, UL, S, US⟩
        case round =>
          clear BW UX X L UL S US
          obtain ⟨i, rfl, hi_, BW, UX, X, L, UL, S, US⟩ := hrel
          obtain ⟨w11_, rfl⟩ : ∃ x, x = wr := ⟨wr, rfl⟩
          by_cases hlt : (i : Int) < (PQ : Int)
          · skip
            obtain ⟨l1_, q1⟩ := UL.out.cellg i (by omega)
            obtain ⟨l2_, q2⟩ := US.out.cellg i (by omega)
            obtain ⟨l3_, q3⟩ := UX.out.cellg i (by omega)
            obtain ⟨x0, x1⟩ := XR.out i
            obtain ⟨y0, y1⟩ := UL.out.2.2.1 i
            obtain ⟨ka, km⟩ := like_cases _ _ (HL.out i (by omega)) x0 x1
            obtain ⟨kz, _⟩ := like_cases _ _ (HS.out i (by omega)) x0 x1
            obtain ⟨x, hx⟩ : ∃ v, zX i = v := ⟨_, rfl⟩
            obtain ⟨a, ha⟩ : ∃ v, zL i = v := ⟨_, rfl⟩
            obtain ⟨z, hz⟩ : ∃ v, zS i = v := ⟨_, rfl⟩
            rw [hx] at q3 x0 x1 ka kz km
            rw [ha] at q1 ka km y0 y1
            rw [hz] at q2 kz
            clear hx ha hz
            obtain ⟨mm, hmm⟩ : ∃ m, x % 9223372036854775808 = m := ⟨_, rfl⟩
            rw [hmm] at km ka kz
            have HMX : Hid (x % 9223372036854775808 = mm) := hmm
            have HML : Hid (a % 9223372036854775808 = mm) := km
            clear hmm km
            obtain ⟨X_0, X_1, X_2, X_3, X_4⟩ := X.out
            obtain ⟨L_0, L_1, L_2, L_3, L_4⟩ := L.out
            obtain ⟨S_0, S_1, S_2, S_3, S_4⟩ := S.out
            go_wp2_with fail
            rcases ka with ea | ⟨na, na2, na3, xa⟩ <;> rcases kz with ez | ⟨nz, nz2, nz3, xz⟩
            · as_aux_lemma =>
                subst ea
                subst ez
                refine wp_region_noPanic ?_
                refine wp_region_held_drew (S := (fun w' => (w'.cell? ⟨k_L, 3, none⟩ = some (.slice (some ⟨gL, 0, none⟩) PQ PQ)) ∧ (w'.cell? ⟨k_S, 3, none⟩ = some (.slice (some ⟨gS, 0, none⟩) PQ PQ)) ∧ (w'.cell? ⟨k_X, 3, none⟩ = some (.slice (some ⟨gX, 0, none⟩) PQ PQ)) ∧ (w'.cell? ⟨gL, i, none⟩ = some (.int .u64 z)) ∧ (w'.cell? ⟨gS, i, none⟩ = some (.int .u64 z)) ∧ (w'.cell? ⟨gX, i, none⟩ = some (.int .u64 z)))) (by kernel_rfl) ⟨L_3, S_3, X_3, q1, q2, q3⟩ (fun hHeld => ?_)
                refine wpAnyH_take (i := 0) (oi := ({ dst := some 102, op := Op.fieldAddr _ (Operand.tmp 11) 3, type := _, pos := _, after := _, guard := none } : Oper)) (v := ?_) rfl (by kernel_rfl) (by kernel_rfl) (by kernel_rfl) (fun _ _ _ h => h) (Or.inl ⟨by rfl, ?_⟩) (by assumption) ?_
                rotate_left
                · intro w' hSw; (try dsimp only at hSw); go_simp <;> (try with_reducible rfl)
                (try simp only [Act.put, List.setIfInBounds_toArray, List.set_cons_zero, List.set_cons_succ])
                refine wpAnyH_take (i := 1) (oi := ({ dst := some 103, op := Op.load _ (Operand.tmp 102), type := _, pos := _, after := _, guard := none } : Oper)) (v := ?_) rfl (by kernel_rfl) (by kernel_rfl) (by kernel_rfl) (fun _ _ _ h => h) (Or.inl ⟨by rfl, ?_⟩) (by assumption) ?_
                rotate_left
                · intro w' hSw; (try dsimp only at hSw); go_simp <;> (try with_reducible rfl)
                (try simp only [Act.put, List.setIfInBounds_toArray, List.set_cons_zero, List.set_cons_succ])
                refine wpAnyH_take (i := 2) (oi := ({ dst := some 104, op := Op.move (Operand.tmp 19), type := _, pos := _, after := _, guard := none } : Oper)) (v := ?_) rfl (by kernel_rfl) (by kernel_rfl) (by kernel_rfl) (fun _ _ _ h => h) (Or.inl ⟨by rfl, ?_⟩) (by assumption) ?_
                rotate_left
                · intro w' hSw; (try dsimp only at hSw); go_simp <;> (try with_reducible rfl)
                (try simp only [Act.put, List.setIfInBounds_toArray, List.set_cons_zero, List.set_cons_succ])
                refine wpAnyH_take (i := 3) (oi := ({ dst := some 105, op := Op.indexAddr _ (Operand.tmp 103) (Operand.tmp 104), type := _, pos := _, after := _, guard := none } : Oper)) (v := ?_) rfl (by kernel_rfl) (by kernel_rfl) (by kernel_rfl) (fun _ _ _ h => h) (Or.inl ⟨by rfl, ?_⟩) (by assumption) ?_
                rotate_left
                · intro w' hSw; (try dsimp only at hSw); go_simp <;> (try with_reducible rfl)
                (try simp only [Act.put, List.setIfInBounds_toArray, List.set_cons_zero, List.set_cons_succ])
                refine wpAnyH_take (i := 4) (oi := ({ dst := some 106, op := Op.load _ (Operand.tmp 105), type := _, pos := _, after := _, guard := none } : Oper)) (v := ?_) rfl (by kernel_rfl) (by kernel_rfl) (by kernel_rfl) (fun _ _ _ h => h) (Or.inl ⟨by rfl, ?_⟩) (by assumption) ?_
                rotate_left
                · intro w' hSw; (try dsimp only at hSw); go_simp <;> (try with_reducible rfl)
                (try simp only [Act.put, List.setIfInBounds_toArray, List.set_cons_zero, List.set_cons_succ])
                refine wpAnyH_take (i := 5) (oi := ({ dst := some 107, op := Op.fieldAddr _ (Operand.tmp 9) 3, type := _, pos := _, after := _, guard := none } : Oper)) (v := ?_) rfl (by kernel_rfl) (by kernel_rfl) (by kernel_rfl) (fun _ _ _ h => h) (Or.inl ⟨by rfl, ?_⟩) (by assumption) ?_
                rotate_left
                · intro w' hSw; (try dsimp only at hSw); go_simp <;> (try with_reducible rfl)
                (try simp only [Act.put, List.setIfInBounds_toArray, List.set_cons_zero, List.set_cons_succ])
                refine wpAnyH_take (i := 6) (oi := ({ dst := some 108, op := Op.load _ (Operand.tmp 107), type := _, pos := _, after := _, guard := none } : Oper)) (v := ?_) rfl (by kernel_rfl) (by kernel_rfl) (by kernel_rfl) (fun _ _ _ h => h) (Or.inl ⟨by rfl, ?_⟩) (by assumption) ?_
                rotate_left
                · intro w' hSw; (try dsimp only at hSw); go_simp <;> (try with_reducible rfl)
                (try simp only [Act.put, List.setIfInBounds_toArray, List.set_cons_zero, List.set_cons_succ])
                refine wpAnyH_take (i := 7) (oi := ({ dst := some 109, op := Op.move (Operand.tmp 19), type := _, pos := _, after := _, guard := none } : Oper)) (v := ?_) rfl (by kernel_rfl) (by kernel_rfl) (by kernel_rfl) (fun _ _ _ h => h) (Or.inl ⟨by rfl, ?_⟩) (by assumption) ?_
                rotate_left
                · intro w' hSw; (try dsimp only at hSw); go_simp <;> (try with_reducible rfl)
                (try simp only [Act.put, List.setIfInBounds_toArray, List.set_cons_zero, List.set_cons_succ])
                refine wpAnyH_take (i := 8) (oi := ({ dst := some 110, op := Op.indexAddr _ (Operand.tmp 108) (Operand.tmp 109), type := _, pos := _, after := _, guard := none } : Oper)) (v := ?_) rfl (by kernel_rfl) (by kernel_rfl) (by kernel_rfl) (fun _ _ _ h => h) (Or.inl ⟨by rfl, ?_⟩) (by assumption) ?_
                rotate_left
                · intro w' hSw; (try dsimp only at hSw); go_simp <;> (try with_reducible rfl)
                (try simp only [Act.put, List.setIfInBounds_toArray, List.set_cons_zero, List.set_cons_succ])
                refine wpAnyH_take (i := 9) (oi := ({ dst := some 111, op := Op.load _ (Operand.tmp 110), type := _, pos := _, after := _, guard := none } : Oper)) (v := ?_) rfl (by kernel_rfl) (by kernel_rfl) (by kernel_rfl) (fun _ _ _ h => h) (Or.inl ⟨by rfl, ?_⟩) (by assumption) ?_
                rotate_left
                · intro w' hSw; (try dsimp only at hSw); go_simp <;> (try with_reducible rfl)
                (try simp only [Act.put, List.setIfInBounds_toArray, List.set_cons_zero, List.set_cons_succ])
                refine wpAnyH_take (i := 10) (oi := ({ dst := some 112, op := Op.binOp BinOp.neq _ (Operand.tmp 106) (Operand.tmp 111) _, type := _, pos := _, after := _, guard := none } : Oper)) (v := ?_) rfl (by kernel_rfl) (by kernel_rfl) (by kernel_rfl) (fun _ _ _ h => h) (Or.inl ⟨by rfl, ?_⟩) (by assumption) ?_
                rotate_left
                · intro w' hSw; (try dsimp only at hSw); go_simp <;> (try with_reducible rfl)
                (try simp only [Act.put, List.setIfInBounds_toArray, List.set_cons_zero, List.set_cons_succ])
                refine wpAnyH_take (i := 11) (oi := ({ dst := some 113, op := Op.move (Operand.tmp 112), type := _, pos := _, after := _, guard := none } : Oper)) (v := ?_) rfl (by kernel_rfl) (by kernel_rfl) (by kernel_rfl) (fun _ _ _ h => h) (Or.inl ⟨by rfl, ?_⟩) (by assumption) ?_
                rotate_left
                · intro w' hSw; (try dsimp only at hSw); go_simp <;> (try with_reducible rfl)
                (try simp only [Act.put, List.setIfInBounds_toArray, List.set_cons_zero, List.set_cons_succ])
                refine wpAnyH_take (i := 12) (oi := ({ dst := some 114, op := Op.fieldAddr _ (Operand.tmp 9) 3, type := _, pos := _, after := _, guard := some (11, true) } : Oper)) (v := undef) rfl (by kernel_rfl) (by kernel_rfl) (by kernel_rfl) (fun _ _ _ h => h) (Or.inr ⟨by kernel_rfl, rfl⟩) (by assumption) ?_
                (try simp only [Act.put, List.setIfInBounds_toArray, List.set_cons_zero, List.set_cons_succ])
                refine wpAnyH_take (i := 13) (oi := ({ dst := some 115, op := Op.load _ (Operand.tmp 114), type := _, pos := _, after := _, guard := some (11, true) } : Oper)) (v := undef) rfl (by kernel_rfl) (by kernel_rfl) (by kernel_rfl) (fun _ _ _ h => h) (Or.inr ⟨by kernel_rfl, rfl⟩) (by assumption) ?_
                (try simp only [Act.put, List.setIfInBounds_toArray, List.set_cons_zero, List.set_cons_succ])
                refine wpAnyH_take (i := 14) (oi := ({ dst := some 116, op := Op.move (Operand.tmp 19), type := _, pos := _, after := _, guard := some (11, true) } : Oper)) (v := undef) rfl (by kernel_rfl) (by kernel_rfl) (by kernel_rfl) (fun _ _ _ h => h) (Or.inr ⟨by kernel_rfl, rfl⟩) (by assumption) ?_
                (try simp only [Act.put, List.setIfInBounds_toArray, List.set_cons_zero, List.set_cons_succ])
                refine wpAnyH_take (i := 15) (oi := ({ dst := some 117, op := Op.indexAddr _ (Operand.tmp 115) (Operand.tmp 116), type := _, pos := _, after := _, guard := some (11, true) } : Oper)) (v := undef) rfl (by kernel_rfl) (by kernel_rfl) (by kernel_rfl) (fun _ _ _ h => h) (Or.inr ⟨by kernel_rfl, rfl⟩) (by assumption) ?_
                (try simp only [Act.put, List.setIfInBounds_toArray, List.set_cons_zero, List.set_cons_succ])
                refine wpAnyH_take (i := 16) (oi := ({ dst := some 118, op := Op.load _ (Operand.tmp 117), type := _, pos := _, after := _, guard := some (11, true) } : Oper)) (v := undef) rfl (by kernel_rfl) (by kernel_rfl) (by kernel_rfl) (fun _ _ _ h => h) (Or.inr ⟨by kernel_rfl, rfl⟩) (by assumption) ?_
                (try simp only [Act.put, List.setIfInBounds_toArray, List.set_cons_zero, List.set_cons_succ])
                refine wpAnyH_take (i := 17) (oi := ({ dst := some 119, op := Op.call { callee := Callee.value (Operand.func _), args := #[Operand.tmp 118], argTypes := _ }, type := _, pos := _, after := _, guard := some (11, true) } : Oper)) (v := undef) rfl (by kernel_rfl) (by kernel_rfl) (by kernel_rfl) (fun _ _ _ h => h) (Or.inr ⟨by kernel_rfl, rfl⟩) (by assumption) ?_
                (try simp only [Act.put, List.setIfInBounds_toArray, List.set_cons_zero, List.set_cons_succ])
                refine wpAnyH_take (i := 18) (oi := ({ dst := some 120, op := Op.binOp BinOp.neq _ (Operand.tmp 119) (Operand.const (Value.int IntKind.u64 0)) _, type := _, pos := _, after := _, guard := some (11, true) } : Oper)) (v := undef) rfl (by kernel_rfl) (by kernel_rfl) (by kernel_rfl) (fun _ _ _ h => h) (Or.inr ⟨by kernel_rfl, rfl⟩) (by assumption) ?_
                (try simp only [Act.put, List.setIfInBounds_toArray, List.set_cons_zero, List.set_cons_succ])
                refine wpAnyH_take (i := 19) (oi := ({ dst := some 121, op := Op.pick (Operand.tmp 113) (Operand.tmp 120) (Operand.const (Value.bool false)), type := _, pos := _, after := _, guard := none } : Oper)) (v := ?_) rfl (by kernel_rfl) (by kernel_rfl) (by kernel_rfl) (fun _ _ _ h => h) (Or.inl ⟨by rfl, ?_⟩) (by assumption) ?_
                rotate_left
                · intro w' hSw; (try dsimp only at hSw); go_simp <;> (try with_reducible rfl)
                (try simp only [Act.put, List.setIfInBounds_toArray, List.set_cons_zero, List.set_cons_succ])
                refine wpAnyH_take (i := 20) (oi := ({ dst := some 122, op := Op.move (Operand.tmp 121), type := _, pos := _, after := _, guard := none } : Oper)) (v := ?_) rfl (by kernel_rfl) (by kernel_rfl) (by kernel_rfl) (fun _ _ _ h => h) (Or.inl ⟨by rfl, ?_⟩) (by assumption) ?_
                rotate_left
                · intro w' hSw; (try dsimp only at hSw); go_simp <;> (try with_reducible rfl)
                (try simp only [Act.put, List.setIfInBounds_toArray, List.set_cons_zero, List.set_cons_succ])
                refine wpAnyH_take (i := 21) (oi := ({ dst := some 123, op := Op.fieldAddr _ (Operand.tmp 13) 3, type := _, pos := _, after := _, guard := some (20, false) } : Oper)) (v := ?_) rfl (by kernel_rfl) (by kernel_rfl) (by kernel_rfl) (fun _ _ _ h => h) (Or.inl ⟨by rfl, ?_⟩) (by assumption) ?_
                rotate_left
                · intro w' hSw; (try dsimp only at hSw); go_simp <;> (try with_reducible rfl)
                (try simp only [Act.put, List.setIfInBounds_toArray, List.set_cons_zero, List.set_cons_succ])
                refine wpAnyH_take (i := 22) (oi := ({ dst := some 124, op := Op.load _ (Operand.tmp 123), type := _, pos := _, after := _, guard := some (20, false) } : Oper)) (v := ?_) rfl (by kernel_rfl) (by kernel_rfl) (by kernel_rfl) (fun _ _ _ h => h) (Or.inl ⟨by rfl, ?_⟩) (by assumption) ?_
                rotate_left
                · intro w' hSw; (try dsimp only at hSw); go_simp <;> (try with_reducible rfl)
                (try simp only [Act.put, List.setIfInBounds_toArray, List.set_cons_zero, List.set_cons_succ])
                refine wpAnyH_take (i := 23) (oi := ({ dst := some 125, op := Op.move (Operand.tmp 19), type := _, pos := _, after := _, guard := some (20, false) } : Oper)) (v := ?_) rfl (by kernel_rfl) (by kernel_rfl) (by kernel_rfl) (fun _ _ _ h => h) (Or.inl ⟨by rfl, ?_⟩) (by assumption) ?_
                rotate_left
                · intro w' hSw; (try dsimp only at hSw); go_simp <;> (try with_reducible rfl)
                (try simp only [Act.put, List.setIfInBounds_toArray, List.set_cons_zero, List.set_cons_succ])
                refine wpAnyH_take (i := 24) (oi := ({ dst := some 126, op := Op.indexAddr _ (Operand.tmp 124) (Operand.tmp 125), type := _, pos := _, after := _, guard := some (20, false) } : Oper)) (v := ?_) rfl (by kernel_rfl) (by kernel_rfl) (by kernel_rfl) (fun _ _ _ h => h) (Or.inl ⟨by rfl, ?_⟩) (by assumption) ?_
                rotate_left
                · intro w' hSw; (try dsimp only at hSw); go_simp <;> (try with_reducible rfl)
                (try simp only [Act.put, List.setIfInBounds_toArray, List.set_cons_zero, List.set_cons_succ])
                refine wpAnyH_take (i := 25) (oi := ({ dst := some 127, op := Op.load _ (Operand.tmp 126), type := _, pos := _, after := _, guard := some (20, false) } : Oper)) (v := ?_) rfl (by kernel_rfl) (by kernel_rfl) (by kernel_rfl) (fun _ _ _ h => h) (Or.inl ⟨by rfl, ?_⟩) (by assumption) ?_
                rotate_left
                · intro w' hSw; (try dsimp only at hSw); go_simp <;> (try with_reducible rfl)
                (try simp only [Act.put, List.setIfInBounds_toArray, List.set_cons_zero, List.set_cons_succ])
                refine wpAnyH_take (i := 26) (oi := ({ dst := some 128, op := Op.fieldAddr _ (Operand.tmp 9) 3, type := _, pos := _, after := _, guard := some (20, false) } : Oper)) (v := ?_) rfl (by kernel_rfl) (by kernel_rfl) (by kernel_rfl) (fun _ _ _ h => h) (Or.inl ⟨by rfl, ?_⟩) (by assumption) ?_
                rotate_left
                · intro w' hSw; (try dsimp only at hSw); go_simp <;> (try with_reducible rfl)
                (try simp only [Act.put, List.setIfInBounds_toArray, List.set_cons_zero, List.set_cons_succ])
                refine wpAnyH_take (i := 27) (oi := ({ dst := some 129, op := Op.load _ (Operand.tmp 128), type := _, pos := _, after := _, guard := some (20, false) } : Oper)) (v := ?_) rfl (by kernel_rfl) (by kernel_rfl) (by kernel_rfl) (fun _ _ _ h => h) (Or.inl ⟨by rfl, ?_⟩) (by assumption) ?_
                rotate_left
                · intro w' hSw; (try dsimp only at hSw); go_simp <;> (try with_reducible rfl)
                (try simp only [Act.put, List.setIfInBounds_toArray, List.set_cons_zero, List.set_cons_succ])
                refine wpAnyH_take (i := 28) (oi := ({ dst := some 130, op := Op.move (Operand.tmp 19), type := _, pos := _, after := _, guard := some (20, false) } : Oper)) (v := ?_) rfl (by kernel_rfl) (by kernel_rfl) (by kernel_rfl) (fun _ _ _ h => h) (Or.inl ⟨by rfl, ?_⟩) (by assumption) ?_
                rotate_left
                · intro w' hSw; (try dsimp only at hSw); go_simp <;> (try with_reducible rfl)
                (try simp only [Act.put, List.setIfInBounds_toArray, List.set_cons_zero, List.set_cons_succ])
                refine wpAnyH_take (i := 29) (oi := ({ dst := some 131, op := Op.indexAddr _ (Operand.tmp 129) (Operand.tmp 130), type := _, pos := _, after := _, guard := some (20, false) } : Oper)) (v := ?_) rfl (by kernel_rfl) (by kernel_rfl) (by kernel_rfl) (fun _ _ _ h => h) (Or.inl ⟨by rfl, ?_⟩) (by assumption) ?_
                rotate_left
                · intro w' hSw; (try dsimp only at hSw); go_simp <;> (try with_reducible rfl)
                (try simp only [Act.put, List.setIfInBounds_toArray, List.set_cons_zero, List.set_cons_succ])
                refine wpAnyH_take (i := 30) (oi := ({ dst := some 132, op := Op.load _ (Operand.tmp 131), type := _, pos := _, after := _, guard := some (20, false) } : Oper)) (v := ?_) rfl (by kernel_rfl) (by kernel_rfl) (by kernel_rfl) (fun _ _ _ h => h) (Or.inl ⟨by rfl, ?_⟩) (by assumption) ?_
                rotate_left
                · intro w' hSw; (try dsimp only at hSw); go_simp <;> (try with_reducible rfl)
                (try simp only [Act.put, List.setIfInBounds_toArray, List.set_cons_zero, List.set_cons_succ])
                refine wpAnyH_take (i := 31) (oi := ({ dst := some 133, op := Op.binOp BinOp.neq _ (Operand.tmp 127) (Operand.tmp 132) _, type := _, pos := _, after := _, guard := some (20, false) } : Oper)) (v := ?_) rfl (by kernel_rfl) (by kernel_rfl) (by kernel_rfl) (fun _ _ _ h => h) (Or.inl ⟨by rfl, ?_⟩) (by assumption) ?_
                rotate_left
                · intro w' hSw; (try dsimp only at hSw); go_simp <;> (try with_reducible rfl)
                (try simp only [Act.put, List.setIfInBounds_toArray, List.set_cons_zero, List.set_cons_succ])
                refine wpAnyH_take (i := 32) (oi := ({ dst := some 134, op := Op.move (Operand.tmp 133), type := _, pos := _, after := _, guard := some (20, false) } : Oper)) (v := ?_) rfl (by kernel_rfl) (by kernel_rfl) (by kernel_rfl) (fun _ _ _ h => h) (Or.inl ⟨by rfl, ?_⟩) (by assumption) ?_
                rotate_left
                · intro w' hSw; (try dsimp only at hSw); go_simp <;> (try with_reducible rfl)
                (try simp only [Act.put, List.setIfInBounds_toArray, List.set_cons_zero, List.set_cons_succ])
                refine wpAnyH_take (i := 33) (oi := ({ dst := some 135, op := Op.fieldAddr _ (Operand.tmp 9) 3, type := _, pos := _, after := _, guard := some (32, true) } : Oper)) (v := undef) rfl (by kernel_rfl) (by kernel_rfl) (by kernel_rfl) (fun _ _ _ h => h) (Or.inr ⟨by kernel_rfl, rfl⟩) (by assumption) ?_
                (try simp only [Act.put, List.setIfInBounds_toArray, List.set_cons_zero, List.set_cons_succ])
                refine wpAnyH_take (i := 34) (oi := ({ dst := some 136, op := Op.load _ (Operand.tmp 135), type := _, pos := _, after := _, guard := some (32, true) } : Oper)) (v := undef) rfl (by kernel_rfl) (by kernel_rfl) (by kernel_rfl) (fun _ _ _ h => h) (Or.inr ⟨by kernel_rfl, rfl⟩) (by assumption) ?_
                (try simp only [Act.put, List.setIfInBounds_toArray, List.set_cons_zero, List.set_cons_succ])
                refine wpAnyH_take (i := 35) (oi := ({ dst := some 137, op := Op.move (Operand.tmp 19), type := _, pos := _, after := _, guard := some (32, true) } : Oper)) (v := undef) rfl (by kernel_rfl) (by kernel_rfl) (by kernel_rfl) (fun _ _ _ h => h) (Or.inr ⟨by kernel_rfl, rfl⟩) (by assumption) ?_
                (try simp only [Act.put, List.setIfInBounds_toArray, List.set_cons_zero, List.set_cons_succ])
                refine wpAnyH_take (i := 36) (oi := ({ dst := some 138, op := Op.indexAddr _ (Operand.tmp 136) (Operand.tmp 137), type := _, pos := _, after := _, guard := some (32, true) } : Oper)) (v := undef) rfl (by kernel_rfl) (by kernel_rfl) (by kernel_rfl) (fun _ _ _ h => h) (Or.inr ⟨by kernel_rfl, rfl⟩) (by assumption) ?_
                (try simp only [Act.put, List.setIfInBounds_toArray, List.set_cons_zero, List.set_cons_succ])
                refine wpAnyH_take (i := 37) (oi := ({ dst := some 139, op := Op.load _ (Operand.tmp 138), type := _, pos := _, after := _, guard := some (32, true) } : Oper)) (v := undef) rfl (by kernel_rfl) (by kernel_rfl) (by kernel_rfl) (fun _ _ _ h => h) (Or.inr ⟨by kernel_rfl, rfl⟩) (by assumption) ?_
                (try simp only [Act.put, List.setIfInBounds_toArray, List.set_cons_zero, List.set_cons_succ])
                refine wpAnyH_take (i := 38) (oi := ({ dst := some 140, op := Op.call { callee := Callee.value (Operand.func _), args := #[Operand.tmp 139], argTypes := _ }, type := _, pos := _, after := _, guard := some (32, true) } : Oper)) (v := undef) rfl (by kernel_rfl) (by kernel_rfl) (by kernel_rfl) (fun _ _ _ h => h) (Or.inr ⟨by kernel_rfl, rfl⟩) (by assumption) ?_
                (try simp only [Act.put, List.setIfInBounds_toArray, List.set_cons_zero, List.set_cons_succ])
                refine wpAnyH_take (i := 39) (oi := ({ dst := some 141, op := Op.binOp BinOp.neq _ (Operand.tmp 140) (Operand.const (Value.int IntKind.u64 0)) _, type := _, pos := _, after := _, guard := some (32, true) } : Oper)) (v := undef) rfl (by kernel_rfl) (by kernel_rfl) (by kernel_rfl) (fun _ _ _ h => h) (Or.inr ⟨by kernel_rfl, rfl⟩) (by assumption) ?_
                (try simp only [Act.put, List.setIfInBounds_toArray, List.set_cons_zero, List.set_cons_succ])
                refine wpAnyH_take (i := 40) (oi := ({ dst := some 142, op := Op.pick (Operand.tmp 134) (Operand.tmp 141) (Operand.const (Value.bool false)), type := _, pos := _, after := _, guard := some (20, false) } : Oper)) (v := ?_) rfl (by kernel_rfl) (by kernel_rfl) (by kernel_rfl) (fun _ _ _ h => h) (Or.inl ⟨by rfl, ?_⟩) (by assumption) ?_
                rotate_left
                · intro w' hSw; (try dsimp only at hSw); go_simp <;> (try with_reducible rfl)
                (try simp only [Act.put, List.setIfInBounds_toArray, List.set_cons_zero, List.set_cons_succ])
                refine wpAnyH_take (i := 41) (oi := ({ dst := some 143, op := Op.pick (Operand.tmp 122) (Operand.const (Value.bool true)) (Operand.tmp 142), type := _, pos := _, after := _, guard := none } : Oper)) (v := ?_) rfl (by kernel_rfl) (by kernel_rfl) (by kernel_rfl) (fun _ _ _ h => h) (Or.inl ⟨by rfl, ?_⟩) (by assumption) ?_
                rotate_left
                · intro w' hSw; (try dsimp only at hSw); go_simp <;> (try with_reducible rfl)
                (try simp only [Act.put, List.setIfInBounds_toArray, List.set_cons_zero, List.set_cons_succ])
                refine wpAnyH_take (i := 42) (oi := ({ dst := some 144, op := Op.move (Operand.tmp 143), type := _, pos := _, after := _, guard := none } : Oper)) (v := ?_) rfl (by kernel_rfl) (by kernel_rfl) (by kernel_rfl) (fun _ _ _ h => h) (Or.inl ⟨by rfl, ?_⟩) (by assumption) ?_
                rotate_left
                · intro w' hSw; (try dsimp only at hSw); go_simp <;> (try with_reducible rfl)
                (try simp only [Act.put, List.setIfInBounds_toArray, List.set_cons_zero, List.set_cons_succ])
                refine wpAnyH_take (i := 43) (oi := ({ dst := some 145, op := Op.fieldAddr _ (Operand.tmp 11) 3, type := _, pos := _, after := _, guard := some (42, false) } : Oper)) (v := ?_) rfl (by kernel_rfl) (by kernel_rfl) (by kernel_rfl) (fun _ _ _ h => h) (Or.inl ⟨by rfl, ?_⟩) (by assumption) ?_
                rotate_left
                · intro w' hSw; (try dsimp only at hSw); go_simp <;> (try with_reducible rfl)
                (try simp only [Act.put, List.setIfInBounds_toArray, List.set_cons_zero, List.set_cons_succ])
                refine wpAnyH_take (i := 44) (oi := ({ dst := some 146, op := Op.load _ (Operand.tmp 145), type := _, pos := _, after := _, guard := some (42, false) } : Oper)) (v := ?_) rfl (by kernel_rfl) (by kernel_rfl) (by kernel_rfl) (fun _ _ _ h => h) (Or.inl ⟨by rfl, ?_⟩) (by assumption) ?_
                rotate_left
                · intro w' hSw; (try dsimp only at hSw); go_simp <;> (try with_reducible rfl)
                (try simp only [Act.put, List.setIfInBounds_toArray, List.set_cons_zero, List.set_cons_succ])
                refine wpAnyH_take (i := 45) (oi := ({ dst := some 147, op := Op.move (Operand.tmp 19), type := _, pos := _, after := _, guard := some (42, false) } : Oper)) (v := ?_) rfl (by kernel_rfl) (by kernel_rfl) (by kernel_rfl) (fun _ _ _ h => h) (Or.inl ⟨by rfl, ?_⟩) (by assumption) ?_
                rotate_left
                · intro w' hSw; (try dsimp only at hSw); go_simp <;> (try with_reducible rfl)
                (try simp only [Act.put, List.setIfInBounds_toArray, List.set_cons_zero, List.set_cons_succ])
                refine wpAnyH_take (i := 46) (oi := ({ dst := some 148, op := Op.indexAddr _ (Operand.tmp 146) (Operand.tmp 147), type := _, pos := _, after := _, guard := some (42, false) } : Oper)) (v := ?_) rfl (by kernel_rfl) (by kernel_rfl) (by kernel_rfl) (fun _ _ _ h => h) (Or.inl ⟨by rfl, ?_⟩) (by assumption) ?_
                rotate_left
                · intro w' hSw; (try dsimp only at hSw); go_simp <;> (try with_reducible rfl)
                (try simp only [Act.put, List.setIfInBounds_toArray, List.set_cons_zero, List.set_cons_succ])
                refine wpAnyH_take (i := 47) (oi := ({ dst := some 149, op := Op.load _ (Operand.tmp 148), type := _, pos := _, after := _, guard := some (42, false) } : Oper)) (v := ?_) rfl (by kernel_rfl) (by kernel_rfl) (by kernel_rfl) (fun _ _ _ h => h) (Or.inl ⟨by rfl, ?_⟩) (by assumption) ?_
                rotate_left
                · intro w' hSw; (try dsimp only at hSw); go_simp <;> (try with_reducible rfl)
                (try simp only [Act.put, List.setIfInBounds_toArray, List.set_cons_zero, List.set_cons_succ])
                refine wpAnyH_take (i := 49) (oi := ({ dst := some 151, op := Op.fieldAddr _ (Operand.tmp 9) 3, type := _, pos := _, after := _, guard := some (42, false) } : Oper)) (v := ?_) rfl (by kernel_rfl) (by kernel_rfl) (by kernel_rfl) (fun _ _ _ h => h) (Or.inl ⟨by rfl, ?_⟩) (by assumption) ?_
                rotate_left
                · intro w' hSw; (try dsimp only at hSw); go_simp <;> (try with_reducible rfl)
                (try simp only [Act.put, List.setIfInBounds_toArray, List.set_cons_zero, List.set_cons_succ])
                refine wpAnyH_take (i := 50) (oi := ({ dst := some 152, op := Op.load _ (Operand.tmp 151), type := _, pos := _, after := _, guard := some (42, false) } : Oper)) (v := ?_) rfl (by kernel_rfl) (by kernel_rfl) (by kernel_rfl) (fun _ _ _ h => h) (Or.inl ⟨by rfl, ?_⟩) (by assumption) ?_
                rotate_left
                · intro w' hSw; (try dsimp only at hSw); go_simp <;> (try with_reducible rfl)
                (try simp only [Act.put, List.setIfInBounds_toArray, List.set_cons_zero, List.set_cons_succ])
                refine wpAnyH_take (i := 51) (oi := ({ dst := some 153, op := Op.move (Operand.tmp 19), type := _, pos := _, after := _, guard := some (42, false) } : Oper)) (v := ?_) rfl (by kernel_rfl) (by kernel_rfl) (by kernel_rfl) (fun _ _ _ h => h) (Or.inl ⟨by rfl, ?_⟩) (by assumption) ?_
                rotate_left
                · intro w' hSw; (try dsimp only at hSw); go_simp <;> (try with_reducible rfl)
                (try simp only [Act.put, List.setIfInBounds_toArray, List.set_cons_zero, List.set_cons_succ])
                refine wpAnyH_take (i := 52) (oi := ({ dst := some 154, op := Op.indexAddr _ (Operand.tmp 152) (Operand.tmp 153), type := _, pos := _, after := _, guard := some (42, false) } : Oper)) (v := ?_) rfl (by kernel_rfl) (by kernel_rfl) (by kernel_rfl) (fun _ _ _ h => h) (Or.inl ⟨by rfl, ?_⟩) (by assumption) ?_
                rotate_left
                · intro w' hSw; (try dsimp only at hSw); go_simp <;> (try with_reducible rfl)
                (try simp only [Act.put, List.setIfInBounds_toArray, List.set_cons_zero, List.set_cons_succ])
                refine wpAnyH_take (i := 53) (oi := ({ dst := some 155, op := Op.load _ (Operand.tmp 154), type := _, pos := _, after := _, guard := some (42, false) } : Oper)) (v := ?_) rfl (by kernel_rfl) (by kernel_rfl) (by kernel_rfl) (fun _ _ _ h => h) (Or.inl ⟨by rfl, ?_⟩) (by assumption) ?_
                rotate_left
                · intro w' hSw; (try dsimp only at hSw); go_simp <;> (try with_reducible rfl)
                (try simp only [Act.put, List.setIfInBounds_toArray, List.set_cons_zero, List.set_cons_succ])
                refine wpAnyH_ready (rs := [48]) (by kernel_rfl) (by simp) ?_
                refine AllReadyH.cons (o := ({ dst := some 150, op := Op.call { callee := Callee.value (Operand.func _), args := #[Operand.tmp 149], argTypes := _ }, type := _, pos := _, after := _, guard := some (42, false) } : Oper)) rfl (fun K hK => ?_) AllReadyH.nil
                go_simp
                refine (abs_any z _ x0 x1).mono ?_
                rintro e w' ⟨rfl, hw⟩
                have hw2 := hw.symm
                clear hw
                subst hw2
                rw [HML.out]
                (try go_wp2_with fail)
                refine hK.out _ _ ?_ (fun hHeld => ?_)
                · (try dsimp only); exact hHeld
                clear hK K
                (try simp only [Act.put, List.setIfInBounds_toArray, List.set_cons_zero, List.set_cons_succ])
                refine wpAnyH_ready (rs := [54]) (by kernel_rfl) (by simp) ?_
                refine AllReadyH.cons (o := ({ dst := some 156, op := Op.call { callee := Callee.value (Operand.func _), args := #[Operand.tmp 155], argTypes := _ }, type := _, pos := _, after := _, guard := some (42, false) } : Oper)) rfl (fun K hK => ?_) AllReadyH.nil
                go_simp
                refine (abs_any z _ x0 x1).mono ?_
                rintro e w' ⟨rfl, hw⟩
                have hw2 := hw.symm
                clear hw
                subst hw2
                rw [HMX.out]
                (try go_wp2_with fail)
                refine hK.out _ _ ?_ (fun hHeld => ?_)
                · (try dsimp only); exact hHeld
                clear hK K
                (try simp only [Act.put, List.setIfInBounds_toArray, List.set_cons_zero, List.set_cons_succ])
                refine wpAnyH_take (i := 55) (oi := ({ dst := some 157, op := Op.binOp BinOp.neq _ (Operand.tmp 150) (Operand.tmp 156) _, type := _, pos := _, after := _, guard := some (42, false) } : Oper)) (v := ?_) rfl (by kernel_rfl) (by kernel_rfl) (by kernel_rfl) (fun _ _ _ h => h) (Or.inl ⟨by rfl, ?_⟩) (by assumption) ?_
                rotate_left
                · intro w' hSw; (try dsimp only at hSw); go_simp <;> (try with_reducible rfl)
                (try simp only [Act.put, List.setIfInBounds_toArray, List.set_cons_zero, List.set_cons_succ])
                refine wpAnyH_take (i := 56) (oi := ({ dst := some 158, op := Op.pick (Operand.tmp 144) (Operand.const (Value.bool true)) (Operand.tmp 157), type := _, pos := _, after := _, guard := none } : Oper)) (v := ?_) rfl (by kernel_rfl) (by kernel_rfl) (by kernel_rfl) (fun _ _ _ h => h) (Or.inl ⟨by rfl, ?_⟩) (by assumption) ?_
                rotate_left
                · intro w' hSw; (try dsimp only at hSw); go_simp <;> (try with_reducible rfl)
                (try simp only [Act.put, List.setIfInBounds_toArray, List.set_cons_zero, List.set_cons_succ])
                refine wpAnyH_done (by kernel_rfl) ?_ _
                refine NoPanic.normal ?_
                clear X_0 X_1 X_2 X_3 X_4 L_0 L_1 L_2 L_3 L_4 S_0 S_1 S_2 S_3 S_4
                have hb_ : Below w11_.heap.size w11_ w11_.drew := (Below.refl _ _).drew
                generalize w11_.drew = w200_ at hb_ ⊢
                replace BW : Hid (Below _ _ _) := bstep BW.out hb_
                replace UX : Hid (URow _ _ _ _ _) := UX.out.below hb_
                replace X : Hid (MBox _ _ _ _ _ _) := X.out.below hb_
                replace L : Hid (MBox _ _ _ _ _ _) := L.out.below hb_
                replace UL : Hid (URow _ _ _ _ _) := UL.out.below hb_
                replace S : Hid (MBox _ _ _ _ _ _) := S.out.below hb_
                replace US : Hid (URow _ _ _ _ _) := US.out.below hb_
                clear hb_ hHeld
                go_wp2
                go_roundw
                case rel => exact ⟨i + 1, by go_num, by omega, BW, UX, X, L, UL, S, US⟩
                case measure => simp [intOf]; omega
            · as_aux_lemma =>
                subst ea
                subst xz
                refine wp_region_noPanic ?_
                refine wp_region_held_drew (S := (fun w' => (w'.cell? ⟨k_L, 3, none⟩ = some (.slice (some ⟨gL, 0, none⟩) PQ PQ)) ∧ (w'.cell? ⟨k_S, 3, none⟩ = some (.slice (some ⟨gS, 0, none⟩) PQ PQ)) ∧ (w'.cell? ⟨k_X, 3, none⟩ = some (.slice (some ⟨gX, 0, none⟩) PQ PQ)) ∧ (w'.cell? ⟨gL, i, none⟩ = some (.int .u64 a)) ∧ (w'.cell? ⟨gS, i, none⟩ = some (.int .u64 z)) ∧ (w'.cell? ⟨gX, i, none⟩ = some (.int .u64 a)))) (by kernel_rfl) ⟨L_3, S_3, X_3, q1, q2, q3⟩ (fun hHeld => ?_)
                refine wpAnyH_take (i := 0) (oi := ({ dst := some 102, op := Op.fieldAddr _ (Operand.tmp 11) 3, type := _, pos := _, after := _, guard := none } : Oper)) (v := ?_) rfl (by kernel_rfl) (by kernel_rfl) (by kernel_rfl) (fun _ _ _ h => h) (Or.inl ⟨by rfl, ?_⟩) (by assumption) ?_
                rotate_left
                · intro w' hSw; (try dsimp only at hSw); go_simp <;> (try with_reducible rfl)
                (try simp only [Act.put, List.setIfInBounds_toArray, List.set_cons_zero, List.set_cons_succ])
                refine wpAnyH_take (i := 1) (oi := ({ dst := some 103, op := Op.load _ (Operand.tmp 102), type := _, pos := _, after := _, guard := none } : Oper)) (v := ?_) rfl (by kernel_rfl) (by kernel_rfl) (by kernel_rfl) (fun _ _ _ h => h) (Or.inl ⟨by rfl, ?_⟩) (by assumption) ?_
                rotate_left
                · intro w' hSw; (try dsimp only at hSw); go_simp <;> (try with_reducible rfl)
                (try simp only [Act.put, List.setIfInBounds_toArray, List.set_cons_zero, List.set_cons_succ])
                refine wpAnyH_take (i := 2) (oi := ({ dst := some 104, op := Op.move (Operand.tmp 19), type := _, pos := _, after := _, guard := none } : Oper)) (v := ?_) rfl (by kernel_rfl) (by kernel_rfl) (by kernel_rfl) (fun _ _ _ h => h) (Or.inl ⟨by rfl, ?_⟩) (by assumption) ?_
                rotate_left
                · intro w' hSw; (try dsimp only at hSw); go_simp <;> (try with_reducible rfl)
                (try simp only [Act.put, List.setIfInBounds_toArray, List.set_cons_zero, List.set_cons_succ])
                refine wpAnyH_take (i := 3) (oi := ({ dst := some 105, op := Op.indexAddr _ (Operand.tmp 103) (Operand.tmp 104), type := _, pos := _, after := _, guard := none } : Oper)) (v := ?_) rfl (by kernel_rfl) (by kernel_rfl) (by kernel_rfl) (fun _ _ _ h => h) (Or.inl ⟨by rfl, ?_⟩) (by assumption) ?_
                rotate_left
                · intro w' hSw; (try dsimp only at hSw); go_simp <;> (try with_reducible rfl)
                (try simp only [Act.put, List.setIfInBounds_toArray, List.set_cons_zero, List.set_cons_succ])
                refine wpAnyH_take (i := 4) (oi := ({ dst := some 106, op := Op.load _ (Operand.tmp 105), type := _, pos := _, after := _, guard := none } : Oper)) (v := ?_) rfl (by kernel_rfl) (by kernel_rfl) (by kernel_rfl) (fun _ _ _ h => h) (Or.inl ⟨by rfl, ?_⟩) (by assumption) ?_
                rotate_left
                · intro w' hSw; (try dsimp only at hSw); go_simp <;> (try with_reducible rfl)
                (try simp only [Act.put, List.setIfInBounds_toArray, List.set_cons_zero, List.set_cons_succ])
                refine wpAnyH_take (i := 5) (oi := ({ dst := some 107, op := Op.fieldAddr _ (Operand.tmp 9) 3, type := _, pos := _, after := _, guard := none } : Oper)) (v := ?_) rfl (by kernel_rfl) (by kernel_rfl) (by kernel_rfl) (fun _ _ _ h => h) (Or.inl ⟨by rfl, ?_⟩) (by assumption) ?_
                rotate_left
                · intro w' hSw; (try dsimp only at hSw); go_simp <;> (try with_reducible rfl)
                (try simp only [Act.put, List.setIfInBounds_toArray, List.set_cons_zero, List.set_cons_succ])
                refine wpAnyH_take (i := 6) (oi := ({ dst := some 108, op := Op.load _ (Operand.tmp 107), type := _, pos := _, after := _, guard := none } : Oper)) (v := ?_) rfl (by kernel_rfl) (by kernel_rfl) (by kernel_rfl) (fun _ _ _ h => h) (Or.inl ⟨by rfl, ?_⟩) (by assumption) ?_
                rotate_left
                · intro w' hSw; (try dsimp only at hSw); go_simp <;> (try with_reducible rfl)
                (try simp only [Act.put, List.setIfInBounds_toArray, List.set_cons_zero, List.set_cons_succ])
                refine wpAnyH_take (i := 7) (oi := ({ dst := some 109, op := Op.move (Operand.tmp 19), type := _, pos := _, after := _, guard := none } : Oper)) (v := ?_) rfl (by kernel_rfl) (by kernel_rfl) (by kernel_rfl) (fun _ _ _ h => h) (Or.inl ⟨by rfl, ?_⟩) (by assumption) ?_
                rotate_left
                · intro w' hSw; (try dsimp only at hSw); go_simp <;> (try with_reducible rfl)
                (try simp only [Act.put, List.setIfInBounds_toArray, List.set_cons_zero, List.set_cons_succ])
                refine wpAnyH_take (i := 8) (oi := ({ dst := some 110, op := Op.indexAddr _ (Operand.tmp 108) (Operand.tmp 109), type := _, pos := _, after := _, guard := none } : Oper)) (v := ?_) rfl (by kernel_rfl) (by kernel_rfl) (by kernel_rfl) (fun _ _ _ h => h) (Or.inl ⟨by rfl, ?_⟩) (by assumption) ?_
                rotate_left
                · intro w' hSw; (try dsimp only at hSw); go_simp <;> (try with_reducible rfl)
                (try simp only [Act.put, List.setIfInBounds_toArray, List.set_cons_zero, List.set_cons_succ])
                refine wpAnyH_take (i := 9) (oi := ({ dst := some 111, op := Op.load _ (Operand.tmp 110), type := _, pos := _, after := _, guard := none } : Oper)) (v := ?_) rfl (by kernel_rfl) (by kernel_rfl) (by kernel_rfl) (fun _ _ _ h => h) (Or.inl ⟨by rfl, ?_⟩) (by assumption) ?_
                rotate_left
                · intro w' hSw; (try dsimp only at hSw); go_simp <;> (try with_reducible rfl)
                (try simp only [Act.put, List.setIfInBounds_toArray, List.set_cons_zero, List.set_cons_succ])
                refine wpAnyH_take (i := 10) (oi := ({ dst := some 112, op := Op.binOp BinOp.neq _ (Operand.tmp 106) (Operand.tmp 111) _, type := _, pos := _, after := _, guard := none } : Oper)) (v := ?_) rfl (by kernel_rfl) (by kernel_rfl) (by kernel_rfl) (fun _ _ _ h => h) (Or.inl ⟨by rfl, ?_⟩) (by assumption) ?_
                rotate_left
                · intro w' hSw; (try dsimp only at hSw); go_simp <;> (try with_reducible rfl)
                (try simp only [Act.put, List.setIfInBounds_toArray, List.set_cons_zero, List.set_cons_succ])
                refine wpAnyH_take (i := 11) (oi := ({ dst := some 113, op := Op.move (Operand.tmp 112), type := _, pos := _, after := _, guard := none } : Oper)) (v := ?_) rfl (by kernel_rfl) (by kernel_rfl) (by kernel_rfl) (fun _ _ _ h => h) (Or.inl ⟨by rfl, ?_⟩) (by assumption) ?_
                rotate_left
                · intro w' hSw; (try dsimp only at hSw); go_simp <;> (try with_reducible rfl)
                (try simp only [Act.put, List.setIfInBounds_toArray, List.set_cons_zero, List.set_cons_succ])
                refine wpAnyH_take (i := 12) (oi := ({ dst := some 114, op := Op.fieldAddr _ (Operand.tmp 9) 3, type := _, pos := _, after := _, guard := some (11, true) } : Oper)) (v := undef) rfl (by kernel_rfl) (by kernel_rfl) (by kernel_rfl) (fun _ _ _ h => h) (Or.inr ⟨by kernel_rfl, rfl⟩) (by assumption) ?_
                (try simp only [Act.put, List.setIfInBounds_toArray, List.set_cons_zero, List.set_cons_succ])
                refine wpAnyH_take (i := 13) (oi := ({ dst := some 115, op := Op.load _ (Operand.tmp 114), type := _, pos := _, after := _, guard := some (11, true) } : Oper)) (v := undef) rfl (by kernel_rfl) (by kernel_rfl) (by kernel_rfl) (fun _ _ _ h => h) (Or.inr ⟨by kernel_rfl, rfl⟩) (by assumption) ?_
                (try simp only [Act.put, List.setIfInBounds_toArray, List.set_cons_zero, List.set_cons_succ])
                refine wpAnyH_take (i := 14) (oi := ({ dst := some 116, op := Op.move (Operand.tmp 19), type := _, pos := _, after := _, guard := some (11, true) } : Oper)) (v := undef) rfl (by kernel_rfl) (by kernel_rfl) (by kernel_rfl) (fun _ _ _ h => h) (Or.inr ⟨by kernel_rfl, rfl⟩) (by assumption) ?_
                (try simp only [Act.put, List.setIfInBounds_toArray, List.set_cons_zero, List.set_cons_succ])
                refine wpAnyH_take (i := 15) (oi := ({ dst := some 117, op := Op.indexAddr _ (Operand.tmp 115) (Operand.tmp 116), type := _, pos := _, after := _, guard := some (11, true) } : Oper)) (v := undef) rfl (by kernel_rfl) (by kernel_rfl) (by kernel_rfl) (fun _ _ _ h => h) (Or.inr ⟨by kernel_rfl, rfl⟩) (by assumption) ?_
                (try simp only [Act.put, List.setIfInBounds_toArray, List.set_cons_zero, List.set_cons_succ])
                refine wpAnyH_take (i := 16) (oi := ({ dst := some 118, op := Op.load _ (Operand.tmp 117), type := _, pos := _, after := _, guard := some (11, true) } : Oper)) (v := undef) rfl (by kernel_rfl) (by kernel_rfl) (by kernel_rfl) (fun _ _ _ h => h) (Or.inr ⟨by kernel_rfl, rfl⟩) (by assumption) ?_
                (try simp only [Act.put, List.setIfInBounds_toArray, List.set_cons_zero, List.set_cons_succ])
                refine wpAnyH_take (i := 17) (oi := ({ dst := some 119, op := Op.call { callee := Callee.value (Operand.func _), args := #[Operand.tmp 118], argTypes := _ }, type := _, pos := _, after := _, guard := some (11, true) } : Oper)) (v := undef) rfl (by kernel_rfl) (by kernel_rfl) (by kernel_rfl) (fun _ _ _ h => h) (Or.inr ⟨by kernel_rfl, rfl⟩) (by assumption) ?_
                (try simp only [Act.put, List.setIfInBounds_toArray, List.set_cons_zero, List.set_cons_succ])
                refine wpAnyH_take (i := 18) (oi := ({ dst := some 120, op := Op.binOp BinOp.neq _ (Operand.tmp 119) (Operand.const (Value.int IntKind.u64 0)) _, type := _, pos := _, after := _, guard := some (11, true) } : Oper)) (v := undef) rfl (by kernel_rfl) (by kernel_rfl) (by kernel_rfl) (fun _ _ _ h => h) (Or.inr ⟨by kernel_rfl, rfl⟩) (by assumption) ?_
                (try simp only [Act.put, List.setIfInBounds_toArray, List.set_cons_zero, List.set_cons_succ])
                refine wpAnyH_take (i := 19) (oi := ({ dst := some 121, op := Op.pick (Operand.tmp 113) (Operand.tmp 120) (Operand.const (Value.bool false)), type := _, pos := _, after := _, guard := none } : Oper)) (v := ?_) rfl (by kernel_rfl) (by kernel_rfl) (by kernel_rfl) (fun _ _ _ h => h) (Or.inl ⟨by rfl, ?_⟩) (by assumption) ?_
                rotate_left
                · intro w' hSw; (try dsimp only at hSw); go_simp <;> (try with_reducible rfl)
                (try simp only [Act.put, List.setIfInBounds_toArray, List.set_cons_zero, List.set_cons_succ])
                refine wpAnyH_take (i := 20) (oi := ({ dst := some 122, op := Op.move (Operand.tmp 121), type := _, pos := _, after := _, guard := none } : Oper)) (v := ?_) rfl (by kernel_rfl) (by kernel_rfl) (by kernel_rfl) (fun _ _ _ h => h) (Or.inl ⟨by rfl, ?_⟩) (by assumption) ?_
                rotate_left
                · intro w' hSw; (try dsimp only at hSw); go_simp <;> (try with_reducible rfl)
                (try simp only [Act.put, List.setIfInBounds_toArray, List.set_cons_zero, List.set_cons_succ])
                refine wpAnyH_take (i := 21) (oi := ({ dst := some 123, op := Op.fieldAddr _ (Operand.tmp 13) 3, type := _, pos := _, after := _, guard := some (20, false) } : Oper)) (v := ?_) rfl (by kernel_rfl) (by kernel_rfl) (by kernel_rfl) (fun _ _ _ h => h) (Or.inl ⟨by rfl, ?_⟩) (by assumption) ?_
                rotate_left
                · intro w' hSw; (try dsimp only at hSw); go_simp <;> (try with_reducible rfl)
                (try simp only [Act.put, List.setIfInBounds_toArray, List.set_cons_zero, List.set_cons_succ])
                refine wpAnyH_take (i := 22) (oi := ({ dst := some 124, op := Op.load _ (Operand.tmp 123), type := _, pos := _, after := _, guard := some (20, false) } : Oper)) (v := ?_) rfl (by kernel_rfl) (by kernel_rfl) (by kernel_rfl) (fun _ _ _ h => h) (Or.inl ⟨by rfl, ?_⟩) (by assumption) ?_
                rotate_left
                · intro w' hSw; (try dsimp only at hSw); go_simp <;> (try with_reducible rfl)
                (try simp only [Act.put, List.setIfInBounds_toArray, List.set_cons_zero, List.set_cons_succ])
                refine wpAnyH_take (i := 23) (oi := ({ dst := some 125, op := Op.move (Operand.tmp 19), type := _, pos := _, after := _, guard := some (20, false) } : Oper)) (v := ?_) rfl (by kernel_rfl) (by kernel_rfl) (by kernel_rfl) (fun _ _ _ h => h) (Or.inl ⟨by rfl, ?_⟩) (by assumption) ?_
                rotate_left
                · intro w' hSw; (try dsimp only at hSw); go_simp <;> (try with_reducible rfl)
                (try simp only [Act.put, List.setIfInBounds_toArray, List.set_cons_zero, List.set_cons_succ])
                refine wpAnyH_take (i := 24) (oi := ({ dst := some 126, op := Op.indexAddr _ (Operand.tmp 124) (Operand.tmp 125), type := _, pos := _, after := _, guard := some (20, false) } : Oper)) (v := ?_) rfl (by kernel_rfl) (by kernel_rfl) (by kernel_rfl) (fun _ _ _ h => h) (Or.inl ⟨by rfl, ?_⟩) (by assumption) ?_
                rotate_left
                · intro w' hSw; (try dsimp only at hSw); go_simp <;> (try with_reducible rfl)
                (try simp only [Act.put, List.setIfInBounds_toArray, List.set_cons_zero, List.set_cons_succ])
                refine wpAnyH_take (i := 25) (oi := ({ dst := some 127, op := Op.load _ (Operand.tmp 126), type := _, pos := _, after := _, guard := some (20, false) } : Oper)) (v := ?_) rfl (by kernel_rfl) (by kernel_rfl) (by kernel_rfl) (fun _ _ _ h => h) (Or.inl ⟨by rfl, ?_⟩) (by assumption) ?_
                rotate_left
                · intro w' hSw; (try dsimp only at hSw); go_simp <;> (try with_reducible rfl)
                (try simp only [Act.put, List.setIfInBounds_toArray, List.set_cons_zero, List.set_cons_succ])
                refine wpAnyH_take (i := 26) (oi := ({ dst := some 128, op := Op.fieldAddr _ (Operand.tmp 9) 3, type := _, pos := _, after := _, guard := some (20, false) } : Oper)) (v := ?_) rfl (by kernel_rfl) (by kernel_rfl) (by kernel_rfl) (fun _ _ _ h => h) (Or.inl ⟨by rfl, ?_⟩) (by assumption) ?_
                rotate_left
                · intro w' hSw; (try dsimp only at hSw); go_simp <;> (try with_reducible rfl)
                (try simp only [Act.put, List.setIfInBounds_toArray, List.set_cons_zero, List.set_cons_succ])
                refine wpAnyH_take (i := 27) (oi := ({ dst := some 129, op := Op.load _ (Operand.tmp 128), type := _, pos := _, after := _, guard := some (20, false) } : Oper)) (v := ?_) rfl (by kernel_rfl) (by kernel_rfl) (by kernel_rfl) (fun _ _ _ h => h) (Or.inl ⟨by rfl, ?_⟩) (by assumption) ?_
                rotate_left
                · intro w' hSw; (try dsimp only at hSw); go_simp <;> (try with_reducible rfl)
                (try simp only [Act.put, List.setIfInBounds_toArray, List.set_cons_zero, List.set_cons_succ])
                refine wpAnyH_take (i := 28) (oi := ({ dst := some 130, op := Op.move (Operand.tmp 19), type := _, pos := _, after := _, guard := some (20, false) } : Oper)) (v := ?_) rfl (by kernel_rfl) (by kernel_rfl) (by kernel_rfl) (fun _ _ _ h => h) (Or.inl ⟨by rfl, ?_⟩) (by assumption) ?_
                rotate_left
                · intro w' hSw; (try dsimp only at hSw); go_simp <;> (try with_reducible rfl)
                (try simp only [Act.put, List.setIfInBounds_toArray, List.set_cons_zero, List.set_cons_succ])
                refine wpAnyH_take (i := 29) (oi := ({ dst := some 131, op := Op.indexAddr _ (Operand.tmp 129) (Operand.tmp 130), type := _, pos := _, after := _, guard := some (20, false) } : Oper)) (v := ?_) rfl (by kernel_rfl) (by kernel_rfl) (by kernel_rfl) (fun _ _ _ h => h) (Or.inl ⟨by rfl, ?_⟩) (by assumption) ?_
                rotate_left
                · intro w' hSw; (try dsimp only at hSw); go_simp <;> (try with_reducible rfl)
                (try simp only [Act.put, List.setIfInBounds_toArray, List.set_cons_zero, List.set_cons_succ])
                refine wpAnyH_take (i := 30) (oi := ({ dst := some 132, op := Op.load _ (Operand.tmp 131), type := _, pos := _, after := _, guard := some (20, false) } : Oper)) (v := ?_) rfl (by kernel_rfl) (by kernel_rfl) (by kernel_rfl) (fun _ _ _ h => h) (Or.inl ⟨by rfl, ?_⟩) (by assumption) ?_
                rotate_left
                · intro w' hSw; (try dsimp only at hSw); go_simp <;> (try with_reducible rfl)
                (try simp only [Act.put, List.setIfInBounds_toArray, List.set_cons_zero, List.set_cons_succ])
                refine wpAnyH_take (i := 31) (oi := ({ dst := some 133, op := Op.binOp BinOp.neq _ (Operand.tmp 127) (Operand.tmp 132) _, type := _, pos := _, after := _, guard := some (20, false) } : Oper)) (v := ?_) rfl (by kernel_rfl) (by kernel_rfl) (by kernel_rfl) (fun _ _ _ h => h) (Or.inl ⟨by rfl, ?_⟩) (by assumption) ?_
                rotate_left
                · intro w' hSw; (try dsimp only at hSw); go_simp <;> (try with_reducible rfl)
                (try simp only [Act.put, List.setIfInBounds_toArray, List.set_cons_zero, List.set_cons_succ])
                refine wpAnyH_take (i := 32) (oi := ({ dst := some 134, op := Op.move (Operand.tmp 133), type := _, pos := _, after := _, guard := some (20, false) } : Oper)) (v := ?_) rfl (by kernel_rfl) (by kernel_rfl) (by kernel_rfl) (fun _ _ _ h => h) (Or.inl ⟨by rfl, ?_⟩) (by assumption) ?_
                rotate_left
                · intro w' hSw; (try dsimp only at hSw); go_simp <;> (try with_reducible rfl)
                (try simp only [Act.put, List.setIfInBounds_toArray, List.set_cons_zero, List.set_cons_succ])
                refine wpAnyH_take (i := 33) (oi := ({ dst := some 135, op := Op.fieldAddr _ (Operand.tmp 9) 3, type := _, pos := _, after := _, guard := some (32, true) } : Oper)) (v := ?_) rfl (by kernel_rfl) (by kernel_rfl) (by kernel_rfl) (fun _ _ _ h => h) (Or.inl ⟨by rfl, ?_⟩) (by assumption) ?_
                rotate_left
                · intro w' hSw; (try dsimp only at hSw); go_simp <;> (try with_reducible rfl)
                (try simp only [Act.put, List.setIfInBounds_toArray, List.set_cons_zero, List.set_cons_succ])
                refine wpAnyH_take (i := 34) (oi := ({ dst := some 136, op := Op.load _ (Operand.tmp 135), type := _, pos := _, after := _, guard := some (32, true) } : Oper)) (v := ?_) rfl (by kernel_rfl) (by kernel_rfl) (by kernel_rfl) (fun _ _ _ h => h) (Or.inl ⟨by rfl, ?_⟩) (by assumption) ?_
                rotate_left
                · intro w' hSw; (try dsimp only at hSw); go_simp <;> (try with_reducible rfl)
                (try simp only [Act.put, List.setIfInBounds_toArray, List.set_cons_zero, List.set_cons_succ])
                refine wpAnyH_take (i := 35) (oi := ({ dst := some 137, op := Op.move (Operand.tmp 19), type := _, pos := _, after := _, guard := some (32, true) } : Oper)) (v := ?_) rfl (by kernel_rfl) (by kernel_rfl) (by kernel_rfl) (fun _ _ _ h => h) (Or.inl ⟨by rfl, ?_⟩) (by assumption) ?_
                rotate_left
                · intro w' hSw; (try dsimp only at hSw); go_simp <;> (try with_reducible rfl)
                (try simp only [Act.put, List.setIfInBounds_toArray, List.set_cons_zero, List.set_cons_succ])
                refine wpAnyH_take (i := 36) (oi := ({ dst := some 138, op := Op.indexAddr _ (Operand.tmp 136) (Operand.tmp 137), type := _, pos := _, after := _, guard := some (32, true) } : Oper)) (v := ?_) rfl (by kernel_rfl) (by kernel_rfl) (by kernel_rfl) (fun _ _ _ h => h) (Or.inl ⟨by rfl, ?_⟩) (by assumption) ?_
                rotate_left
                · intro w' hSw; (try dsimp only at hSw); go_simp <;> (try with_reducible rfl)
                (try simp only [Act.put, List.setIfInBounds_toArray, List.set_cons_zero, List.set_cons_succ])
                refine wpAnyH_take (i := 37) (oi := ({ dst := some 139, op := Op.load _ (Operand.tmp 138), type := _, pos := _, after := _, guard := some (32, true) } : Oper)) (v := ?_) rfl (by kernel_rfl) (by kernel_rfl) (by kernel_rfl) (fun _ _ _ h => h) (Or.inl ⟨by rfl, ?_⟩) (by assumption) ?_
                rotate_left
                · intro w' hSw; (try dsimp only at hSw); go_simp <;> (try with_reducible rfl)
                (try simp only [Act.put, List.setIfInBounds_toArray, List.set_cons_zero, List.set_cons_succ])
                refine wpAnyH_ready (rs := [38]) (by kernel_rfl) (by simp) ?_
                refine AllReadyH.cons (o := ({ dst := some 140, op := Op.call { callee := Callee.value (Operand.func _), args := #[Operand.tmp 139], argTypes := _ }, type := _, pos := _, after := _, guard := some (32, true) } : Oper)) rfl (fun K hK => ?_) AllReadyH.nil
                go_simp
                refine (abs_any a _ x0 x1).mono ?_
                rintro e w' ⟨rfl, hw⟩
                have hw2 := hw.symm
                clear hw
                subst hw2
                rw [HMX.out]
                (try go_wp2_with fail)
                refine hK.out _ _ ?_ (fun hHeld => ?_)
                · (try dsimp only); exact hHeld
                clear hK K
                (try simp only [Act.put, List.setIfInBounds_toArray, List.set_cons_zero, List.set_cons_succ])
                refine wpAnyH_take (i := 39) (oi := ({ dst := some 141, op := Op.binOp BinOp.neq _ (Operand.tmp 140) (Operand.const (Value.int IntKind.u64 0)) _, type := _, pos := _, after := _, guard := some (32, true) } : Oper)) (v := ?_) rfl (by kernel_rfl) (by kernel_rfl) (by kernel_rfl) (fun _ _ _ h => h) (Or.inl ⟨by rfl, ?_⟩) (by assumption) ?_
                rotate_left
                · intro w' hSw; (try dsimp only at hSw); go_simp <;> (try with_reducible rfl)
                (try simp only [Act.put, List.setIfInBounds_toArray, List.set_cons_zero, List.set_cons_succ])
                refine wpAnyH_take (i := 40) (oi := ({ dst := some 142, op := Op.pick (Operand.tmp 134) (Operand.tmp 141) (Operand.const (Value.bool false)), type := _, pos := _, after := _, guard := some (20, false) } : Oper)) (v := ?_) rfl (by kernel_rfl) (by kernel_rfl) (by kernel_rfl) (fun _ _ _ h => h) (Or.inl ⟨by rfl, ?_⟩) (by assumption) ?_
                rotate_left
                · intro w' hSw; (try dsimp only at hSw); go_simp <;> (try with_reducible rfl)
                (try simp only [Act.put, List.setIfInBounds_toArray, List.set_cons_zero, List.set_cons_succ])
                refine wpAnyH_take (i := 41) (oi := ({ dst := some 143, op := Op.pick (Operand.tmp 122) (Operand.const (Value.bool true)) (Operand.tmp 142), type := _, pos := _, after := _, guard := none } : Oper)) (v := ?_) rfl (by kernel_rfl) (by kernel_rfl) (by kernel_rfl) (fun _ _ _ h => h) (Or.inl ⟨by rfl, ?_⟩) (by assumption) ?_
                rotate_left
                · intro w' hSw; (try dsimp only at hSw); go_simp <;> (try with_reducible rfl)
                (try simp only [Act.put, List.setIfInBounds_toArray, List.set_cons_zero, List.set_cons_succ])
                refine wpAnyH_take (i := 42) (oi := ({ dst := some 144, op := Op.move (Operand.tmp 143), type := _, pos := _, after := _, guard := none } : Oper)) (v := ?_) rfl (by kernel_rfl) (by kernel_rfl) (by kernel_rfl) (fun _ _ _ h => h) (Or.inl ⟨by rfl, ?_⟩) (by assumption) ?_
                rotate_left
                · intro w' hSw; (try dsimp only at hSw); go_simp <;> (try with_reducible rfl)
                (try simp only [Act.put, List.setIfInBounds_toArray, List.set_cons_zero, List.set_cons_succ])
                refine wpAnyH_take (i := 43) (oi := ({ dst := some 145, op := Op.fieldAddr _ (Operand.tmp 11) 3, type := _, pos := _, after := _, guard := some (42, false) } : Oper)) (v := ?_) rfl (by kernel_rfl) (by kernel_rfl) (by kernel_rfl) (fun _ _ _ h => h) (Or.inl ⟨by rfl, ?_⟩) (by assumption) ?_
                rotate_left
                · intro w' hSw; (try dsimp only at hSw); go_simp <;> (try with_reducible rfl)
                (try simp only [Act.put, List.setIfInBounds_toArray, List.set_cons_zero, List.set_cons_succ])
                refine wpAnyH_take (i := 44) (oi := ({ dst := some 146, op := Op.load _ (Operand.tmp 145), type := _, pos := _, after := _, guard := some (42, false) } : Oper)) (v := ?_) rfl (by kernel_rfl) (by kernel_rfl) (by kernel_rfl) (fun _ _ _ h => h) (Or.inl ⟨by rfl, ?_⟩) (by assumption) ?_
                rotate_left
                · intro w' hSw; (try dsimp only at hSw); go_simp <;> (try with_reducible rfl)
                (try simp only [Act.put, List.setIfInBounds_toArray, List.set_cons_zero, List.set_cons_succ])
                refine wpAnyH_take (i := 45) (oi := ({ dst := some 147, op := Op.move (Operand.tmp 19), type := _, pos := _, after := _, guard := some (42, false) } : Oper)) (v := ?_) rfl (by kernel_rfl) (by kernel_rfl) (by kernel_rfl) (fun _ _ _ h => h) (Or.inl ⟨by rfl, ?_⟩) (by assumption) ?_
                rotate_left
                · intro w' hSw; (try dsimp only at hSw); go_simp <;> (try with_reducible rfl)
                (try simp only [Act.put, List.setIfInBounds_toArray, List.set_cons_zero, List.set_cons_succ])
                refine wpAnyH_take (i := 46) (oi := ({ dst := some 148, op := Op.indexAddr _ (Operand.tmp 146) (Operand.tmp 147), type := _, pos := _, after := _, guard := some (42, false) } : Oper)) (v := ?_) rfl (by kernel_rfl) (by kernel_rfl) (by kernel_rfl) (fun _ _ _ h => h) (Or.inl ⟨by rfl, ?_⟩) (by assumption) ?_
                rotate_left
                · intro w' hSw; (try dsimp only at hSw); go_simp <;> (try with_reducible rfl)
                (try simp only [Act.put, List.setIfInBounds_toArray, List.set_cons_zero, List.set_cons_succ])
                refine wpAnyH_take (i := 47) (oi := ({ dst := some 149, op := Op.load _ (Operand.tmp 148), type := _, pos := _, after := _, guard := some (42, false) } : Oper)) (v := ?_) rfl (by kernel_rfl) (by kernel_rfl) (by kernel_rfl) (fun _ _ _ h => h) (Or.inl ⟨by rfl, ?_⟩) (by assumption) ?_
                rotate_left
                · intro w' hSw; (try dsimp only at hSw); go_simp <;> (try with_reducible rfl)
                (try simp only [Act.put, List.setIfInBounds_toArray, List.set_cons_zero, List.set_cons_succ])
                refine wpAnyH_take (i := 49) (oi := ({ dst := some 151, op := Op.fieldAddr _ (Operand.tmp 9) 3, type := _, pos := _, after := _, guard := some (42, false) } : Oper)) (v := ?_) rfl (by kernel_rfl) (by kernel_rfl) (by kernel_rfl) (fun _ _ _ h => h) (Or.inl ⟨by rfl, ?_⟩) (by assumption) ?_
                rotate_left
                · intro w' hSw; (try dsimp only at hSw); go_simp <;> (try with_reducible rfl)
                (try simp only [Act.put, List.setIfInBounds_toArray, List.set_cons_zero, List.set_cons_succ])
                refine wpAnyH_take (i := 50) (oi := ({ dst := some 152, op := Op.load _ (Operand.tmp 151), type := _, pos := _, after := _, guard := some (42, false) } : Oper)) (v := ?_) rfl (by kernel_rfl) (by kernel_rfl) (by kernel_rfl) (fun _ _ _ h => h) (Or.inl ⟨by rfl, ?_⟩) (by assumption) ?_
                rotate_left
                · intro w' hSw; (try dsimp only at hSw); go_simp <;> (try with_reducible rfl)
                (try simp only [Act.put, List.setIfInBounds_toArray, List.set_cons_zero, List.set_cons_succ])
                refine wpAnyH_take (i := 51) (oi := ({ dst := some 153, op := Op.move (Operand.tmp 19), type := _, pos := _, after := _, guard := some (42, false) } : Oper)) (v := ?_) rfl (by kernel_rfl) (by kernel_rfl) (by kernel_rfl) (fun _ _ _ h => h) (Or.inl ⟨by rfl, ?_⟩) (by assumption) ?_
                rotate_left
                · intro w' hSw; (try dsimp only at hSw); go_simp <;> (try with_reducible rfl)
                (try simp only [Act.put, List.setIfInBounds_toArray, List.set_cons_zero, List.set_cons_succ])
                refine wpAnyH_take (i := 52) (oi := ({ dst := some 154, op := Op.indexAddr _ (Operand.tmp 152) (Operand.tmp 153), type := _, pos := _, after := _, guard := some (42, false) } : Oper)) (v := ?_) rfl (by kernel_rfl) (by kernel_rfl) (by kernel_rfl) (fun _ _ _ h => h) (Or.inl ⟨by rfl, ?_⟩) (by assumption) ?_
                rotate_left
                · intro w' hSw; (try dsimp only at hSw); go_simp <;> (try with_reducible rfl)
                (try simp only [Act.put, List.setIfInBounds_toArray, List.set_cons_zero, List.set_cons_succ])
                refine wpAnyH_take (i := 53) (oi := ({ dst := some 155, op := Op.load _ (Operand.tmp 154), type := _, pos := _, after := _, guard := some (42, false) } : Oper)) (v := ?_) rfl (by kernel_rfl) (by kernel_rfl) (by kernel_rfl) (fun _ _ _ h => h) (Or.inl ⟨by rfl, ?_⟩) (by assumption) ?_
                rotate_left
                · intro w' hSw; (try dsimp only at hSw); go_simp <;> (try with_reducible rfl)
                (try simp only [Act.put, List.setIfInBounds_toArray, List.set_cons_zero, List.set_cons_succ])
                refine wpAnyH_ready (rs := [48]) (by kernel_rfl) (by simp) ?_
                refine AllReadyH.cons (o := ({ dst := some 150, op := Op.call { callee := Callee.value (Operand.func _), args := #[Operand.tmp 149], argTypes := _ }, type := _, pos := _, after := _, guard := some (42, false) } : Oper)) rfl (fun K hK => ?_) AllReadyH.nil
                go_simp
                refine (abs_any a _ x0 x1).mono ?_
                rintro e w' ⟨rfl, hw⟩
                have hw2 := hw.symm
                clear hw
                subst hw2
                rw [HML.out]
                (try go_wp2_with fail)
                refine hK.out _ _ ?_ (fun hHeld => ?_)
                · (try dsimp only); exact hHeld
                clear hK K
                (try simp only [Act.put, List.setIfInBounds_toArray, List.set_cons_zero, List.set_cons_succ])
                refine wpAnyH_ready (rs := [54]) (by kernel_rfl) (by simp) ?_
                refine AllReadyH.cons (o := ({ dst := some 156, op := Op.call { callee := Callee.value (Operand.func _), args := #[Operand.tmp 155], argTypes := _ }, type := _, pos := _, after := _, guard := some (42, false) } : Oper)) rfl (fun K hK => ?_) AllReadyH.nil
                go_simp
                refine (abs_any a _ x0 x1).mono ?_
                rintro e w' ⟨rfl, hw⟩
                have hw2 := hw.symm
                clear hw
                subst hw2
                rw [HMX.out]
                (try go_wp2_with fail)
                refine hK.out _ _ ?_ (fun hHeld => ?_)
                · (try dsimp only); exact hHeld
                clear hK K
                (try simp only [Act.put, List.setIfInBounds_toArray, List.set_cons_zero, List.set_cons_succ])
                refine wpAnyH_take (i := 55) (oi := ({ dst := some 157, op := Op.binOp BinOp.neq _ (Operand.tmp 150) (Operand.tmp 156) _, type := _, pos := _, after := _, guard := some (42, false) } : Oper)) (v := ?_) rfl (by kernel_rfl) (by kernel_rfl) (by kernel_rfl) (fun _ _ _ h => h) (Or.inl ⟨by rfl, ?_⟩) (by assumption) ?_
                rotate_left
                · intro w' hSw; (try dsimp only at hSw); go_simp <;> (try with_reducible rfl)
                (try simp only [Act.put, List.setIfInBounds_toArray, List.set_cons_zero, List.set_cons_succ])
                refine wpAnyH_take (i := 56) (oi := ({ dst := some 158, op := Op.pick (Operand.tmp 144) (Operand.const (Value.bool true)) (Operand.tmp 157), type := _, pos := _, after := _, guard := none } : Oper)) (v := ?_) rfl (by kernel_rfl) (by kernel_rfl) (by kernel_rfl) (fun _ _ _ h => h) (Or.inl ⟨by rfl, ?_⟩) (by assumption) ?_
                rotate_left
                · intro w' hSw; (try dsimp only at hSw); go_simp <;> (try with_reducible rfl)
                (try simp only [Act.put, List.setIfInBounds_toArray, List.set_cons_zero, List.set_cons_succ])
                refine wpAnyH_done (by kernel_rfl) ?_ _
                refine NoPanic.normal ?_
                clear X_0 X_1 X_2 X_3 X_4 L_0 L_1 L_2 L_3 L_4 S_0 S_1 S_2 S_3 S_4
                have hb_ : Below w11_.heap.size w11_ w11_.drew := (Below.refl _ _).drew
                generalize w11_.drew = w200_ at hb_ ⊢
                replace BW : Hid (Below _ _ _) := bstep BW.out hb_
                replace UX : Hid (URow _ _ _ _ _) := UX.out.below hb_
                replace X : Hid (MBox _ _ _ _ _ _) := X.out.below hb_
                replace L : Hid (MBox _ _ _ _ _ _) := L.out.below hb_
                replace UL : Hid (URow _ _ _ _ _) := UL.out.below hb_
                replace S : Hid (MBox _ _ _ _ _ _) := S.out.below hb_
                replace US : Hid (URow _ _ _ _ _) := US.out.below hb_
                clear hb_ hHeld
                go_wp2
                go_roundw
                case rel => exact ⟨i + 1, by go_num, by omega, BW, UX, X, L, UL, S, US⟩
                case measure => simp [intOf]; omega
            · as_aux_lemma =>
                subst ez
                subst xa
                refine wp_region_noPanic ?_
                refine wp_region_held_drew (S := (fun w' => (w'.cell? ⟨k_L, 3, none⟩ = some (.slice (some ⟨gL, 0, none⟩) PQ PQ)) ∧ (w'.cell? ⟨k_S, 3, none⟩ = some (.slice (some ⟨gS, 0, none⟩) PQ PQ)) ∧ (w'.cell? ⟨k_X, 3, none⟩ = some (.slice (some ⟨gX, 0, none⟩) PQ PQ)) ∧ (w'.cell? ⟨gL, i, none⟩ = some (.int .u64 a)) ∧ (w'.cell? ⟨gS, i, none⟩ = some (.int .u64 z)) ∧ (w'.cell? ⟨gX, i, none⟩ = some (.int .u64 z)))) (by kernel_rfl) ⟨L_3, S_3, X_3, q1, q2, q3⟩ (fun hHeld => ?_)
                refine wpAnyH_take (i := 0) (oi := ({ dst := some 102, op := Op.fieldAddr _ (Operand.tmp 11) 3, type := _, pos := _, after := _, guard := none } : Oper)) (v := ?_) rfl (by kernel_rfl) (by kernel_rfl) (by kernel_rfl) (fun _ _ _ h => h) (Or.inl ⟨by rfl, ?_⟩) (by assumption) ?_
                rotate_left
                · intro w' hSw; (try dsimp only at hSw); go_simp <;> (try with_reducible rfl)
                (try simp only [Act.put, List.setIfInBounds_toArray, List.set_cons_zero, List.set_cons_succ])
                refine wpAnyH_take (i := 1) (oi := ({ dst := some 103, op := Op.load _ (Operand.tmp 102), type := _, pos := _, after := _, guard := none } : Oper)) (v := ?_) rfl (by kernel_rfl) (by kernel_rfl) (by kernel_rfl) (fun _ _ _ h => h) (Or.inl ⟨by rfl, ?_⟩) (by assumption) ?_
                rotate_left
                · intro w' hSw; (try dsimp only at hSw); go_simp <;> (try with_reducible rfl)
                (try simp only [Act.put, List.setIfInBounds_toArray, List.set_cons_zero, List.set_cons_succ])
                refine wpAnyH_take (i := 2) (oi := ({ dst := some 104, op := Op.move (Operand.tmp 19), type := _, pos := _, after := _, guard := none } : Oper)) (v := ?_) rfl (by kernel_rfl) (by kernel_rfl) (by kernel_rfl) (fun _ _ _ h => h) (Or.inl ⟨by rfl, ?_⟩) (by assumption) ?_
                rotate_left
                · intro w' hSw; (try dsimp only at hSw); go_simp <;> (try with_reducible rfl)
                (try simp only [Act.put, List.setIfInBounds_toArray, List.set_cons_zero, List.set_cons_succ])
                refine wpAnyH_take (i := 3) (oi := ({ dst := some 105, op := Op.indexAddr _ (Operand.tmp 103) (Operand.tmp 104), type := _, pos := _, after := _, guard := none } : Oper)) (v := ?_) rfl (by kernel_rfl) (by kernel_rfl) (by kernel_rfl) (fun _ _ _ h => h) (Or.inl ⟨by rfl, ?_⟩) (by assumption) ?_
                rotate_left
                · intro w' hSw; (try dsimp only at hSw); go_simp <;> (try with_reducible rfl)
                (try simp only [Act.put, List.setIfInBounds_toArray, List.set_cons_zero, List.set_cons_succ])
                refine wpAnyH_take (i := 4) (oi := ({ dst := some 106, op := Op.load _ (Operand.tmp 105), type := _, pos := _, after := _, guard := none } : Oper)) (v := ?_) rfl (by kernel_rfl) (by kernel_rfl) (by kernel_rfl) (fun _ _ _ h => h) (Or.inl ⟨by rfl, ?_⟩) (by assumption) ?_
                rotate_left
                · intro w' hSw; (try dsimp only at hSw); go_simp <;> (try with_reducible rfl)
                (try simp only [Act.put, List.setIfInBounds_toArray, List.set_cons_zero, List.set_cons_succ])
                refine wpAnyH_take (i := 5) (oi := ({ dst := some 107, op := Op.fieldAddr _ (Operand.tmp 9) 3, type := _, pos := _, after := _, guard := none } : Oper)) (v := ?_) rfl (by kernel_rfl) (by kernel_rfl) (by kernel_rfl) (fun _ _ _ h => h) (Or.inl ⟨by rfl, ?_⟩) (by assumption) ?_
                rotate_left
                · intro w' hSw; (try dsimp only at hSw); go_simp <;> (try with_reducible rfl)
                (try simp only [Act.put, List.setIfInBounds_toArray, List.set_cons_zero, List.set_cons_succ])
                refine wpAnyH_take (i := 6) (oi := ({ dst := some 108, op := Op.load _ (Operand.tmp 107), type := _, pos := _, after := _, guard := none } : Oper)) (v := ?_) rfl (by kernel_rfl) (by kernel_rfl) (by kernel_rfl) (fun _ _ _ h => h) (Or.inl ⟨by rfl, ?_⟩) (by assumption) ?_
                rotate_left
                · intro w' hSw; (try dsimp only at hSw); go_simp <;> (try with_reducible rfl)
                (try simp only [Act.put, List.setIfInBounds_toArray, List.set_cons_zero, List.set_cons_succ])
                refine wpAnyH_take (i := 7) (oi := ({ dst := some 109, op := Op.move (Operand.tmp 19), type := _, pos := _, after := _, guard := none } : Oper)) (v := ?_) rfl (by kernel_rfl) (by kernel_rfl) (by kernel_rfl) (fun _ _ _ h => h) (Or.inl ⟨by rfl, ?_⟩) (by assumption) ?_
                rotate_left
                · intro w' hSw; (try dsimp only at hSw); go_simp <;> (try with_reducible rfl)
                (try simp only [Act.put, List.setIfInBounds_toArray, List.set_cons_zero, List.set_cons_succ])
                refine wpAnyH_take (i := 8) (oi := ({ dst := some 110, op := Op.indexAddr _ (Operand.tmp 108) (Operand.tmp 109), type := _, pos := _, after := _, guard := none } : Oper)) (v := ?_) rfl (by kernel_rfl) (by kernel_rfl) (by kernel_rfl) (fun _ _ _ h => h) (Or.inl ⟨by rfl, ?_⟩) (by assumption) ?_
                rotate_left
                · intro w' hSw; (try dsimp only at hSw); go_simp <;> (try with_reducible rfl)
                (try simp only [Act.put, List.setIfInBounds_toArray, List.set_cons_zero, List.set_cons_succ])
                refine wpAnyH_take (i := 9) (oi := ({ dst := some 111, op := Op.load _ (Operand.tmp 110), type := _, pos := _, after := _, guard := none } : Oper)) (v := ?_) rfl (by kernel_rfl) (by kernel_rfl) (by kernel_rfl) (fun _ _ _ h => h) (Or.inl ⟨by rfl, ?_⟩) (by assumption) ?_
                rotate_left
                · intro w' hSw; (try dsimp only at hSw); go_simp <;> (try with_reducible rfl)
                (try simp only [Act.put, List.setIfInBounds_toArray, List.set_cons_zero, List.set_cons_succ])
                refine wpAnyH_take (i := 10) (oi := ({ dst := some 112, op := Op.binOp BinOp.neq _ (Operand.tmp 106) (Operand.tmp 111) _, type := _, pos := _, after := _, guard := none } : Oper)) (v := ?_) rfl (by kernel_rfl) (by kernel_rfl) (by kernel_rfl) (fun _ _ _ h => h) (Or.inl ⟨by rfl, ?_⟩) (by assumption) ?_
                rotate_left
                · intro w' hSw; (try dsimp only at hSw); go_simp <;> (try with_reducible rfl)
                (try simp only [Act.put, List.setIfInBounds_toArray, List.set_cons_zero, List.set_cons_succ])
                refine wpAnyH_take (i := 11) (oi := ({ dst := some 113, op := Op.move (Operand.tmp 112), type := _, pos := _, after := _, guard := none } : Oper)) (v := ?_) rfl (by kernel_rfl) (by kernel_rfl) (by kernel_rfl) (fun _ _ _ h => h) (Or.inl ⟨by rfl, ?_⟩) (by assumption) ?_
                rotate_left
                · intro w' hSw; (try dsimp only at hSw); go_simp <;> (try with_reducible rfl)
                (try simp only [Act.put, List.setIfInBounds_toArray, List.set_cons_zero, List.set_cons_succ])
                refine wpAnyH_take (i := 12) (oi := ({ dst := some 114, op := Op.fieldAddr _ (Operand.tmp 9) 3, type := _, pos := _, after := _, guard := some (11, true) } : Oper)) (v := ?_) rfl (by kernel_rfl) (by kernel_rfl) (by kernel_rfl) (fun _ _ _ h => h) (Or.inl ⟨by rfl, ?_⟩) (by assumption) ?_
                rotate_left
                · intro w' hSw; (try dsimp only at hSw); go_simp <;> (try with_reducible rfl)
                (try simp only [Act.put, List.setIfInBounds_toArray, List.set_cons_zero, List.set_cons_succ])
                refine wpAnyH_take (i := 13) (oi := ({ dst := some 115, op := Op.load _ (Operand.tmp 114), type := _, pos := _, after := _, guard := some (11, true) } : Oper)) (v := ?_) rfl (by kernel_rfl) (by kernel_rfl) (by kernel_rfl) (fun _ _ _ h => h) (Or.inl ⟨by rfl, ?_⟩) (by assumption) ?_
                rotate_left
                · intro w' hSw; (try dsimp only at hSw); go_simp <;> (try with_reducible rfl)
                (try simp only [Act.put, List.setIfInBounds_toArray, List.set_cons_zero, List.set_cons_succ])
                refine wpAnyH_take (i := 14) (oi := ({ dst := some 116, op := Op.move (Operand.tmp 19), type := _, pos := _, after := _, guard := some (11, true) } : Oper)) (v := ?_) rfl (by kernel_rfl) (by kernel_rfl) (by kernel_rfl) (fun _ _ _ h => h) (Or.inl ⟨by rfl, ?_⟩) (by assumption) ?_
                rotate_left
                · intro w' hSw; (try dsimp only at hSw); go_simp <;> (try with_reducible rfl)
                (try simp only [Act.put, List.setIfInBounds_toArray, List.set_cons_zero, List.set_cons_succ])
                refine wpAnyH_take (i := 15) (oi := ({ dst := some 117, op := Op.indexAddr _ (Operand.tmp 115) (Operand.tmp 116), type := _, pos := _, after := _, guard := some (11, true) } : Oper)) (v := ?_) rfl (by kernel_rfl) (by kernel_rfl) (by kernel_rfl) (fun _ _ _ h => h) (Or.inl ⟨by rfl, ?_⟩) (by assumption) ?_
                rotate_left
                · intro w' hSw; (try dsimp only at hSw); go_simp <;> (try with_reducible rfl)
                (try simp only [Act.put, List.setIfInBounds_toArray, List.set_cons_zero, List.set_cons_succ])
                refine wpAnyH_take (i := 16) (oi := ({ dst := some 118, op := Op.load _ (Operand.tmp 117), type := _, pos := _, after := _, guard := some (11, true) } : Oper)) (v := ?_) rfl (by kernel_rfl) (by kernel_rfl) (by kernel_rfl) (fun _ _ _ h => h) (Or.inl ⟨by rfl, ?_⟩) (by assumption) ?_
                rotate_left
                · intro w' hSw; (try dsimp only at hSw); go_simp <;> (try with_reducible rfl)
                (try simp only [Act.put, List.setIfInBounds_toArray, List.set_cons_zero, List.set_cons_succ])
                refine wpAnyH_ready (rs := [17]) (by kernel_rfl) (by simp) ?_
                refine AllReadyH.cons (o := ({ dst := some 119, op := Op.call { callee := Callee.value (Operand.func _), args := #[Operand.tmp 118], argTypes := _ }, type := _, pos := _, after := _, guard := some (11, true) } : Oper)) rfl (fun K hK => ?_) AllReadyH.nil
                go_simp
                refine (abs_any z _ x0 x1).mono ?_
                rintro e w' ⟨rfl, hw⟩
                have hw2 := hw.symm
                clear hw
                subst hw2
                rw [HMX.out]
                (try go_wp2_with fail)
                refine hK.out _ _ ?_ (fun hHeld => ?_)
                · (try dsimp only); exact hHeld
                clear hK K
                (try simp only [Act.put, List.setIfInBounds_toArray, List.set_cons_zero, List.set_cons_succ])
                refine wpAnyH_take (i := 18) (oi := ({ dst := some 120, op := Op.binOp BinOp.neq _ (Operand.tmp 119) (Operand.const (Value.int IntKind.u64 0)) _, type := _, pos := _, after := _, guard := some (11, true) } : Oper)) (v := ?_) rfl (by kernel_rfl) (by kernel_rfl) (by kernel_rfl) (fun _ _ _ h => h) (Or.inl ⟨by rfl, ?_⟩) (by assumption) ?_
                rotate_left
                · intro w' hSw; (try dsimp only at hSw); go_simp <;> (try with_reducible rfl)
                (try simp only [Act.put, List.setIfInBounds_toArray, List.set_cons_zero, List.set_cons_succ])
                refine wpAnyH_take (i := 19) (oi := ({ dst := some 121, op := Op.pick (Operand.tmp 113) (Operand.tmp 120) (Operand.const (Value.bool false)), type := _, pos := _, after := _, guard := none } : Oper)) (v := ?_) rfl (by kernel_rfl) (by kernel_rfl) (by kernel_rfl) (fun _ _ _ h => h) (Or.inl ⟨by rfl, ?_⟩) (by assumption) ?_
                rotate_left
                · intro w' hSw; (try dsimp only at hSw); go_simp <;> (try with_reducible rfl)
                (try simp only [Act.put, List.setIfInBounds_toArray, List.set_cons_zero, List.set_cons_succ])
                refine wpAnyH_take (i := 20) (oi := ({ dst := some 122, op := Op.move (Operand.tmp 121), type := _, pos := _, after := _, guard := none } : Oper)) (v := ?_) rfl (by kernel_rfl) (by kernel_rfl) (by kernel_rfl) (fun _ _ _ h => h) (Or.inl ⟨by rfl, ?_⟩) (by assumption) ?_
                rotate_left
                · intro w' hSw; (try dsimp only at hSw); go_simp <;> (try with_reducible rfl)
                (try simp only [Act.put, List.setIfInBounds_toArray, List.set_cons_zero, List.set_cons_succ])
                refine wpAnyH_take (i := 21) (oi := ({ dst := some 123, op := Op.fieldAddr _ (Operand.tmp 13) 3, type := _, pos := _, after := _, guard := some (20, false) } : Oper)) (v := ?_) rfl (by kernel_rfl) (by kernel_rfl) (by kernel_rfl) (fun _ _ _ h => h) (Or.inl ⟨by rfl, ?_⟩) (by assumption) ?_
                rotate_left
                · intro w' hSw; (try dsimp only at hSw); go_simp <;> (try with_reducible rfl)
                (try simp only [Act.put, List.setIfInBounds_toArray, List.set_cons_zero, List.set_cons_succ])
                refine wpAnyH_take (i := 22) (oi := ({ dst := some 124, op := Op.load _ (Operand.tmp 123), type := _, pos := _, after := _, guard := some (20, false) } : Oper)) (v := ?_) rfl (by kernel_rfl) (by kernel_rfl) (by kernel_rfl) (fun _ _ _ h => h) (Or.inl ⟨by rfl, ?_⟩) (by assumption) ?_
                rotate_left
                · intro w' hSw; (try dsimp only at hSw); go_simp <;> (try with_reducible rfl)
                (try simp only [Act.put, List.setIfInBounds_toArray, List.set_cons_zero, List.set_cons_succ])
                refine wpAnyH_take (i := 23) (oi := ({ dst := some 125, op := Op.move (Operand.tmp 19), type := _, pos := _, after := _, guard := some (20, false) } : Oper)) (v := ?_) rfl (by kernel_rfl) (by kernel_rfl) (by kernel_rfl) (fun _ _ _ h => h) (Or.inl ⟨by rfl, ?_⟩) (by assumption) ?_
                rotate_left
                · intro w' hSw; (try dsimp only at hSw); go_simp <;> (try with_reducible rfl)
                (try simp only [Act.put, List.setIfInBounds_toArray, List.set_cons_zero, List.set_cons_succ])
                refine wpAnyH_take (i := 24) (oi := ({ dst := some 126, op := Op.indexAddr _ (Operand.tmp 124) (Operand.tmp 125), type := _, pos := _, after := _, guard := some (20, false) } : Oper)) (v := ?_) rfl (by kernel_rfl) (by kernel_rfl) (by kernel_rfl) (fun _ _ _ h => h) (Or.inl ⟨by rfl, ?_⟩) (by assumption) ?_
                rotate_left
                · intro w' hSw; (try dsimp only at hSw); go_simp <;> (try with_reducible rfl)
                (try simp only [Act.put, List.setIfInBounds_toArray, List.set_cons_zero, List.set_cons_succ])
                refine wpAnyH_take (i := 25) (oi := ({ dst := some 127, op := Op.load _ (Operand.tmp 126), type := _, pos := _, after := _, guard := some (20, false) } : Oper)) (v := ?_) rfl (by kernel_rfl) (by kernel_rfl) (by kernel_rfl) (fun _ _ _ h => h) (Or.inl ⟨by rfl, ?_⟩) (by assumption) ?_
                rotate_left
                · intro w' hSw; (try dsimp only at hSw); go_simp <;> (try with_reducible rfl)
                (try simp only [Act.put, List.setIfInBounds_toArray, List.set_cons_zero, List.set_cons_succ])
                refine wpAnyH_take (i := 26) (oi := ({ dst := some 128, op := Op.fieldAddr _ (Operand.tmp 9) 3, type := _, pos := _, after := _, guard := some (20, false) } : Oper)) (v := ?_) rfl (by kernel_rfl) (by kernel_rfl) (by kernel_rfl) (fun _ _ _ h => h) (Or.inl ⟨by rfl, ?_⟩) (by assumption) ?_
                rotate_left
                · intro w' hSw; (try dsimp only at hSw); go_simp <;> (try with_reducible rfl)
                (try simp only [Act.put, List.setIfInBounds_toArray, List.set_cons_zero, List.set_cons_succ])
                refine wpAnyH_take (i := 27) (oi := ({ dst := some 129, op := Op.load _ (Operand.tmp 128), type := _, pos := _, after := _, guard := some (20, false) } : Oper)) (v := ?_) rfl (by kernel_rfl) (by kernel_rfl) (by kernel_rfl) (fun _ _ _ h => h) (Or.inl ⟨by rfl, ?_⟩) (by assumption) ?_
                rotate_left
                · intro w' hSw; (try dsimp only at hSw); go_simp <;> (try with_reducible rfl)
                (try simp only [Act.put, List.setIfInBounds_toArray, List.set_cons_zero, List.set_cons_succ])
                refine wpAnyH_take (i := 28) (oi := ({ dst := some 130, op := Op.move (Operand.tmp 19), type := _, pos := _, after := _, guard := some (20, false) } : Oper)) (v := ?_) rfl (by kernel_rfl) (by kernel_rfl) (by kernel_rfl) (fun _ _ _ h => h) (Or.inl ⟨by rfl, ?_⟩) (by assumption) ?_
                rotate_left
                · intro w' hSw; (try dsimp only at hSw); go_simp <;> (try with_reducible rfl)
                (try simp only [Act.put, List.setIfInBounds_toArray, List.set_cons_zero, List.set_cons_succ])
                refine wpAnyH_take (i := 29) (oi := ({ dst := some 131, op := Op.indexAddr _ (Operand.tmp 129) (Operand.tmp 130), type := _, pos := _, after := _, guard := some (20, false) } : Oper)) (v := ?_) rfl (by kernel_rfl) (by kernel_rfl) (by kernel_rfl) (fun _ _ _ h => h) (Or.inl ⟨by rfl, ?_⟩) (by assumption) ?_
                rotate_left
                · intro w' hSw; (try dsimp only at hSw); go_simp <;> (try with_reducible rfl)
                (try simp only [Act.put, List.setIfInBounds_toArray, List.set_cons_zero, List.set_cons_succ])
                refine wpAnyH_take (i := 30) (oi := ({ dst := some 132, op := Op.load _ (Operand.tmp 131), type := _, pos := _, after := _, guard := some (20, false) } : Oper)) (v := ?_) rfl (by kernel_rfl) (by kernel_rfl) (by kernel_rfl) (fun _ _ _ h => h) (Or.inl ⟨by rfl, ?_⟩) (by assumption) ?_
                rotate_left
                · intro w' hSw; (try dsimp only at hSw); go_simp <;> (try with_reducible rfl)
                (try simp only [Act.put, List.setIfInBounds_toArray, List.set_cons_zero, List.set_cons_succ])
                refine wpAnyH_take (i := 31) (oi := ({ dst := some 133, op := Op.binOp BinOp.neq _ (Operand.tmp 127) (Operand.tmp 132) _, type := _, pos := _, after := _, guard := some (20, false) } : Oper)) (v := ?_) rfl (by kernel_rfl) (by kernel_rfl) (by kernel_rfl) (fun _ _ _ h => h) (Or.inl ⟨by rfl, ?_⟩) (by assumption) ?_
                rotate_left
                · intro w' hSw; (try dsimp only at hSw); go_simp <;> (try with_reducible rfl)
                (try simp only [Act.put, List.setIfInBounds_toArray, List.set_cons_zero, List.set_cons_succ])
                refine wpAnyH_take (i := 32) (oi := ({ dst := some 134, op := Op.move (Operand.tmp 133), type := _, pos := _, after := _, guard := some (20, false) } : Oper)) (v := ?_) rfl (by kernel_rfl) (by kernel_rfl) (by kernel_rfl) (fun _ _ _ h => h) (Or.inl ⟨by rfl, ?_⟩) (by assumption) ?_
                rotate_left
                · intro w' hSw; (try dsimp only at hSw); go_simp <;> (try with_reducible rfl)
                (try simp only [Act.put, List.setIfInBounds_toArray, List.set_cons_zero, List.set_cons_succ])
                refine wpAnyH_take (i := 33) (oi := ({ dst := some 135, op := Op.fieldAddr _ (Operand.tmp 9) 3, type := _, pos := _, after := _, guard := some (32, true) } : Oper)) (v := undef) rfl (by kernel_rfl) (by kernel_rfl) (by kernel_rfl) (fun _ _ _ h => h) (Or.inr ⟨by kernel_rfl, rfl⟩) (by assumption) ?_
                (try simp only [Act.put, List.setIfInBounds_toArray, List.set_cons_zero, List.set_cons_succ])
                refine wpAnyH_take (i := 34) (oi := ({ dst := some 136, op := Op.load _ (Operand.tmp 135), type := _, pos := _, after := _, guard := some (32, true) } : Oper)) (v := undef) rfl (by kernel_rfl) (by kernel_rfl) (by kernel_rfl) (fun _ _ _ h => h) (Or.inr ⟨by kernel_rfl, rfl⟩) (by assumption) ?_
                (try simp only [Act.put, List.setIfInBounds_toArray, List.set_cons_zero, List.set_cons_succ])
                refine wpAnyH_take (i := 35) (oi := ({ dst := some 137, op := Op.move (Operand.tmp 19), type := _, pos := _, after := _, guard := some (32, true) } : Oper)) (v := undef) rfl (by kernel_rfl) (by kernel_rfl) (by kernel_rfl) (fun _ _ _ h => h) (Or.inr ⟨by kernel_rfl, rfl⟩) (by assumption) ?_
                (try simp only [Act.put, List.setIfInBounds_toArray, List.set_cons_zero, List.set_cons_succ])
                refine wpAnyH_take (i := 36) (oi := ({ dst := some 138, op := Op.indexAddr _ (Operand.tmp 136) (Operand.tmp 137), type := _, pos := _, after := _, guard := some (32, true) } : Oper)) (v := undef) rfl (by kernel_rfl) (by kernel_rfl) (by kernel_rfl) (fun _ _ _ h => h) (Or.inr ⟨by kernel_rfl, rfl⟩) (by assumption) ?_
                (try simp only [Act.put, List.setIfInBounds_toArray, List.set_cons_zero, List.set_cons_succ])
                refine wpAnyH_take (i := 37) (oi := ({ dst := some 139, op := Op.load _ (Operand.tmp 138), type := _, pos := _, after := _, guard := some (32, true) } : Oper)) (v := undef) rfl (by kernel_rfl) (by kernel_rfl) (by kernel_rfl) (fun _ _ _ h => h) (Or.inr ⟨by kernel_rfl, rfl⟩) (by assumption) ?_
                (try simp only [Act.put, List.setIfInBounds_toArray, List.set_cons_zero, List.set_cons_succ])
                refine wpAnyH_take (i := 38) (oi := ({ dst := some 140, op := Op.call { callee := Callee.value (Operand.func _), args := #[Operand.tmp 139], argTypes := _ }, type := _, pos := _, after := _, guard := some (32, true) } : Oper)) (v := undef) rfl (by kernel_rfl) (by kernel_rfl) (by kernel_rfl) (fun _ _ _ h => h) (Or.inr ⟨by kernel_rfl, rfl⟩) (by assumption) ?_
                (try simp only [Act.put, List.setIfInBounds_toArray, List.set_cons_zero, List.set_cons_succ])
                refine wpAnyH_take (i := 39) (oi := ({ dst := some 141, op := Op.binOp BinOp.neq _ (Operand.tmp 140) (Operand.const (Value.int IntKind.u64 0)) _, type := _, pos := _, after := _, guard := some (32, true) } : Oper)) (v := undef) rfl (by kernel_rfl) (by kernel_rfl) (by kernel_rfl) (fun _ _ _ h => h) (Or.inr ⟨by kernel_rfl, rfl⟩) (by assumption) ?_
                (try simp only [Act.put, List.setIfInBounds_toArray, List.set_cons_zero, List.set_cons_succ])
                refine wpAnyH_take (i := 40) (oi := ({ dst := some 142, op := Op.pick (Operand.tmp 134) (Operand.tmp 141) (Operand.const (Value.bool false)), type := _, pos := _, after := _, guard := some (20, false) } : Oper)) (v := ?_) rfl (by kernel_rfl) (by kernel_rfl) (by kernel_rfl) (fun _ _ _ h => h) (Or.inl ⟨by rfl, ?_⟩) (by assumption) ?_
                rotate_left
                · intro w' hSw; (try dsimp only at hSw); go_simp <;> (try with_reducible rfl)
                (try simp only [Act.put, List.setIfInBounds_toArray, List.set_cons_zero, List.set_cons_succ])
                refine wpAnyH_take (i := 41) (oi := ({ dst := some 143, op := Op.pick (Operand.tmp 122) (Operand.const (Value.bool true)) (Operand.tmp 142), type := _, pos := _, after := _, guard := none } : Oper)) (v := ?_) rfl (by kernel_rfl) (by kernel_rfl) (by kernel_rfl) (fun _ _ _ h => h) (Or.inl ⟨by rfl, ?_⟩) (by assumption) ?_
                rotate_left
                · intro w' hSw; (try dsimp only at hSw); go_simp <;> (try with_reducible rfl)
                (try simp only [Act.put, List.setIfInBounds_toArray, List.set_cons_zero, List.set_cons_succ])
                refine wpAnyH_take (i := 42) (oi := ({ dst := some 144, op := Op.move (Operand.tmp 143), type := _, pos := _, after := _, guard := none } : Oper)) (v := ?_) rfl (by kernel_rfl) (by kernel_rfl) (by kernel_rfl) (fun _ _ _ h => h) (Or.inl ⟨by rfl, ?_⟩) (by assumption) ?_
                rotate_left
                · intro w' hSw; (try dsimp only at hSw); go_simp <;> (try with_reducible rfl)
                (try simp only [Act.put, List.setIfInBounds_toArray, List.set_cons_zero, List.set_cons_succ])
                refine wpAnyH_take (i := 43) (oi := ({ dst := some 145, op := Op.fieldAddr _ (Operand.tmp 11) 3, type := _, pos := _, after := _, guard := some (42, false) } : Oper)) (v := ?_) rfl (by kernel_rfl) (by kernel_rfl) (by kernel_rfl) (fun _ _ _ h => h) (Or.inl ⟨by rfl, ?_⟩) (by assumption) ?_
                rotate_left
                · intro w' hSw; (try dsimp only at hSw); go_simp <;> (try with_reducible rfl)
                (try simp only [Act.put, List.setIfInBounds_toArray, List.set_cons_zero, List.set_cons_succ])
                refine wpAnyH_take (i := 44) (oi := ({ dst := some 146, op := Op.load _ (Operand.tmp 145), type := _, pos := _, after := _, guard := some (42, false) } : Oper)) (v := ?_) rfl (by kernel_rfl) (by kernel_rfl) (by kernel_rfl) (fun _ _ _ h => h) (Or.inl ⟨by rfl, ?_⟩) (by assumption) ?_
                rotate_left
                · intro w' hSw; (try dsimp only at hSw); go_simp <;> (try with_reducible rfl)
                (try simp only [Act.put, List.setIfInBounds_toArray, List.set_cons_zero, List.set_cons_succ])
                refine wpAnyH_take (i := 45) (oi := ({ dst := some 147, op := Op.move (Operand.tmp 19), type := _, pos := _, after := _, guard := some (42, false) } : Oper)) (v := ?_) rfl (by kernel_rfl) (by kernel_rfl) (by kernel_rfl) (fun _ _ _ h => h) (Or.inl ⟨by rfl, ?_⟩) (by assumption) ?_
                rotate_left
                · intro w' hSw; (try dsimp only at hSw); go_simp <;> (try with_reducible rfl)
                (try simp only [Act.put, List.setIfInBounds_toArray, List.set_cons_zero, List.set_cons_succ])
                refine wpAnyH_take (i := 46) (oi := ({ dst := some 148, op := Op.indexAddr _ (Operand.tmp 146) (Operand.tmp 147), type := _, pos := _, after := _, guard := some (42, false) } : Oper)) (v := ?_) rfl (by kernel_rfl) (by kernel_rfl) (by kernel_rfl) (fun _ _ _ h => h) (Or.inl ⟨by rfl, ?_⟩) (by assumption) ?_
                rotate_left
                · intro w' hSw; (try dsimp only at hSw); go_simp <;> (try with_reducible rfl)
                (try simp only [Act.put, List.setIfInBounds_toArray, List.set_cons_zero, List.set_cons_succ])
                refine wpAnyH_take (i := 47) (oi := ({ dst := some 149, op := Op.load _ (Operand.tmp 148), type := _, pos := _, after := _, guard := some (42, false) } : Oper)) (v := ?_) rfl (by kernel_rfl) (by kernel_rfl) (by kernel_rfl) (fun _ _ _ h => h) (Or.inl ⟨by rfl, ?_⟩) (by assumption) ?_
                rotate_left
                · intro w' hSw; (try dsimp only at hSw); go_simp <;> (try with_reducible rfl)
                (try simp only [Act.put, List.setIfInBounds_toArray, List.set_cons_zero, List.set_cons_succ])
                refine wpAnyH_take (i := 49) (oi := ({ dst := some 151, op := Op.fieldAddr _ (Operand.tmp 9) 3, type := _, pos := _, after := _, guard := some (42, false) } : Oper)) (v := ?_) rfl (by kernel_rfl) (by kernel_rfl) (by kernel_rfl) (fun _ _ _ h => h) (Or.inl ⟨by rfl, ?_⟩) (by assumption) ?_
                rotate_left
                · intro w' hSw; (try dsimp only at hSw); go_simp <;> (try with_reducible rfl)
                (try simp only [Act.put, List.setIfInBounds_toArray, List.set_cons_zero, List.set_cons_succ])
                refine wpAnyH_take (i := 50) (oi := ({ dst := some 152, op := Op.load _ (Operand.tmp 151), type := _, pos := _, after := _, guard := some (42, false) } : Oper)) (v := ?_) rfl (by kernel_rfl) (by kernel_rfl) (by kernel_rfl) (fun _ _ _ h => h) (Or.inl ⟨by rfl, ?_⟩) (by assumption) ?_
                rotate_left
                · intro w' hSw; (try dsimp only at hSw); go_simp <;> (try with_reducible rfl)
                (try simp only [Act.put, List.setIfInBounds_toArray, List.set_cons_zero, List.set_cons_succ])
                refine wpAnyH_take (i := 51) (oi := ({ dst := some 153, op := Op.move (Operand.tmp 19), type := _, pos := _, after := _, guard := some (42, false) } : Oper)) (v := ?_) rfl (by kernel_rfl) (by kernel_rfl) (by kernel_rfl) (fun _ _ _ h => h) (Or.inl ⟨by rfl, ?_⟩) (by assumption) ?_
                rotate_left
                · intro w' hSw; (try dsimp only at hSw); go_simp <;> (try with_reducible rfl)
                (try simp only [Act.put, List.setIfInBounds_toArray, List.set_cons_zero, List.set_cons_succ])
                refine wpAnyH_take (i := 52) (oi := ({ dst := some 154, op := Op.indexAddr _ (Operand.tmp 152) (Operand.tmp 153), type := _, pos := _, after := _, guard := some (42, false) } : Oper)) (v := ?_) rfl (by kernel_rfl) (by kernel_rfl) (by kernel_rfl) (fun _ _ _ h => h) (Or.inl ⟨by rfl, ?_⟩) (by assumption) ?_
                rotate_left
                · intro w' hSw; (try dsimp only at hSw); go_simp <;> (try with_reducible rfl)
                (try simp only [Act.put, List.setIfInBounds_toArray, List.set_cons_zero, List.set_cons_succ])
                refine wpAnyH_take (i := 53) (oi := ({ dst := some 155, op := Op.load _ (Operand.tmp 154), type := _, pos := _, after := _, guard := some (42, false) } : Oper)) (v := ?_) rfl (by kernel_rfl) (by kernel_rfl) (by kernel_rfl) (fun _ _ _ h => h) (Or.inl ⟨by rfl, ?_⟩) (by assumption) ?_
                rotate_left
                · intro w' hSw; (try dsimp only at hSw); go_simp <;> (try with_reducible rfl)
                (try simp only [Act.put, List.setIfInBounds_toArray, List.set_cons_zero, List.set_cons_succ])
                refine wpAnyH_ready (rs := [48]) (by kernel_rfl) (by simp) ?_
                refine AllReadyH.cons (o := ({ dst := some 150, op := Op.call { callee := Callee.value (Operand.func _), args := #[Operand.tmp 149], argTypes := _ }, type := _, pos := _, after := _, guard := some (42, false) } : Oper)) rfl (fun K hK => ?_) AllReadyH.nil
                go_simp
                refine (abs_any a _ y0 y1).mono ?_
                rintro e w' ⟨rfl, hw⟩
                have hw2 := hw.symm
                clear hw
                subst hw2
                rw [HML.out]
                (try go_wp2_with fail)
                refine hK.out _ _ ?_ (fun hHeld => ?_)
                · (try dsimp only); exact hHeld
                clear hK K
                (try simp only [Act.put, List.setIfInBounds_toArray, List.set_cons_zero, List.set_cons_succ])
                refine wpAnyH_ready (rs := [54]) (by kernel_rfl) (by simp) ?_
                refine AllReadyH.cons (o := ({ dst := some 156, op := Op.call { callee := Callee.value (Operand.func _), args := #[Operand.tmp 155], argTypes := _ }, type := _, pos := _, after := _, guard := some (42, false) } : Oper)) rfl (fun K hK => ?_) AllReadyH.nil
                go_simp
                refine (abs_any z _ x0 x1).mono ?_
                rintro e w' ⟨rfl, hw⟩
                have hw2 := hw.symm
                clear hw
                subst hw2
                rw [HMX.out]
                (try go_wp2_with fail)
                refine hK.out _ _ ?_ (fun hHeld => ?_)
                · (try dsimp only); exact hHeld
                clear hK K
                (try simp only [Act.put, List.setIfInBounds_toArray, List.set_cons_zero, List.set_cons_succ])
                refine wpAnyH_take (i := 55) (oi := ({ dst := some 157, op := Op.binOp BinOp.neq _ (Operand.tmp 150) (Operand.tmp 156) _, type := _, pos := _, after := _, guard := some (42, false) } : Oper)) (v := ?_) rfl (by kernel_rfl) (by kernel_rfl) (by kernel_rfl) (fun _ _ _ h => h) (Or.inl ⟨by rfl, ?_⟩) (by assumption) ?_
                rotate_left
                · intro w' hSw; (try dsimp only at hSw); go_simp <;> (try with_reducible rfl)
                (try simp only [Act.put, List.setIfInBounds_toArray, List.set_cons_zero, List.set_cons_succ])
                refine wpAnyH_take (i := 56) (oi := ({ dst := some 158, op := Op.pick (Operand.tmp 144) (Operand.const (Value.bool true)) (Operand.tmp 157), type := _, pos := _, after := _, guard := none } : Oper)) (v := ?_) rfl (by kernel_rfl) (by kernel_rfl) (by kernel_rfl) (fun _ _ _ h => h) (Or.inl ⟨by rfl, ?_⟩) (by assumption) ?_
                rotate_left
                · intro w' hSw; (try dsimp only at hSw); go_simp <;> (try with_reducible rfl)
                (try simp only [Act.put, List.setIfInBounds_toArray, List.set_cons_zero, List.set_cons_succ])
                refine wpAnyH_done (by kernel_rfl) ?_ _
                refine NoPanic.normal ?_
                clear X_0 X_1 X_2 X_3 X_4 L_0 L_1 L_2 L_3 L_4 S_0 S_1 S_2 S_3 S_4
                have hb_ : Below w11_.heap.size w11_ w11_.drew := (Below.refl _ _).drew
                generalize w11_.drew = w200_ at hb_ ⊢
                replace BW : Hid (Below _ _ _) := bstep BW.out hb_
                replace UX : Hid (URow _ _ _ _ _) := UX.out.below hb_
                replace X : Hid (MBox _ _ _ _ _ _) := X.out.below hb_
                replace L : Hid (MBox _ _ _ _ _ _) := L.out.below hb_
                replace UL : Hid (URow _ _ _ _ _) := UL.out.below hb_
                replace S : Hid (MBox _ _ _ _ _ _) := S.out.below hb_
                replace US : Hid (URow _ _ _ _ _) := US.out.below hb_
                clear hb_ hHeld
                go_wp2
                go_roundw
                case rel => exact ⟨i + 1, by go_num, by omega, BW, UX, X, L, UL, S, US⟩
                case measure => simp [intOf]; omega
            · as_aux_lemma =>
                subst xa
                refine wp_region_noPanic ?_
                refine wp_region_held_drew (S := (fun w' => (w'.cell? ⟨k_L, 3, none⟩ = some (.slice (some ⟨gL, 0, none⟩) PQ PQ)) ∧ (w'.cell? ⟨k_S, 3, none⟩ = some (.slice (some ⟨gS, 0, none⟩) PQ PQ)) ∧ (w'.cell? ⟨k_X, 3, none⟩ = some (.slice (some ⟨gX, 0, none⟩) PQ PQ)) ∧ (w'.cell? ⟨gL, i, none⟩ = some (.int .u64 a)) ∧ (w'.cell? ⟨gS, i, none⟩ = some (.int .u64 z)) ∧ (w'.cell? ⟨gX, i, none⟩ = some (.int .u64 x)))) (by kernel_rfl) ⟨L_3, S_3, X_3, q1, q2, q3⟩ (fun hHeld => ?_)
                refine wpAnyH_take (i := 0) (oi := ({ dst := some 102, op := Op.fieldAddr _ (Operand.tmp 11) 3, type := _, pos := _, after := _, guard := none } : Oper)) (v := ?_) rfl (by kernel_rfl) (by kernel_rfl) (by kernel_rfl) (fun _ _ _ h => h) (Or.inl ⟨by rfl, ?_⟩) (by assumption) ?_
                rotate_left
                · intro w' hSw; (try dsimp only at hSw); go_simp <;> (try with_reducible rfl)
                (try simp only [Act.put, List.setIfInBounds_toArray, List.set_cons_zero, List.set_cons_succ])
                refine wpAnyH_take (i := 1) (oi := ({ dst := some 103, op := Op.load _ (Operand.tmp 102), type := _, pos := _, after := _, guard := none } : Oper)) (v := ?_) rfl (by kernel_rfl) (by kernel_rfl) (by kernel_rfl) (fun _ _ _ h => h) (Or.inl ⟨by rfl, ?_⟩) (by assumption) ?_
                rotate_left
                · intro w' hSw; (try dsimp only at hSw); go_simp <;> (try with_reducible rfl)
                (try simp only [Act.put, List.setIfInBounds_toArray, List.set_cons_zero, List.set_cons_succ])
                refine wpAnyH_take (i := 2) (oi := ({ dst := some 104, op := Op.move (Operand.tmp 19), type := _, pos := _, after := _, guard := none } : Oper)) (v := ?_) rfl (by kernel_rfl) (by kernel_rfl) (by kernel_rfl) (fun _ _ _ h => h) (Or.inl ⟨by rfl, ?_⟩) (by assumption) ?_
                rotate_left
                · intro w' hSw; (try dsimp only at hSw); go_simp <;> (try with_reducible rfl)
                (try simp only [Act.put, List.setIfInBounds_toArray, List.set_cons_zero, List.set_cons_succ])
                refine wpAnyH_take (i := 3) (oi := ({ dst := some 105, op := Op.indexAddr _ (Operand.tmp 103) (Operand.tmp 104), type := _, pos := _, after := _, guard := none } : Oper)) (v := ?_) rfl (by kernel_rfl) (by kernel_rfl) (by kernel_rfl) (fun _ _ _ h => h) (Or.inl ⟨by rfl, ?_⟩) (by assumption) ?_
                rotate_left
                · intro w' hSw; (try dsimp only at hSw); go_simp <;> (try with_reducible rfl)
                (try simp only [Act.put, List.setIfInBounds_toArray, List.set_cons_zero, List.set_cons_succ])
                refine wpAnyH_take (i := 4) (oi := ({ dst := some 106, op := Op.load _ (Operand.tmp 105), type := _, pos := _, after := _, guard := none } : Oper)) (v := ?_) rfl (by kernel_rfl) (by kernel_rfl) (by kernel_rfl) (fun _ _ _ h => h) (Or.inl ⟨by rfl, ?_⟩) (by assumption) ?_
                rotate_left
                · intro w' hSw; (try dsimp only at hSw); go_simp <;> (try with_reducible rfl)
                (try simp only [Act.put, List.setIfInBounds_toArray, List.set_cons_zero, List.set_cons_succ])
                refine wpAnyH_take (i := 5) (oi := ({ dst := some 107, op := Op.fieldAddr _ (Operand.tmp 9) 3, type := _, pos := _, after := _, guard := none } : Oper)) (v := ?_) rfl (by kernel_rfl) (by kernel_rfl) (by kernel_rfl) (fun _ _ _ h => h) (Or.inl ⟨by rfl, ?_⟩) (by assumption) ?_
                rotate_left
                · intro w' hSw; (try dsimp only at hSw); go_simp <;> (try with_reducible rfl)
                (try simp only [Act.put, List.setIfInBounds_toArray, List.set_cons_zero, List.set_cons_succ])
                refine wpAnyH_take (i := 6) (oi := ({ dst := some 108, op := Op.load _ (Operand.tmp 107), type := _, pos := _, after := _, guard := none } : Oper)) (v := ?_) rfl (by kernel_rfl) (by kernel_rfl) (by kernel_rfl) (fun _ _ _ h => h) (Or.inl ⟨by rfl, ?_⟩) (by assumption) ?_
                rotate_left
                · intro w' hSw; (try dsimp only at hSw); go_simp <;> (try with_reducible rfl)
                (try simp only [Act.put, List.setIfInBounds_toArray, List.set_cons_zero, List.set_cons_succ])
                refine wpAnyH_take (i := 7) (oi := ({ dst := some 109, op := Op.move (Operand.tmp 19), type := _, pos := _, after := _, guard := none } : Oper)) (v := ?_) rfl (by kernel_rfl) (by kernel_rfl) (by kernel_rfl) (fun _ _ _ h => h) (Or.inl ⟨by rfl, ?_⟩) (by assumption) ?_
                rotate_left
                · intro w' hSw; (try dsimp only at hSw); go_simp <;> (try with_reducible rfl)
                (try simp only [Act.put, List.setIfInBounds_toArray, List.set_cons_zero, List.set_cons_succ])
                refine wpAnyH_take (i := 8) (oi := ({ dst := some 110, op := Op.indexAddr _ (Operand.tmp 108) (Operand.tmp 109), type := _, pos := _, after := _, guard := none } : Oper)) (v := ?_) rfl (by kernel_rfl) (by kernel_rfl) (by kernel_rfl) (fun _ _ _ h => h) (Or.inl ⟨by rfl, ?_⟩) (by assumption) ?_
                rotate_left
                · intro w' hSw; (try dsimp only at hSw); go_simp <;> (try with_reducible rfl)
                (try simp only [Act.put, List.setIfInBounds_toArray, List.set_cons_zero, List.set_cons_succ])
                refine wpAnyH_take (i := 9) (oi := ({ dst := some 111, op := Op.load _ (Operand.tmp 110), type := _, pos := _, after := _, guard := none } : Oper)) (v := ?_) rfl (by kernel_rfl) (by kernel_rfl) (by kernel_rfl) (fun _ _ _ h => h) (Or.inl ⟨by rfl, ?_⟩) (by assumption) ?_
                rotate_left
                · intro w' hSw; (try dsimp only at hSw); go_simp <;> (try with_reducible rfl)
                (try simp only [Act.put, List.setIfInBounds_toArray, List.set_cons_zero, List.set_cons_succ])
                refine wpAnyH_take (i := 10) (oi := ({ dst := some 112, op := Op.binOp BinOp.neq _ (Operand.tmp 106) (Operand.tmp 111) _, type := _, pos := _, after := _, guard := none } : Oper)) (v := ?_) rfl (by kernel_rfl) (by kernel_rfl) (by kernel_rfl) (fun _ _ _ h => h) (Or.inl ⟨by rfl, ?_⟩) (by assumption) ?_
                rotate_left
                · intro w' hSw; (try dsimp only at hSw); go_simp <;> (try with_reducible rfl)
                (try simp only [Act.put, List.setIfInBounds_toArray, List.set_cons_zero, List.set_cons_succ])
                refine wpAnyH_take (i := 11) (oi := ({ dst := some 113, op := Op.move (Operand.tmp 112), type := _, pos := _, after := _, guard := none } : Oper)) (v := ?_) rfl (by kernel_rfl) (by kernel_rfl) (by kernel_rfl) (fun _ _ _ h => h) (Or.inl ⟨by rfl, ?_⟩) (by assumption) ?_
                rotate_left
                · intro w' hSw; (try dsimp only at hSw); go_simp <;> (try with_reducible rfl)
                (try simp only [Act.put, List.setIfInBounds_toArray, List.set_cons_zero, List.set_cons_succ])
                refine wpAnyH_take (i := 12) (oi := ({ dst := some 114, op := Op.fieldAddr _ (Operand.tmp 9) 3, type := _, pos := _, after := _, guard := some (11, true) } : Oper)) (v := ?_) rfl (by kernel_rfl) (by kernel_rfl) (by kernel_rfl) (fun _ _ _ h => h) (Or.inl ⟨by rfl, ?_⟩) (by assumption) ?_
                rotate_left
                · intro w' hSw; (try dsimp only at hSw); go_simp <;> (try with_reducible rfl)
                (try simp only [Act.put, List.setIfInBounds_toArray, List.set_cons_zero, List.set_cons_succ])
                refine wpAnyH_take (i := 13) (oi := ({ dst := some 115, op := Op.load _ (Operand.tmp 114), type := _, pos := _, after := _, guard := some (11, true) } : Oper)) (v := ?_) rfl (by kernel_rfl) (by kernel_rfl) (by kernel_rfl) (fun _ _ _ h => h) (Or.inl ⟨by rfl, ?_⟩) (by assumption) ?_
                rotate_left
                · intro w' hSw; (try dsimp only at hSw); go_simp <;> (try with_reducible rfl)
                (try simp only [Act.put, List.setIfInBounds_toArray, List.set_cons_zero, List.set_cons_succ])
                refine wpAnyH_take (i := 14) (oi := ({ dst := some 116, op := Op.move (Operand.tmp 19), type := _, pos := _, after := _, guard := some (11, true) } : Oper)) (v := ?_) rfl (by kernel_rfl) (by kernel_rfl) (by kernel_rfl) (fun _ _ _ h => h) (Or.inl ⟨by rfl, ?_⟩) (by assumption) ?_
                rotate_left
                · intro w' hSw; (try dsimp only at hSw); go_simp <;> (try with_reducible rfl)
                (try simp only [Act.put, List.setIfInBounds_toArray, List.set_cons_zero, List.set_cons_succ])
                refine wpAnyH_take (i := 15) (oi := ({ dst := some 117, op := Op.indexAddr _ (Operand.tmp 115) (Operand.tmp 116), type := _, pos := _, after := _, guard := some (11, true) } : Oper)) (v := ?_) rfl (by kernel_rfl) (by kernel_rfl) (by kernel_rfl) (fun _ _ _ h => h) (Or.inl ⟨by rfl, ?_⟩) (by assumption) ?_
                rotate_left
                · intro w' hSw; (try dsimp only at hSw); go_simp <;> (try with_reducible rfl)
                (try simp only [Act.put, List.setIfInBounds_toArray, List.set_cons_zero, List.set_cons_succ])
                refine wpAnyH_take (i := 16) (oi := ({ dst := some 118, op := Op.load _ (Operand.tmp 117), type := _, pos := _, after := _, guard := some (11, true) } : Oper)) (v := ?_) rfl (by kernel_rfl) (by kernel_rfl) (by kernel_rfl) (fun _ _ _ h => h) (Or.inl ⟨by rfl, ?_⟩) (by assumption) ?_
                rotate_left
                · intro w' hSw; (try dsimp only at hSw); go_simp <;> (try with_reducible rfl)
                (try simp only [Act.put, List.setIfInBounds_toArray, List.set_cons_zero, List.set_cons_succ])
                refine wpAnyH_ready (rs := [17]) (by kernel_rfl) (by simp) ?_
                refine AllReadyH.cons (o := ({ dst := some 119, op := Op.call { callee := Callee.value (Operand.func _), args := #[Operand.tmp 118], argTypes := _ }, type := _, pos := _, after := _, guard := some (11, true) } : Oper)) rfl (fun K hK => ?_) AllReadyH.nil
                go_simp
                refine (abs_any x _ x0 x1).mono ?_
                rintro e w' ⟨rfl, hw⟩
                have hw2 := hw.symm
                clear hw
                subst hw2
                rw [HMX.out]
                (try go_wp2_with fail)
                refine hK.out _ _ ?_ (fun hHeld => ?_)
                · (try dsimp only); exact hHeld
                clear hK K
                (try simp only [Act.put, List.setIfInBounds_toArray, List.set_cons_zero, List.set_cons_succ])
                refine wpAnyH_take (i := 18) (oi := ({ dst := some 120, op := Op.binOp BinOp.neq _ (Operand.tmp 119) (Operand.const (Value.int IntKind.u64 0)) _, type := _, pos := _, after := _, guard := some (11, true) } : Oper)) (v := ?_) rfl (by kernel_rfl) (by kernel_rfl) (by kernel_rfl) (fun _ _ _ h => h) (Or.inl ⟨by rfl, ?_⟩) (by assumption) ?_
                rotate_left
                · intro w' hSw; (try dsimp only at hSw); go_simp <;> (try with_reducible rfl)
                (try simp only [Act.put, List.setIfInBounds_toArray, List.set_cons_zero, List.set_cons_succ])
                refine wpAnyH_take (i := 19) (oi := ({ dst := some 121, op := Op.pick (Operand.tmp 113) (Operand.tmp 120) (Operand.const (Value.bool false)), type := _, pos := _, after := _, guard := none } : Oper)) (v := ?_) rfl (by kernel_rfl) (by kernel_rfl) (by kernel_rfl) (fun _ _ _ h => h) (Or.inl ⟨by rfl, ?_⟩) (by assumption) ?_
                rotate_left
                · intro w' hSw; (try dsimp only at hSw); go_simp <;> (try with_reducible rfl)
                (try simp only [Act.put, List.setIfInBounds_toArray, List.set_cons_zero, List.set_cons_succ])
                refine wpAnyH_take (i := 20) (oi := ({ dst := some 122, op := Op.move (Operand.tmp 121), type := _, pos := _, after := _, guard := none } : Oper)) (v := ?_) rfl (by kernel_rfl) (by kernel_rfl) (by kernel_rfl) (fun _ _ _ h => h) (Or.inl ⟨by rfl, ?_⟩) (by assumption) ?_
                rotate_left
                · intro w' hSw; (try dsimp only at hSw); go_simp <;> (try with_reducible rfl)
                (try simp only [Act.put, List.setIfInBounds_toArray, List.set_cons_zero, List.set_cons_succ])
                refine wpAnyH_take (i := 21) (oi := ({ dst := some 123, op := Op.fieldAddr _ (Operand.tmp 13) 3, type := _, pos := _, after := _, guard := some (20, false) } : Oper)) (v := ?_) rfl (by kernel_rfl) (by kernel_rfl) (by kernel_rfl) (fun _ _ _ h => h) (Or.inl ⟨by rfl, ?_⟩) (by assumption) ?_
                rotate_left
                · intro w' hSw; (try dsimp only at hSw); go_simp <;> (try with_reducible rfl)
                (try simp only [Act.put, List.setIfInBounds_toArray, List.set_cons_zero, List.set_cons_succ])
                refine wpAnyH_take (i := 22) (oi := ({ dst := some 124, op := Op.load _ (Operand.tmp 123), type := _, pos := _, after := _, guard := some (20, false) } : Oper)) (v := ?_) rfl (by kernel_rfl) (by kernel_rfl) (by kernel_rfl) (fun _ _ _ h => h) (Or.inl ⟨by rfl, ?_⟩) (by assumption) ?_
                rotate_left
                · intro w' hSw; (try dsimp only at hSw); go_simp <;> (try with_reducible rfl)
                (try simp only [Act.put, List.setIfInBounds_toArray, List.set_cons_zero, List.set_cons_succ])
                refine wpAnyH_take (i := 23) (oi := ({ dst := some 125, op := Op.move (Operand.tmp 19), type := _, pos := _, after := _, guard := some (20, false) } : Oper)) (v := ?_) rfl (by kernel_rfl) (by kernel_rfl) (by kernel_rfl) (fun _ _ _ h => h) (Or.inl ⟨by rfl, ?_⟩) (by assumption) ?_
                rotate_left
                · intro w' hSw; (try dsimp only at hSw); go_simp <;> (try with_reducible rfl)
                (try simp only [Act.put, List.setIfInBounds_toArray, List.set_cons_zero, List.set_cons_succ])
                refine wpAnyH_take (i := 24) (oi := ({ dst := some 126, op := Op.indexAddr _ (Operand.tmp 124) (Operand.tmp 125), type := _, pos := _, after := _, guard := some (20, false) } : Oper)) (v := ?_) rfl (by kernel_rfl) (by kernel_rfl) (by kernel_rfl) (fun _ _ _ h => h) (Or.inl ⟨by rfl, ?_⟩) (by assumption) ?_
                rotate_left
                · intro w' hSw; (try dsimp only at hSw); go_simp <;> (try with_reducible rfl)
                (try simp only [Act.put, List.setIfInBounds_toArray, List.set_cons_zero, List.set_cons_succ])
                refine wpAnyH_take (i := 25) (oi := ({ dst := some 127, op := Op.load _ (Operand.tmp 126), type := _, pos := _, after := _, guard := some (20, false) } : Oper)) (v := ?_) rfl (by kernel_rfl) (by kernel_rfl) (by kernel_rfl) (fun _ _ _ h => h) (Or.inl ⟨by rfl, ?_⟩) (by assumption) ?_
                rotate_left
                · intro w' hSw; (try dsimp only at hSw); go_simp <;> (try with_reducible rfl)
                (try simp only [Act.put, List.setIfInBounds_toArray, List.set_cons_zero, List.set_cons_succ])
                refine wpAnyH_take (i := 26) (oi := ({ dst := some 128, op := Op.fieldAddr _ (Operand.tmp 9) 3, type := _, pos := _, after := _, guard := some (20, false) } : Oper)) (v := ?_) rfl (by kernel_rfl) (by kernel_rfl) (by kernel_rfl) (fun _ _ _ h => h) (Or.inl ⟨by rfl, ?_⟩) (by assumption) ?_
                rotate_left
                · intro w' hSw; (try dsimp only at hSw); go_simp <;> (try with_reducible rfl)
                (try simp only [Act.put, List.setIfInBounds_toArray, List.set_cons_zero, List.set_cons_succ])
                refine wpAnyH_take (i := 27) (oi := ({ dst := some 129, op := Op.load _ (Operand.tmp 128), type := _, pos := _, after := _, guard := some (20, false) } : Oper)) (v := ?_) rfl (by kernel_rfl) (by kernel_rfl) (by kernel_rfl) (fun _ _ _ h => h) (Or.inl ⟨by rfl, ?_⟩) (by assumption) ?_
                rotate_left
                · intro w' hSw; (try dsimp only at hSw); go_simp <;> (try with_reducible rfl)
                (try simp only [Act.put, List.setIfInBounds_toArray, List.set_cons_zero, List.set_cons_succ])
                refine wpAnyH_take (i := 28) (oi := ({ dst := some 130, op := Op.move (Operand.tmp 19), type := _, pos := _, after := _, guard := some (20, false) } : Oper)) (v := ?_) rfl (by kernel_rfl) (by kernel_rfl) (by kernel_rfl) (fun _ _ _ h => h) (Or.inl ⟨by rfl, ?_⟩) (by assumption) ?_
                rotate_left
                · intro w' hSw; (try dsimp only at hSw); go_simp <;> (try with_reducible rfl)
                (try simp only [Act.put, List.setIfInBounds_toArray, List.set_cons_zero, List.set_cons_succ])
                refine wpAnyH_take (i := 29) (oi := ({ dst := some 131, op := Op.indexAddr _ (Operand.tmp 129) (Operand.tmp 130), type := _, pos := _, after := _, guard := some (20, false) } : Oper)) (v := ?_) rfl (by kernel_rfl) (by kernel_rfl) (by kernel_rfl) (fun _ _ _ h => h) (Or.inl ⟨by rfl, ?_⟩) (by assumption) ?_
                rotate_left
                · intro w' hSw; (try dsimp only at hSw); go_simp <;> (try with_reducible rfl)
                (try simp only [Act.put, List.setIfInBounds_toArray, List.set_cons_zero, List.set_cons_succ])
                refine wpAnyH_take (i := 30) (oi := ({ dst := some 132, op := Op.load _ (Operand.tmp 131), type := _, pos := _, after := _, guard := some (20, false) } : Oper)) (v := ?_) rfl (by kernel_rfl) (by kernel_rfl) (by kernel_rfl) (fun _ _ _ h => h) (Or.inl ⟨by rfl, ?_⟩) (by assumption) ?_
                rotate_left
                · intro w' hSw; (try dsimp only at hSw); go_simp <;> (try with_reducible rfl)
                (try simp only [Act.put, List.setIfInBounds_toArray, List.set_cons_zero, List.set_cons_succ])
                refine wpAnyH_take (i := 31) (oi := ({ dst := some 133, op := Op.binOp BinOp.neq _ (Operand.tmp 127) (Operand.tmp 132) _, type := _, pos := _, after := _, guard := some (20, false) } : Oper)) (v := ?_) rfl (by kernel_rfl) (by kernel_rfl) (by kernel_rfl) (fun _ _ _ h => h) (Or.inl ⟨by rfl, ?_⟩) (by assumption) ?_
                rotate_left
                · intro w' hSw; (try dsimp only at hSw); go_simp <;> (try with_reducible rfl)
                (try simp only [Act.put, List.setIfInBounds_toArray, List.set_cons_zero, List.set_cons_succ])
                refine wpAnyH_take (i := 32) (oi := ({ dst := some 134, op := Op.move (Operand.tmp 133), type := _, pos := _, after := _, guard := some (20, false) } : Oper)) (v := ?_) rfl (by kernel_rfl) (by kernel_rfl) (by kernel_rfl) (fun _ _ _ h => h) (Or.inl ⟨by rfl, ?_⟩) (by assumption) ?_
                rotate_left
                · intro w' hSw; (try dsimp only at hSw); go_simp <;> (try with_reducible rfl)
                (try simp only [Act.put, List.setIfInBounds_toArray, List.set_cons_zero, List.set_cons_succ])
                refine wpAnyH_take (i := 33) (oi := ({ dst := some 135, op := Op.fieldAddr _ (Operand.tmp 9) 3, type := _, pos := _, after := _, guard := some (32, true) } : Oper)) (v := ?_) rfl (by kernel_rfl) (by kernel_rfl) (by kernel_rfl) (fun _ _ _ h => h) (Or.inl ⟨by rfl, ?_⟩) (by assumption) ?_
                rotate_left
                · intro w' hSw; (try dsimp only at hSw); go_simp <;> (try with_reducible rfl)
                (try simp only [Act.put, List.setIfInBounds_toArray, List.set_cons_zero, List.set_cons_succ])
                refine wpAnyH_take (i := 34) (oi := ({ dst := some 136, op := Op.load _ (Operand.tmp 135), type := _, pos := _, after := _, guard := some (32, true) } : Oper)) (v := ?_) rfl (by kernel_rfl) (by kernel_rfl) (by kernel_rfl) (fun _ _ _ h => h) (Or.inl ⟨by rfl, ?_⟩) (by assumption) ?_
                rotate_left
                · intro w' hSw; (try dsimp only at hSw); go_simp <;> (try with_reducible rfl)
                (try simp only [Act.put, List.setIfInBounds_toArray, List.set_cons_zero, List.set_cons_succ])
                refine wpAnyH_take (i := 35) (oi := ({ dst := some 137, op := Op.move (Operand.tmp 19), type := _, pos := _, after := _, guard := some (32, true) } : Oper)) (v := ?_) rfl (by kernel_rfl) (by kernel_rfl) (by kernel_rfl) (fun _ _ _ h => h) (Or.inl ⟨by rfl, ?_⟩) (by assumption) ?_
                rotate_left
                · intro w' hSw; (try dsimp only at hSw); go_simp <;> (try with_reducible rfl)
                (try simp only [Act.put, List.setIfInBounds_toArray, List.set_cons_zero, List.set_cons_succ])
                refine wpAnyH_take (i := 36) (oi := ({ dst := some 138, op := Op.indexAddr _ (Operand.tmp 136) (Operand.tmp 137), type := _, pos := _, after := _, guard := some (32, true) } : Oper)) (v := ?_) rfl (by kernel_rfl) (by kernel_rfl) (by kernel_rfl) (fun _ _ _ h => h) (Or.inl ⟨by rfl, ?_⟩) (by assumption) ?_
                rotate_left
                · intro w' hSw; (try dsimp only at hSw); go_simp <;> (try with_reducible rfl)
                (try simp only [Act.put, List.setIfInBounds_toArray, List.set_cons_zero, List.set_cons_succ])
                refine wpAnyH_take (i := 37) (oi := ({ dst := some 139, op := Op.load _ (Operand.tmp 138), type := _, pos := _, after := _, guard := some (32, true) } : Oper)) (v := ?_) rfl (by kernel_rfl) (by kernel_rfl) (by kernel_rfl) (fun _ _ _ h => h) (Or.inl ⟨by rfl, ?_⟩) (by assumption) ?_
                rotate_left
                · intro w' hSw; (try dsimp only at hSw); go_simp <;> (try with_reducible rfl)
                (try simp only [Act.put, List.setIfInBounds_toArray, List.set_cons_zero, List.set_cons_succ])
                refine wpAnyH_ready (rs := [38]) (by kernel_rfl) (by simp) ?_
                refine AllReadyH.cons (o := ({ dst := some 140, op := Op.call { callee := Callee.value (Operand.func _), args := #[Operand.tmp 139], argTypes := _ }, type := _, pos := _, after := _, guard := some (32, true) } : Oper)) rfl (fun K hK => ?_) AllReadyH.nil
                go_simp
                refine (abs_any x _ x0 x1).mono ?_
                rintro e w' ⟨rfl, hw⟩
                have hw2 := hw.symm
                clear hw
                subst hw2
                rw [HMX.out]
                (try go_wp2_with fail)
                refine hK.out _ _ ?_ (fun hHeld => ?_)
                · (try dsimp only); exact hHeld
                clear hK K
                (try simp only [Act.put, List.setIfInBounds_toArray, List.set_cons_zero, List.set_cons_succ])
                refine wpAnyH_take (i := 39) (oi := ({ dst := some 141, op := Op.binOp BinOp.neq _ (Operand.tmp 140) (Operand.const (Value.int IntKind.u64 0)) _, type := _, pos := _, after := _, guard := some (32, true) } : Oper)) (v := ?_) rfl (by kernel_rfl) (by kernel_rfl) (by kernel_rfl) (fun _ _ _ h => h) (Or.inl ⟨by rfl, ?_⟩) (by assumption) ?_
                rotate_left
                · intro w' hSw; (try dsimp only at hSw); go_simp <;> (try with_reducible rfl)
                (try simp only [Act.put, List.setIfInBounds_toArray, List.set_cons_zero, List.set_cons_succ])
                refine wpAnyH_take (i := 40) (oi := ({ dst := some 142, op := Op.pick (Operand.tmp 134) (Operand.tmp 141) (Operand.const (Value.bool false)), type := _, pos := _, after := _, guard := some (20, false) } : Oper)) (v := ?_) rfl (by kernel_rfl) (by kernel_rfl) (by kernel_rfl) (fun _ _ _ h => h) (Or.inl ⟨by rfl, ?_⟩) (by assumption) ?_
                rotate_left
                · intro w' hSw; (try dsimp only at hSw); go_simp <;> (try with_reducible rfl)
                (try simp only [Act.put, List.setIfInBounds_toArray, List.set_cons_zero, List.set_cons_succ])
                refine wpAnyH_take (i := 41) (oi := ({ dst := some 143, op := Op.pick (Operand.tmp 122) (Operand.const (Value.bool true)) (Operand.tmp 142), type := _, pos := _, after := _, guard := none } : Oper)) (v := ?_) rfl (by kernel_rfl) (by kernel_rfl) (by kernel_rfl) (fun _ _ _ h => h) (Or.inl ⟨by rfl, ?_⟩) (by assumption) ?_
                rotate_left
                · intro w' hSw; (try dsimp only at hSw); go_simp <;> (try with_reducible rfl)
                (try simp only [Act.put, List.setIfInBounds_toArray, List.set_cons_zero, List.set_cons_succ])
                refine wpAnyH_take (i := 42) (oi := ({ dst := some 144, op := Op.move (Operand.tmp 143), type := _, pos := _, after := _, guard := none } : Oper)) (v := ?_) rfl (by kernel_rfl) (by kernel_rfl) (by kernel_rfl) (fun _ _ _ h => h) (Or.inl ⟨by rfl, ?_⟩) (by assumption) ?_
                rotate_left
                · intro w' hSw; (try dsimp only at hSw); go_simp <;> (try with_reducible rfl)
                (try simp only [Act.put, List.setIfInBounds_toArray, List.set_cons_zero, List.set_cons_succ])
                refine wpAnyH_take (i := 43) (oi := ({ dst := some 145, op := Op.fieldAddr _ (Operand.tmp 11) 3, type := _, pos := _, after := _, guard := some (42, false) } : Oper)) (v := ?_) rfl (by kernel_rfl) (by kernel_rfl) (by kernel_rfl) (fun _ _ _ h => h) (Or.inl ⟨by rfl, ?_⟩) (by assumption) ?_
                rotate_left
                · intro w' hSw; (try dsimp only at hSw); go_simp <;> (try with_reducible rfl)
                (try simp only [Act.put, List.setIfInBounds_toArray, List.set_cons_zero, List.set_cons_succ])
                refine wpAnyH_take (i := 44) (oi := ({ dst := some 146, op := Op.load _ (Operand.tmp 145), type := _, pos := _, after := _, guard := some (42, false) } : Oper)) (v := ?_) rfl (by kernel_rfl) (by kernel_rfl) (by kernel_rfl) (fun _ _ _ h => h) (Or.inl ⟨by rfl, ?_⟩) (by assumption) ?_
                rotate_left
                · intro w' hSw; (try dsimp only at hSw); go_simp <;> (try with_reducible rfl)
                (try simp only [Act.put, List.setIfInBounds_toArray, List.set_cons_zero, List.set_cons_succ])
                refine wpAnyH_take (i := 45) (oi := ({ dst := some 147, op := Op.move (Operand.tmp 19), type := _, pos := _, after := _, guard := some (42, false) } : Oper)) (v := ?_) rfl (by kernel_rfl) (by kernel_rfl) (by kernel_rfl) (fun _ _ _ h => h) (Or.inl ⟨by rfl, ?_⟩) (by assumption) ?_
                rotate_left
                · intro w' hSw; (try dsimp only at hSw); go_simp <;> (try with_reducible rfl)
                (try simp only [Act.put, List.setIfInBounds_toArray, List.set_cons_zero, List.set_cons_succ])
                refine wpAnyH_take (i := 46) (oi := ({ dst := some 148, op := Op.indexAddr _ (Operand.tmp 146) (Operand.tmp 147), type := _, pos := _, after := _, guard := some (42, false) } : Oper)) (v := ?_) rfl (by kernel_rfl) (by kernel_rfl) (by kernel_rfl) (fun _ _ _ h => h) (Or.inl ⟨by rfl, ?_⟩) (by assumption) ?_
                rotate_left
                · intro w' hSw; (try dsimp only at hSw); go_simp <;> (try with_reducible rfl)
                (try simp only [Act.put, List.setIfInBounds_toArray, List.set_cons_zero, List.set_cons_succ])
                refine wpAnyH_take (i := 47) (oi := ({ dst := some 149, op := Op.load _ (Operand.tmp 148), type := _, pos := _, after := _, guard := some (42, false) } : Oper)) (v := ?_) rfl (by kernel_rfl) (by kernel_rfl) (by kernel_rfl) (fun _ _ _ h => h) (Or.inl ⟨by rfl, ?_⟩) (by assumption) ?_
                rotate_left
                · intro w' hSw; (try dsimp only at hSw); go_simp <;> (try with_reducible rfl)
                (try simp only [Act.put, List.setIfInBounds_toArray, List.set_cons_zero, List.set_cons_succ])
                refine wpAnyH_take (i := 49) (oi := ({ dst := some 151, op := Op.fieldAddr _ (Operand.tmp 9) 3, type := _, pos := _, after := _, guard := some (42, false) } : Oper)) (v := ?_) rfl (by kernel_rfl) (by kernel_rfl) (by kernel_rfl) (fun _ _ _ h => h) (Or.inl ⟨by rfl, ?_⟩) (by assumption) ?_
                rotate_left
                · intro w' hSw; (try dsimp only at hSw); go_simp <;> (try with_reducible rfl)
                (try simp only [Act.put, List.setIfInBounds_toArray, List.set_cons_zero, List.set_cons_succ])
                refine wpAnyH_take (i := 50) (oi := ({ dst := some 152, op := Op.load _ (Operand.tmp 151), type := _, pos := _, after := _, guard := some (42, false) } : Oper)) (v := ?_) rfl (by kernel_rfl) (by kernel_rfl) (by kernel_rfl) (fun _ _ _ h => h) (Or.inl ⟨by rfl, ?_⟩) (by assumption) ?_
                rotate_left
                · intro w' hSw; (try dsimp only at hSw); go_simp <;> (try with_reducible rfl)
                (try simp only [Act.put, List.setIfInBounds_toArray, List.set_cons_zero, List.set_cons_succ])
                refine wpAnyH_take (i := 51) (oi := ({ dst := some 153, op := Op.move (Operand.tmp 19), type := _, pos := _, after := _, guard := some (42, false) } : Oper)) (v := ?_) rfl (by kernel_rfl) (by kernel_rfl) (by kernel_rfl) (fun _ _ _ h => h) (Or.inl ⟨by rfl, ?_⟩) (by assumption) ?_
                rotate_left
                · intro w' hSw; (try dsimp only at hSw); go_simp <;> (try with_reducible rfl)
                (try simp only [Act.put, List.setIfInBounds_toArray, List.set_cons_zero, List.set_cons_succ])
                refine wpAnyH_take (i := 52) (oi := ({ dst := some 154, op := Op.indexAddr _ (Operand.tmp 152) (Operand.tmp 153), type := _, pos := _, after := _, guard := some (42, false) } : Oper)) (v := ?_) rfl (by kernel_rfl) (by kernel_rfl) (by kernel_rfl) (fun _ _ _ h => h) (Or.inl ⟨by rfl, ?_⟩) (by assumption) ?_
                rotate_left
                · intro w' hSw; (try dsimp only at hSw); go_simp <;> (try with_reducible rfl)
                (try simp only [Act.put, List.setIfInBounds_toArray, List.set_cons_zero, List.set_cons_succ])
                refine wpAnyH_take (i := 53) (oi := ({ dst := some 155, op := Op.load _ (Operand.tmp 154), type := _, pos := _, after := _, guard := some (42, false) } : Oper)) (v := ?_) rfl (by kernel_rfl) (by kernel_rfl) (by kernel_rfl) (fun _ _ _ h => h) (Or.inl ⟨by rfl, ?_⟩) (by assumption) ?_
                rotate_left
                · intro w' hSw; (try dsimp only at hSw); go_simp <;> (try with_reducible rfl)
                (try simp only [Act.put, List.setIfInBounds_toArray, List.set_cons_zero, List.set_cons_succ])
                refine wpAnyH_ready (rs := [48]) (by kernel_rfl) (by simp) ?_
                refine AllReadyH.cons (o := ({ dst := some 150, op := Op.call { callee := Callee.value (Operand.func _), args := #[Operand.tmp 149], argTypes := _ }, type := _, pos := _, after := _, guard := some (42, false) } : Oper)) rfl (fun K hK => ?_) AllReadyH.nil
                go_simp
                refine (abs_any a _ y0 y1).mono ?_
                rintro e w' ⟨rfl, hw⟩
                have hw2 := hw.symm
                clear hw
                subst hw2
                rw [HML.out]
                (try go_wp2_with fail)
                refine hK.out _ _ ?_ (fun hHeld => ?_)
                · (try dsimp only); exact hHeld
                clear hK K
                (try simp only [Act.put, List.setIfInBounds_toArray, List.set_cons_zero, List.set_cons_succ])
                refine wpAnyH_ready (rs := [54]) (by kernel_rfl) (by simp) ?_
                refine AllReadyH.cons (o := ({ dst := some 156, op := Op.call { callee := Callee.value (Operand.func _), args := #[Operand.tmp 155], argTypes := _ }, type := _, pos := _, after := _, guard := some (42, false) } : Oper)) rfl (fun K hK => ?_) AllReadyH.nil
                go_simp
                refine (abs_any x _ x0 x1).mono ?_
                rintro e w' ⟨rfl, hw⟩
                have hw2 := hw.symm
                clear hw
                subst hw2
                rw [HMX.out]
                (try go_wp2_with fail)
                refine hK.out _ _ ?_ (fun hHeld => ?_)
                · (try dsimp only); exact hHeld
                clear hK K
                (try simp only [Act.put, List.setIfInBounds_toArray, List.set_cons_zero, List.set_cons_succ])
                refine wpAnyH_take (i := 55) (oi := ({ dst := some 157, op := Op.binOp BinOp.neq _ (Operand.tmp 150) (Operand.tmp 156) _, type := _, pos := _, after := _, guard := some (42, false) } : Oper)) (v := ?_) rfl (by kernel_rfl) (by kernel_rfl) (by kernel_rfl) (fun _ _ _ h => h) (Or.inl ⟨by rfl, ?_⟩) (by assumption) ?_
                rotate_left
                · intro w' hSw; (try dsimp only at hSw); go_simp <;> (try with_reducible rfl)
                (try simp only [Act.put, List.setIfInBounds_toArray, List.set_cons_zero, List.set_cons_succ])
                refine wpAnyH_take (i := 56) (oi := ({ dst := some 158, op := Op.pick (Operand.tmp 144) (Operand.const (Value.bool true)) (Operand.tmp 157), type := _, pos := _, after := _, guard := none } : Oper)) (v := ?_) rfl (by kernel_rfl) (by kernel_rfl) (by kernel_rfl) (fun _ _ _ h => h) (Or.inl ⟨by rfl, ?_⟩) (by assumption) ?_
                rotate_left
                · intro w' hSw; (try dsimp only at hSw); go_simp <;> (try with_reducible rfl)
                (try simp only [Act.put, List.setIfInBounds_toArray, List.set_cons_zero, List.set_cons_succ])
                refine wpAnyH_done (by kernel_rfl) ?_ _
                refine NoPanic.normal ?_
                clear X_0 X_1 X_2 X_3 X_4 L_0 L_1 L_2 L_3 L_4 S_0 S_1 S_2 S_3 S_4
                have hb_ : Below w11_.heap.size w11_ w11_.drew := (Below.refl _ _).drew
                generalize w11_.drew = w200_ at hb_ ⊢
                replace BW : Hid (Below _ _ _) := bstep BW.out hb_
                replace UX : Hid (URow _ _ _ _ _) := UX.out.below hb_
                replace X : Hid (MBox _ _ _ _ _ _) := X.out.below hb_
                replace L : Hid (MBox _ _ _ _ _ _) := L.out.below hb_
                replace UL : Hid (URow _ _ _ _ _) := UL.out.below hb_
                replace S : Hid (MBox _ _ _ _ _ _) := S.out.below hb_
                replace US : Hid (URow _ _ _ _ _) := US.out.below hb_
                clear hb_ hHeld
                go_wp2
                go_roundw
                case rel => exact ⟨i + 1, by go_num, by omega, BW, UX, X, L, UL, S, US⟩
                case measure => simp [intOf]; omega
          · obtain rfl : PQ = i := by omega
            go_wp2
            go_ret
            exact ⟨ret_eq rfl, BW.out⟩

/-! ### THE ROW's STEP: WRITTEN OUT: LEAVE IT -/
set_option maxRecDepth 100000 in
theorem lifted (os : Os) (started : os.Started) (H : Type) (enc : TypeId × Value → H) :
    ReturnsInHanded {} Try.checked os 5 .any (Rows.mulOnesSpec.pre6 enc Try.prog Try.f5 Rows.mulOnesRow.domain false) (Rows.mulOnesSpec.post enc Try.prog Try.f5 false true false false) := by
  refine returnsInHanded_of_change (C := Try.checked) own started (by kernel_rfl) Try.func5
    (ChangeSpec.witness6 (enc := enc) (C := Try.checked) false ⟨#[], #[.int .i64 0, .int .i64 0, .int .i64 0, .slice none 0 0], []⟩ 8 (by kernel_rfl) (by kernel_rfl) (by kernel_rfl) (by kernel_rfl)) ?_
  intro W base args ds gs before hval0 hW hcnd _
  have hval : ∀ (j : Nat) t v, Try.f5.params[j]? = some t → args[j]? = some v → Value.okWide Try.prog W .any base t v := hval0
  have hW' := hW
  obtain ⟨p, q, hA0, hV, rfl, hfz, hnd⟩ := hW
  have hA : DataW.TrodAll enc Try.prog W 0 (fun _ => true) true Try.f5.params.toList args.toList ds p := hA0
  rw [Try.params5] at hA hval
  obtain ⟨v0, vs0, d0, ds0, p0, q0, hargs, rfl, rfl, h0, r0⟩ := trodAll_cons hA
  obtain ⟨v1, vs1, d1, ds1, p1, q1, rfl, rfl, rfl, h1, r1⟩ := trodAll_cons r0
  obtain ⟨v2, vs2, d2, ds2, p2, q2, rfl, rfl, rfl, h2, r2⟩ := trodAll_cons r1
  obtain ⟨v3, vs3, d3, ds3, p3, q3, rfl, rfl, rfl, h3, r3⟩ := trodAll_cons r2
  obtain ⟨rfl, rfl, rfl⟩ := trodAll_nil r3
  obtain rfl : args = #[v0, v1, v2, v3] := by cases args; simp_all
  obtain ⟨rfl, rfl⟩ := trodVars_none hV
  obtain ⟨a0, rfl, rfl, rfl, w0⟩ := open_int Try.underlying3 (hval 0 3 v0 rfl rfl) h0
  obtain ⟨a1, rfl, rfl, rfl, w1⟩ := open_int Try.underlying3 (hval 1 3 v1 rfl rfl) h1
  obtain ⟨a2, rfl, rfl, rfl, w2⟩ := open_int Try.underlying3 (hval 2 3 v2 rfl rfl) h2
  obtain ⟨a3, len3, cap3, rfl⟩ := okWide_slice Try.underlying22 (hval 3 22 v3 rfl rfl)
  have k3 := h3
  have lt3 : ∀ x ∈ p3, x.block < W.heap.size := by obtain ⟨m, hm⟩ := k3; exact DataW.trod_lt m _ _ _ hm
  obtain ⟨z3, w3⟩ : ∃ zs, IsRow .u64 W a3 len3 cap3 zs := by
    obtain ⟨fuel, hf⟩ := h3
    rcases open_ints Try.underlying22 Try.underlying23 (by kernel_rfl) hf with ⟨hcs, _⟩ | ⟨x, l, c, zs, hcs, _, hl, hm, hz, _, hcell, hwz⟩
    · simp [Value.cells] at hcs
      obtain ⟨rfl, rfl, rfl⟩ := hcs
      exact ⟨[], .inl ⟨rfl, rfl, rfl, rfl⟩⟩
    · simp [Value.cells] at hcs
      obtain ⟨rfl, rfl, rfl⟩ := hcs
      exact ⟨zs, .inr ⟨_, rfl, hl, hm, by simpa using hz, hcell, hwz⟩⟩
  clear hA0 hval0
  refine (walk a0 a1 a2 a3 len3 cap3 z3 W w0 w1 w2 w3).mono fun e W' ⟨he, bel⟩ => ?_
  subst he
  exact ⟨_, rfl, _, _, _, [], _, [], hW', trodAll_mk1 (shut_bool Try.underlying4 _), (trodAll_cons_mk (shut_int Try.underlying3 w0) (trodAll_cons_mk (shut_int Try.underlying3 w1) (trodAll_cons_mk (shut_int Try.underlying3 w2) (trodAll_cons_mk (Below.trod laidOut (by kernel_rfl) (of_decide_eq_true (by kernel_rfl)) k3 bel lt3) trodAll_mk0)))), rfl, bel.frame _, fun h => by cases h⟩

theorem over : Rows.mulOnesRow.holds Try.pinned (OpenSpec.ofChange Rows.mulOnesSpec) :=
  OpenClaim.holds_of_wide 5 Try.f5 rfl rfl rfl rfl rfl rfl rfl ⟨rfl, rfl, rfl, rfl, rfl⟩ rfl rfl rfl rfl rfl (by kernel_rfl) Try.func5 (by kernel_rfl)
    (of_decide_eq_true (by kernel_rfl)) (by unfold Func.isWrapper; first | (rw [if_pos (by decide +kernel)]; kernel_rfl) | (rw [if_neg (by decide +kernel)]; exact ⟨rfl, rfl⟩))
    (fun os started H enc _ => lifted os started H enc)

/-- ████ THE STATEMENT ████ -/
theorem proved : Rows.MulOnesSaid := over
#print axioms proved
end Go.Proofs.Ytpakpgjbgehhjaa.mulOnes
