/-
  The law MulWhole returns true at every input (any sizes, any slice of whole numbers), and leaves its arguments as they were. No conditions.
-/
import Derived.Test.YtpakpgjbgehhjaaRows
import Derived.WalkKit
import Derived.ProofKit
import Derived.OpenShut
import Derived.Test.YtpakpgjbgehhjaaGrAH
import Derived.Test.YtpakpgjbgehhjaaGrAI
import Derived.Test.YtpakpgjbgehhjaaGrU
import Derived.Test.YtpakpgjbgehhjaaGrV
import Derived.ShutString
import Derived.ChangeOld
import Derived.Below
namespace Go.Proofs.Ytpakpgjbgehhjaa.mulWhole
open Go.ChangeShapes Go.WideShapes Go.ChangeAt Go.RowKit
open Go.ChangeMaps (open_string shut_string)
set_option linter.unusedVariables false

theorem own : ownKnob Try.prog.godebug = none := by kernel_rfl
theorem laidOut : laidOutB Try.prog = true := by kernel_rfl

/-- WHAT THE WALK IS TOLD OF A SLICE OF INTEGERS THAT CAME IN: it is nil; or it leads to a row of 'cap' cells, the numbers 'zs' (the first 'len' are its elements, the rest its spare room), each fitting its kind. -/
def IsRow (k : IntKind) (w : World) (a : Option Addr) (len cap : Nat) (zs : List Int) : Prop :=
  (a = none ∧ len = 0 ∧ cap = 0 ∧ zs = []) ∨
  ∃ x, a = some x ∧ len ≤ cap ∧ cap ≤ maxLen ∧ zs.length = cap ∧ (∀ i, i < zs.length → w.cell? (x.add i) = some (.int k (zs.getD i 0))) ∧ ∀ n ∈ zs, (Lit.int k n).wf = true

set_option linter.unusedSimpArgs false
theorem irow_of (w : World) (a : Option Addr) (len cap : Nat) (zs : List Int) (h : IsRow .i64 w a len cap zs) : IRow w a len cap (fun i => zs.getD i 0) := by
  rcases h with ⟨rfl, rfl, rfl, rfl⟩ | ⟨x, rfl, h1, h2, h3, h4, h5⟩
  · exact ⟨Nat.le_refl _, Nat.zero_le _, fun i => by simp, fun h => absurd h (Nat.lt_irrefl 0)⟩
  · refine ⟨h1, h2, fun i => ?_, fun hp => ?_⟩
    · show -9223372036854775808 ≤ zs.getD i 0 ∧ zs.getD i 0 < 9223372036854775808
      rcases Nat.lt_or_ge i zs.length with g | g
      · have hm : zs.getD i 0 ∈ zs := by
          rw [List.getD_eq_getElem?_getD, List.getElem?_eq_getElem g]
          exact List.getElem_mem g
        obtain ⟨q1, q2⟩ := bounds_i64 (h5 _ hm)
        exact ⟨by omega, by omega⟩
      · rw [List.getD_eq_getElem?_getD, List.getElem?_eq_none g]
        simp
    · obtain ⟨b, o, s⟩ := x
      have hs : s = none := by simpa [Addr.add] using World.cell?_spot (h4 0 (by omega))
      subst hs
      have hb : b < w.heap.size := by
        have := World.block_lt_of_cell? _ _ (h4 0 (by omega))
        simpa [Addr.add] using this
      refine ⟨b, o, rfl, hb, fun i hi => ?_⟩
      have := h4 i (by omega)
      rw [add_plain] at this
      exact this
set_option maxRecDepth 100000 in
set_option maxHeartbeats 8000000 in
theorem walk (a0 : Int) (a1 : Int) (a2 : Int) (a3 : Int) (a4 : Option Addr) (len4 cap4 : Nat) (z4 : List Int) (w : World) (w0 : (Lit.int .i64 a0).wf = true) (w1 : (Lit.int .i64 a1).wf = true) (w2 : (Lit.int .i64 a2).wf = true) (w3 : (Lit.int .i64 a3).wf = true) (w4 : IsRow .i64 w a4 len4 cap4 z4) :
    Calls Try.prog 6 #[.int .i64 a0, .int .i64 a1, .int .i64 a2, .int .i64 a3, .slice a4 len4 cap4] w fun e w' => e = .returned (.bool true) ∧ Below w.heap.size w w' := by
  have hr := irow_of w a4 len4 cap4 z4 w4
  generalize (fun i => z4.getD i 0) = P at hr
  clear w0 w1 w2 w3 w4
  have a0e := and_3_i a0
  have a1e := and_3_i a1
  have a2e := and_3_i a2
  have a3e := and_3_i a3
  obtain ⟨Pn, hPn⟩ : ∃ R : Nat, (R : Int) = a0 % 4 := ⟨(a0 % 4).toNat, by omega⟩
  obtain ⟨Qn, hQn⟩ : ∃ R : Nat, (R : Int) = a1 % 4 := ⟨(a1 % 4).toNat, by omega⟩
  obtain ⟨Rn, hRn⟩ : ∃ R : Nat, (R : Int) = a2 % 4 := ⟨(a2 % 4).toNat, by omega⟩
  obtain ⟨Sn, hSn⟩ : ∃ R : Nat, (R : Int) = a3 % 4 := ⟨(a3 % 4).toNat, by omega⟩
  rw [← hPn] at a0e
  rw [← hQn] at a1e
  rw [← hRn] at a2e
  rw [← hSn] at a3e
  have hP3 : Pn ≤ 3 := by omega
  have hQ3 : Qn ≤ 3 := by omega
  have hR3 : Rn ≤ 3 := by omega
  have hS3 : Sn ≤ 3 := by omega
  clear hPn hQn hRn hSn
  have hPQ : Pn * Qn ≤ 9 := Nat.mul_le_mul hP3 hQ3
  have hQR : Qn * Rn ≤ 9 := Nat.mul_le_mul hQ3 hR3
  have hRS : Rn * Sn ≤ 9 := Nat.mul_le_mul hR3 hS3
  have hPR : Pn * Rn ≤ 9 := Nat.mul_le_mul hP3 hR3
  have hQS : Qn * Sn ≤ 9 := Nat.mul_le_mul hQ3 hS3
  have hPS : Pn * Sn ≤ 9 := Nat.mul_le_mul hP3 hS3
  have hRQ : Rn * Qn ≤ 9 := Nat.mul_le_mul hR3 hQ3
  have hSR : Sn * Rn ≤ 9 := Nat.mul_le_mul hS3 hR3
  have hSQ : Sn * Qn ≤ 9 := Nat.mul_le_mul hS3 hQ3
  obtain ⟨lx, cx⟩ := hr.lenB
  have HR : Hid (IRow _ _ _ _ _) := hr
  clear hr
  by_cases hl : 100 < len4
  · have hl2 : (100 : Int) < (len4 : Int) := by omega
    have hdl : decide ((100 : Int) < (len4 : Int)) = true := decide_eq_true hl2
    go_enter Try.func6, Try.ntmps6
    go_wp2_with fail
    have KC_ : Hid (w.heap.size < (w.alloc (.cells #[.slice a4 len4 cap4] 60)).heap.size ∧ (w.alloc (.cells #[.slice a4 len4 cap4] 60)).cell? ⟨w.heap.size, 0, none⟩ = some (.slice a4 len4 cap4)) := ⟨by simp, by simp [go_sem]⟩
    have b0_ : Below w.heap.size w (w.alloc (.cells #[.slice a4 len4 cap4] 60)) := bmore (Below.refl _ _) _
    generalize (w.alloc (.cells #[.slice a4 len4 cap4] 60)) = w0_ at KC_ b0_ ⊢
    obtain ⟨kb, hkb⟩ : ∃ k, k = w.heap.size := ⟨_, rfl⟩
    rw [← hkb] at KC_ ⊢
    clear hkb
    refine (lHead11 _).mono ?_
    rintro e w1 ⟨rfl, hb1⟩
    have y0 := (Below.cell (p := ⟨kb, 0, none⟩) hb1 KC_.out.1).trans KC_.out.2
    have b1_ := bstep b0_ hb1
    clear hb1 b0_ KC_
    go_wp2
    go_ret
    exact ⟨ret_eq rfl, b1_⟩
  have hl2 : ¬ (100 : Int) < (len4 : Int) := by omega
  have hdl : decide ((100 : Int) < (len4 : Int)) = false := decide_eq_false hl2
  obtain ⟨zA, hzA⟩ : ∃ z : Nat → Int, z = fun j => whP (wC P len4 0 64 32 j) := ⟨_, rfl⟩
  obtain ⟨zB, hzB⟩ : ∃ z : Nat → Int, z = fun j => whP (wC P len4 2 64 32 j) := ⟨_, rfl⟩
  obtain ⟨zC, hzC⟩ : ∃ z : Nat → Int, z = fun j => whP (wC P len4 5 64 32 j) := ⟨_, rfl⟩
  have HzA : Hid (_ = _) := hzA
  have HzB : Hid (_ = _) := hzB
  have HzC : Hid (_ = _) := hzC
  have MA : Hid (WMat zA (wC P len4 0 64 32) Pn Qn 32) := by rw [hzA]; exact whole_mat P len4 0 Pn Qn
  have MB : Hid (WMat zB (wC P len4 2 64 32) Qn Rn 32) := by rw [hzB]; exact whole_mat P len4 2 Qn Rn
  have MC : Hid (WMat zC (wC P len4 5 64 32) Rn Sn 32) := by rw [hzC]; exact whole_mat P len4 5 Rn Sn
  clear hzA hzB hzC
  have TA : Hid (Rgt (Pn : Int) (Qn : Int) (Qn : Int) (Pn * Qn)) := tight Pn Qn (by omega) (by omega)
  have TB : Hid (Rgt (Qn : Int) (Rn : Int) (Rn : Int) (Qn * Rn)) := tight Qn Rn (by omega) (by omega)
  have TC : Hid (Rgt (Rn : Int) (Sn : Int) (Sn : Int) (Rn * Sn)) := tight Rn Sn (by omega) (by omega)
  have TAB : Hid (Rgt (Pn : Int) (Rn : Int) (Rn : Int) (Pn * Rn)) := tight Pn Rn (by omega) (by omega)
  have TBC : Hid (Rgt (Qn : Int) (Sn : Int) (Sn : Int) (Qn * Sn)) := tight Qn Sn (by omega) (by omega)
  go_enter Try.func6, Try.ntmps6
  go_wp2_with fail
  have KC_ : Hid (w.heap.size < (w.alloc (.cells #[.slice a4 len4 cap4] 60)).heap.size ∧ (w.alloc (.cells #[.slice a4 len4 cap4] 60)).cell? ⟨w.heap.size, 0, none⟩ = some (.slice a4 len4 cap4)) := ⟨by simp, by simp [go_sem]⟩
  have b0_ : Below w.heap.size w (w.alloc (.cells #[.slice a4 len4 cap4] 60)) := bmore (Below.refl _ _) _
  generalize (w.alloc (.cells #[.slice a4 len4 cap4] 60)) = w0_ at KC_ b0_ ⊢
  obtain ⟨kb, hkb⟩ : ∃ k, k = w.heap.size := ⟨_, rfl⟩
  rw [← hkb] at KC_ ⊢
  clear hkb
  refine (lHead11 _).mono ?_
  rintro e w1 ⟨rfl, hb1⟩
  have BW : Hid (Below w.heap.size w w1) := bstep b0_ hb1
  have KC : Hid (kb < w1.heap.size ∧ w1.cell? ⟨kb, 0, none⟩ = some (.slice a4 len4 cap4)) := ⟨Nat.lt_of_lt_of_le KC_.out.1 hb1.size, (Below.cell (p := ⟨kb, 0, none⟩) hb1 KC_.out.1).trans KC_.out.2⟩
  have y0 := KC.out.2
  have IA : Hid (IRow w1 a4 len4 cap4 P) := HR.out.below BW.out
  clear hb1 HR b0_ KC_
  go_wp2_with fail
  refine (lOf11 Pn Qn 0 kb a4 len4 cap4 P _ KC.out.2 KC.out.1 IA.out (by omega) (by omega) (by omega) (by omega)).mono ?_
  rintro e w1_ ⟨gA, rfl, _, hU_, hb1_⟩
  rw [← HzA.out] at hU_
  clear y0
  replace BW : Hid (Below _ _ _) := bstep BW.out hb1_
  replace IA : Hid (IRow _ _ _ _ _) := IA.out.below hb1_
  replace KC : Hid (_ ∧ _) := ⟨Nat.lt_of_lt_of_le KC.out.1 (Below.size hb1_), (Below.cell hb1_ KC.out.1).trans KC.out.2⟩
  clear hb1_
  have UA : Hid (URow w1_ (some ⟨gA, 0, none⟩) (Pn * Qn) (Pn * Qn) zA) := hU_
  clear hU_
  go_wp2_with fail
  have m_ := MBox.made w1_ (Pn : Int) (Qn : Int) (Qn : Int) (.slice (some ⟨gA, 0, none⟩) (Pn * Qn) (Pn * Qn))
  have b_ : Below w1_.heap.size w1_ (w1_.alloc (.cells #[.int .i64 (Pn : Int), .int .i64 (Qn : Int), .int .i64 (Qn : Int), .slice (some ⟨gA, 0, none⟩) (Pn * Qn) (Pn * Qn)] 26)) := (Below.refl _ _).alloc (Nat.le_refl _) _
  obtain ⟨k_A, hk_A⟩ : ∃ k, k = w1_.heap.size := ⟨_, rfl⟩
  have L_A : Hid (w.heap.size ≤ k_A) := by rw [hk_A]; exact BW.out.size
  rw [← hk_A] at m_ ⊢
  generalize (w1_.alloc (.cells #[.int .i64 (Pn : Int), .int .i64 (Qn : Int), .int .i64 (Qn : Int), .slice (some ⟨gA, 0, none⟩) (Pn * Qn) (Pn * Qn)] 26)) = w2_ at m_ b_ ⊢
  replace BW : Hid (Below _ _ _) := bstep BW.out b_
  replace IA : Hid (IRow _ _ _ _ _) := IA.out.below b_
  replace KC : Hid (_ ∧ _) := ⟨Nat.lt_of_lt_of_le KC.out.1 (Below.size b_), (Below.cell b_ KC.out.1).trans KC.out.2⟩
  replace UA : Hid (URow _ _ _ _ _) := UA.out.below b_
  have A : Hid (MBox w2_ k_A (Pn : Int) (Qn : Int) (Qn : Int) (.slice (some ⟨gA, 0, none⟩) (Pn * Qn) (Pn * Qn))) := m_
  clear m_ b_ hk_A
  refine (lOf11 Qn Rn 2 kb a4 len4 cap4 P _ KC.out.2 KC.out.1 IA.out (by omega) (by omega) (by omega) (by omega)).mono ?_
  rintro e w3_ ⟨gB, rfl, _, hU_, hb3_⟩
  rw [← HzB.out] at hU_
  replace BW : Hid (Below _ _ _) := bstep BW.out hb3_
  replace IA : Hid (IRow _ _ _ _ _) := IA.out.below hb3_
  replace KC : Hid (_ ∧ _) := ⟨Nat.lt_of_lt_of_le KC.out.1 (Below.size hb3_), (Below.cell hb3_ KC.out.1).trans KC.out.2⟩
  replace UA : Hid (URow _ _ _ _ _) := UA.out.below hb3_
  replace A : Hid (MBox _ _ _ _ _ _) := A.out.below hb3_
  clear hb3_
  have UB : Hid (URow w3_ (some ⟨gB, 0, none⟩) (Qn * Rn) (Qn * Rn) zB) := hU_
  clear hU_
  go_wp2_with fail
  have m_ := MBox.made w3_ (Qn : Int) (Rn : Int) (Rn : Int) (.slice (some ⟨gB, 0, none⟩) (Qn * Rn) (Qn * Rn))
  have b_ : Below w3_.heap.size w3_ (w3_.alloc (.cells #[.int .i64 (Qn : Int), .int .i64 (Rn : Int), .int .i64 (Rn : Int), .slice (some ⟨gB, 0, none⟩) (Qn * Rn) (Qn * Rn)] 26)) := (Below.refl _ _).alloc (Nat.le_refl _) _
  obtain ⟨k_B, hk_B⟩ : ∃ k, k = w3_.heap.size := ⟨_, rfl⟩
  have L_B : Hid (w.heap.size ≤ k_B) := by rw [hk_B]; exact BW.out.size
  rw [← hk_B] at m_ ⊢
  generalize (w3_.alloc (.cells #[.int .i64 (Qn : Int), .int .i64 (Rn : Int), .int .i64 (Rn : Int), .slice (some ⟨gB, 0, none⟩) (Qn * Rn) (Qn * Rn)] 26)) = w4_ at m_ b_ ⊢
  replace BW : Hid (Below _ _ _) := bstep BW.out b_
  replace IA : Hid (IRow _ _ _ _ _) := IA.out.below b_
  replace KC : Hid (_ ∧ _) := ⟨Nat.lt_of_lt_of_le KC.out.1 (Below.size b_), (Below.cell b_ KC.out.1).trans KC.out.2⟩
  replace UA : Hid (URow _ _ _ _ _) := UA.out.below b_
  replace A : Hid (MBox _ _ _ _ _ _) := A.out.below b_
  replace UB : Hid (URow _ _ _ _ _) := UB.out.below b_
  have B : Hid (MBox w4_ k_B (Qn : Int) (Rn : Int) (Rn : Int) (.slice (some ⟨gB, 0, none⟩) (Qn * Rn) (Qn * Rn))) := m_
  clear m_ b_ hk_B
  refine (lOf11 Rn Sn 5 kb a4 len4 cap4 P _ KC.out.2 KC.out.1 IA.out (by omega) (by omega) (by omega) (by omega)).mono ?_
  rintro e w5_ ⟨gC, rfl, _, hU_, hb5_⟩
  rw [← HzC.out] at hU_
  replace BW : Hid (Below _ _ _) := bstep BW.out hb5_
  replace IA : Hid (IRow _ _ _ _ _) := IA.out.below hb5_
  replace KC : Hid (_ ∧ _) := ⟨Nat.lt_of_lt_of_le KC.out.1 (Below.size hb5_), (Below.cell hb5_ KC.out.1).trans KC.out.2⟩
  replace UA : Hid (URow _ _ _ _ _) := UA.out.below hb5_
  replace A : Hid (MBox _ _ _ _ _ _) := A.out.below hb5_
  replace UB : Hid (URow _ _ _ _ _) := UB.out.below hb5_
  replace B : Hid (MBox _ _ _ _ _ _) := B.out.below hb5_
  clear hb5_
  have UC : Hid (URow w5_ (some ⟨gC, 0, none⟩) (Rn * Sn) (Rn * Sn) zC) := hU_
  clear hU_
  clear IA KC
  obtain ⟨A_0, A_1, A_2, A_3, A_4⟩ := A.out
  obtain ⟨B_0, B_1, B_2, B_3, B_4⟩ := B.out
  go_upto_region 9 with fail
  have m_ := MBox.made w5_ (Rn : Int) (Sn : Int) (Sn : Int) (.slice (some ⟨gC, 0, none⟩) (Rn * Sn) (Rn * Sn))
  have b_ : Below w5_.heap.size w5_ (w5_.alloc (.cells #[.int .i64 (Rn : Int), .int .i64 (Sn : Int), .int .i64 (Sn : Int), .slice (some ⟨gC, 0, none⟩) (Rn * Sn) (Rn * Sn)] 26)) := (Below.refl _ _).alloc (Nat.le_refl _) _
  obtain ⟨k_C, hk_C⟩ : ∃ k, k = w5_.heap.size := ⟨_, rfl⟩
  have L_C : Hid (w.heap.size ≤ k_C) := by rw [hk_C]; exact BW.out.size
  rw [← hk_C] at m_ ⊢
  clear A_0 A_1 A_2 A_3 A_4 B_0 B_1 B_2 B_3 B_4
  generalize (w5_.alloc (.cells #[.int .i64 (Rn : Int), .int .i64 (Sn : Int), .int .i64 (Sn : Int), .slice (some ⟨gC, 0, none⟩) (Rn * Sn) (Rn * Sn)] 26)) = w6_ at m_ b_ ⊢
  replace BW : Hid (Below _ _ _) := bstep BW.out b_
  replace UA : Hid (URow _ _ _ _ _) := UA.out.below b_
  replace A : Hid (MBox _ _ _ _ _ _) := A.out.below b_
  replace UB : Hid (URow _ _ _ _ _) := UB.out.below b_
  replace B : Hid (MBox _ _ _ _ _ _) := B.out.below b_
  replace UC : Hid (URow _ _ _ _ _) := UC.out.below b_
  have C : Hid (MBox w6_ k_C (Rn : Int) (Sn : Int) (Sn : Int) (.slice (some ⟨gC, 0, none⟩) (Rn * Sn) (Rn * Sn))) := m_
  clear m_ b_ hk_C
  obtain ⟨A_0, A_1, A_2, A_3, A_4⟩ := A.out
  obtain ⟨B_0, B_1, B_2, B_3, B_4⟩ := B.out
  obtain ⟨C_0, C_1, C_2, C_3, C_4⟩ := C.out
  go_wp2_with fail
  have nk_ := calc_new w6_
  have bV_ : Below w6_.heap.size w6_ (w6_.alloc (.cells #[.int .u8 0] 32)) := bmore (Below.refl _ _) _
  clear A_0 A_1 A_2 A_3 A_4 B_0 B_1 B_2 B_3 B_4 C_0 C_1 C_2 C_3 C_4
  generalize (w6_.alloc (.cells #[.int .u8 0] 32)) = w7_ at nk_ bV_ ⊢
  obtain ⟨kk, hkk_⟩ : ∃ k, k = w6_.heap.size := ⟨_, rfl⟩
  rw [← hkk_] at nk_ ⊢
  have Ok : Hid (w.heap.size ≤ kk) := by show _ ≤ _; have := BW.out.size; omega
  have A_k_UA : Hid (Apt (some kk) (some ⟨gA, 0, none⟩) (Pn * Qn)) := UA.out.apt (fun k e => by injection e with e; omega)
  have A_k_A : Hid (kk ≠ k_A) := by have := A.out.2.2.2.2; show _ ≠ _; omega
  have A_k_UB : Hid (Apt (some kk) (some ⟨gB, 0, none⟩) (Qn * Rn)) := UB.out.apt (fun k e => by injection e with e; omega)
  have A_k_B : Hid (kk ≠ k_B) := by have := B.out.2.2.2.2; show _ ≠ _; omega
  have A_k_UC : Hid (Apt (some kk) (some ⟨gC, 0, none⟩) (Rn * Sn)) := UC.out.apt (fun k e => by injection e with e; omega)
  have A_k_C : Hid (kk ≠ k_C) := by have := C.out.2.2.2.2; show _ ≠ _; omega
  replace BW : Hid (Below _ _ _) := bstep BW.out bV_
  replace UA : Hid (URow _ _ _ _ _) := UA.out.below bV_
  replace A : Hid (MBox _ _ _ _ _ _) := A.out.below bV_
  replace UB : Hid (URow _ _ _ _ _) := UB.out.below bV_
  replace B : Hid (MBox _ _ _ _ _ _) := B.out.below bV_
  replace UC : Hid (URow _ _ _ _ _) := UC.out.below bV_
  replace C : Hid (MBox _ _ _ _ _ _) := C.out.below bV_
  clear bV_ hkk_
  have Hk : Hid (IsCalc w7_ (.pointer (some ⟨kk, 0, none⟩)) (some kk) (0)) := nk_
  clear nk_
  refine (mGemm (.pointer (some ⟨kk, 0, none⟩)) (some kk) 0 Pn Qn Qn _ _ _ zA Rn Rn _ _ _ zB _ Hk.out TA.out TB.out UA.out UB.out (by omega) (by omega) (by omega)).mono ?_
  rintro e w8_ ⟨gD, zD, rfl, hg_, hU_, hE_, hC_, hb8_⟩
  have ED : Hid (∀ i k, i < Pn → k < Rn → zD (i * Rn + k) = dotV (fun j => zA (i * Qn + j)) (fun j => zB (j * Rn + k)) Qn) := hE_
  have FLD : Hid (mmF 0 (fun i j => zA (i * Qn + j)) (fun k j => zB (j * Rn + k)) Qn Rn Pn = 0) := (mm_whole zA zB _ _ 32 32 Pn Qn Rn MA.out MB.out (by omega) (by decide)).1
  rw [FLD.out] at hC_
  clear hE_ FLD
  have Nkk_gD : Hid (kk ≠ gD) := fun e => absurd (Nat.lt_of_lt_of_le (Hk.out.lt _ rfl) hg_) (by rw [e]; exact Nat.lt_irrefl _)
  clear hg_
  replace BW : Hid (Below _ _ _) := Bes.old BW.out hb8_ Ok.out
  replace UA : Hid (URow _ _ _ _ _) := UA.out.bes hb8_ A_k_UA.out
  replace A : Hid (MBox _ _ _ _ _ _) := A.out.bes hb8_ (ne_some A_k_A.out)
  replace UB : Hid (URow _ _ _ _ _) := UB.out.bes hb8_ A_k_UB.out
  replace B : Hid (MBox _ _ _ _ _ _) := B.out.bes hb8_ (ne_some A_k_B.out)
  replace UC : Hid (URow _ _ _ _ _) := UC.out.bes hb8_ A_k_UC.out
  replace C : Hid (MBox _ _ _ _ _ _) := C.out.bes hb8_ (ne_some A_k_C.out)
  clear hb8_
  clear Hk
  have Hk : Hid (IsCalc w8_ (.pointer (some ⟨kk, 0, none⟩)) (some kk) (0)) := hC_
  clear hC_
  have UD : Hid (URow w8_ (some ⟨gD, 0, none⟩) (Pn * Rn) (Pn * Rn) zD) := hU_
  clear hU_
  obtain ⟨B_0, B_1, B_2, B_3, B_4⟩ := B.out
  obtain ⟨C_0, C_1, C_2, C_3, C_4⟩ := C.out
  go_wp2_with fail
  have m_ := MBox.made w8_ (Pn : Int) (Rn : Int) (Rn : Int) (.slice (some ⟨gD, 0, none⟩) (Pn * Rn) (Pn * Rn))
  have b_ : Below w8_.heap.size w8_ (w8_.alloc (.cells #[.int .i64 (Pn : Int), .int .i64 (Rn : Int), .int .i64 (Rn : Int), .slice (some ⟨gD, 0, none⟩) (Pn * Rn) (Pn * Rn)] 26)) := (Below.refl _ _).alloc (Nat.le_refl _) _
  obtain ⟨k_D, hk_D⟩ : ∃ k, k = w8_.heap.size := ⟨_, rfl⟩
  have L_D : Hid (w.heap.size ≤ k_D) := by rw [hk_D]; exact BW.out.size
  have Nkk_D : Hid (kk ≠ k_D) := by have := Hk.out.lt _ rfl; show _ ≠ _; omega
  rw [← hk_D] at m_ ⊢
  clear B_0 B_1 B_2 B_3 B_4 C_0 C_1 C_2 C_3 C_4
  generalize (w8_.alloc (.cells #[.int .i64 (Pn : Int), .int .i64 (Rn : Int), .int .i64 (Rn : Int), .slice (some ⟨gD, 0, none⟩) (Pn * Rn) (Pn * Rn)] 26)) = w9_ at m_ b_ ⊢
  replace BW : Hid (Below _ _ _) := bstep BW.out b_
  replace UA : Hid (URow _ _ _ _ _) := UA.out.below b_
  replace A : Hid (MBox _ _ _ _ _ _) := A.out.below b_
  replace UB : Hid (URow _ _ _ _ _) := UB.out.below b_
  replace B : Hid (MBox _ _ _ _ _ _) := B.out.below b_
  replace UC : Hid (URow _ _ _ _ _) := UC.out.below b_
  replace C : Hid (MBox _ _ _ _ _ _) := C.out.below b_
  replace Hk : Hid (IsCalc _ _ _ _) := Hk.out.later b_
  replace UD : Hid (URow _ _ _ _ _) := UD.out.below b_
  have D : Hid (MBox w9_ k_D (Pn : Int) (Rn : Int) (Rn : Int) (.slice (some ⟨gD, 0, none⟩) (Pn * Rn) (Pn * Rn))) := m_
  clear m_ b_ hk_D
  refine (mGemm (.pointer (some ⟨kk, 0, none⟩)) (some kk) 0 Qn Rn Rn _ _ _ zB Sn Sn _ _ _ zC _ Hk.out TB.out TC.out UB.out UC.out (by omega) (by omega) (by omega)).mono ?_
  rintro e w10_ ⟨gE, zE, rfl, hg_, hU_, hE_, hC_, hb10_⟩
  have EE : Hid (∀ i k, i < Qn → k < Sn → zE (i * Sn + k) = dotV (fun j => zB (i * Rn + j)) (fun j => zC (j * Sn + k)) Rn) := hE_
  have FLE : Hid (mmF 0 (fun i j => zB (i * Rn + j)) (fun k j => zC (j * Sn + k)) Rn Sn Qn = 0) := (mm_whole zB zC _ _ 32 32 Qn Rn Sn MB.out MC.out (by omega) (by decide)).1
  rw [FLE.out] at hC_
  clear hE_ FLE
  have Nkk_gE : Hid (kk ≠ gE) := fun e => absurd (Nat.lt_of_lt_of_le (Hk.out.lt _ rfl) hg_) (by rw [e]; exact Nat.lt_irrefl _)
  clear hg_
  replace BW : Hid (Below _ _ _) := Bes.old BW.out hb10_ Ok.out
  replace UA : Hid (URow _ _ _ _ _) := UA.out.bes hb10_ A_k_UA.out
  replace A : Hid (MBox _ _ _ _ _ _) := A.out.bes hb10_ (ne_some A_k_A.out)
  replace UB : Hid (URow _ _ _ _ _) := UB.out.bes hb10_ A_k_UB.out
  replace B : Hid (MBox _ _ _ _ _ _) := B.out.bes hb10_ (ne_some A_k_B.out)
  replace UC : Hid (URow _ _ _ _ _) := UC.out.bes hb10_ A_k_UC.out
  replace C : Hid (MBox _ _ _ _ _ _) := C.out.bes hb10_ (ne_some A_k_C.out)
  replace UD : Hid (URow _ _ _ _ _) := UD.out.bes hb10_ (Apt.ne Nkk_gD.out)
  replace D : Hid (MBox _ _ _ _ _ _) := D.out.bes hb10_ (ne_some Nkk_D.out)
  clear hb10_
  clear Hk
  have Hk : Hid (IsCalc w10_ (.pointer (some ⟨kk, 0, none⟩)) (some kk) (0)) := hC_
  clear hC_
  have UE : Hid (URow w10_ (some ⟨gE, 0, none⟩) (Qn * Sn) (Qn * Sn) zE) := hU_
  clear hU_
  obtain ⟨D_0, D_1, D_2, D_3, D_4⟩ := D.out
  obtain ⟨C_0, C_1, C_2, C_3, C_4⟩ := C.out
  go_wp2_with fail
  have m_ := MBox.made w10_ (Qn : Int) (Sn : Int) (Sn : Int) (.slice (some ⟨gE, 0, none⟩) (Qn * Sn) (Qn * Sn))
  have b_ : Below w10_.heap.size w10_ (w10_.alloc (.cells #[.int .i64 (Qn : Int), .int .i64 (Sn : Int), .int .i64 (Sn : Int), .slice (some ⟨gE, 0, none⟩) (Qn * Sn) (Qn * Sn)] 26)) := (Below.refl _ _).alloc (Nat.le_refl _) _
  obtain ⟨k_E, hk_E⟩ : ∃ k, k = w10_.heap.size := ⟨_, rfl⟩
  have L_E : Hid (w.heap.size ≤ k_E) := by rw [hk_E]; exact BW.out.size
  have Nkk_E : Hid (kk ≠ k_E) := by have := Hk.out.lt _ rfl; show _ ≠ _; omega
  rw [← hk_E] at m_ ⊢
  clear D_0 D_1 D_2 D_3 D_4 C_0 C_1 C_2 C_3 C_4
  generalize (w10_.alloc (.cells #[.int .i64 (Qn : Int), .int .i64 (Sn : Int), .int .i64 (Sn : Int), .slice (some ⟨gE, 0, none⟩) (Qn * Sn) (Qn * Sn)] 26)) = w11_ at m_ b_ ⊢
  replace BW : Hid (Below _ _ _) := bstep BW.out b_
  replace UA : Hid (URow _ _ _ _ _) := UA.out.below b_
  replace A : Hid (MBox _ _ _ _ _ _) := A.out.below b_
  replace UB : Hid (URow _ _ _ _ _) := UB.out.below b_
  replace B : Hid (MBox _ _ _ _ _ _) := B.out.below b_
  replace UC : Hid (URow _ _ _ _ _) := UC.out.below b_
  replace C : Hid (MBox _ _ _ _ _ _) := C.out.below b_
  replace UD : Hid (URow _ _ _ _ _) := UD.out.below b_
  replace D : Hid (MBox _ _ _ _ _ _) := D.out.below b_
  replace Hk : Hid (IsCalc _ _ _ _) := Hk.out.later b_
  replace UE : Hid (URow _ _ _ _ _) := UE.out.below b_
  have E : Hid (MBox w11_ k_E (Qn : Int) (Sn : Int) (Sn : Int) (.slice (some ⟨gE, 0, none⟩) (Qn * Sn) (Qn * Sn))) := m_
  clear m_ b_ hk_E
  refine (mGemm (.pointer (some ⟨kk, 0, none⟩)) (some kk) 0 Pn Rn Rn _ _ _ zD Sn Sn _ _ _ zC _ Hk.out TAB.out TC.out UD.out UC.out (by omega) (by omega) (by omega)).mono ?_
  rintro e w12_ ⟨gF, zF, rfl, hg_, hU_, hE_, hC_, hb12_⟩
  have EF : Hid (∀ i k, i < Pn → k < Sn → zF (i * Sn + k) = dotV (fun j => zD (i * Rn + j)) (fun j => zC (j * Sn + k)) Rn) := hE_
  have WS := whole_same zA zB zC zD zE zF zF _ _ _ Pn Qn Rn Sn hP3 hQ3 hR3 hS3 MA.out MB.out MC.out ED.out EE.out
  have FLF : Hid (mmF 0 (fun i j => zD (i * Rn + j)) (fun k j => zC (j * Sn + k)) Rn Sn Pn = 0) := WS.2.2.1
  clear WS
  rw [FLF.out] at hC_
  clear hE_ FLF
  have Nkk_gF : Hid (kk ≠ gF) := fun e => absurd (Nat.lt_of_lt_of_le (Hk.out.lt _ rfl) hg_) (by rw [e]; exact Nat.lt_irrefl _)
  clear hg_
  replace BW : Hid (Below _ _ _) := Bes.old BW.out hb12_ Ok.out
  replace UA : Hid (URow _ _ _ _ _) := UA.out.bes hb12_ A_k_UA.out
  replace A : Hid (MBox _ _ _ _ _ _) := A.out.bes hb12_ (ne_some A_k_A.out)
  replace UB : Hid (URow _ _ _ _ _) := UB.out.bes hb12_ A_k_UB.out
  replace B : Hid (MBox _ _ _ _ _ _) := B.out.bes hb12_ (ne_some A_k_B.out)
  replace UC : Hid (URow _ _ _ _ _) := UC.out.bes hb12_ A_k_UC.out
  replace C : Hid (MBox _ _ _ _ _ _) := C.out.bes hb12_ (ne_some A_k_C.out)
  replace UD : Hid (URow _ _ _ _ _) := UD.out.bes hb12_ (Apt.ne Nkk_gD.out)
  replace D : Hid (MBox _ _ _ _ _ _) := D.out.bes hb12_ (ne_some Nkk_D.out)
  replace UE : Hid (URow _ _ _ _ _) := UE.out.bes hb12_ (Apt.ne Nkk_gE.out)
  replace E : Hid (MBox _ _ _ _ _ _) := E.out.bes hb12_ (ne_some Nkk_E.out)
  clear hb12_
  clear Hk
  have Hk : Hid (IsCalc w12_ (.pointer (some ⟨kk, 0, none⟩)) (some kk) (0)) := hC_
  clear hC_
  have UF : Hid (URow w12_ (some ⟨gF, 0, none⟩) (Pn * Sn) (Pn * Sn) zF) := hU_
  clear hU_
  obtain ⟨A_0, A_1, A_2, A_3, A_4⟩ := A.out
  obtain ⟨E_0, E_1, E_2, E_3, E_4⟩ := E.out
  go_wp2_with fail
  have m_ := MBox.made w12_ (Pn : Int) (Sn : Int) (Sn : Int) (.slice (some ⟨gF, 0, none⟩) (Pn * Sn) (Pn * Sn))
  have b_ : Below w12_.heap.size w12_ (w12_.alloc (.cells #[.int .i64 (Pn : Int), .int .i64 (Sn : Int), .int .i64 (Sn : Int), .slice (some ⟨gF, 0, none⟩) (Pn * Sn) (Pn * Sn)] 26)) := (Below.refl _ _).alloc (Nat.le_refl _) _
  obtain ⟨k_F, hk_F⟩ : ∃ k, k = w12_.heap.size := ⟨_, rfl⟩
  have L_F : Hid (w.heap.size ≤ k_F) := by rw [hk_F]; exact BW.out.size
  have Nkk_F : Hid (kk ≠ k_F) := by have := Hk.out.lt _ rfl; show _ ≠ _; omega
  rw [← hk_F] at m_ ⊢
  clear A_0 A_1 A_2 A_3 A_4 E_0 E_1 E_2 E_3 E_4
  generalize (w12_.alloc (.cells #[.int .i64 (Pn : Int), .int .i64 (Sn : Int), .int .i64 (Sn : Int), .slice (some ⟨gF, 0, none⟩) (Pn * Sn) (Pn * Sn)] 26)) = w13_ at m_ b_ ⊢
  replace BW : Hid (Below _ _ _) := bstep BW.out b_
  replace UA : Hid (URow _ _ _ _ _) := UA.out.below b_
  replace A : Hid (MBox _ _ _ _ _ _) := A.out.below b_
  replace UB : Hid (URow _ _ _ _ _) := UB.out.below b_
  replace B : Hid (MBox _ _ _ _ _ _) := B.out.below b_
  replace UC : Hid (URow _ _ _ _ _) := UC.out.below b_
  replace C : Hid (MBox _ _ _ _ _ _) := C.out.below b_
  replace UD : Hid (URow _ _ _ _ _) := UD.out.below b_
  replace D : Hid (MBox _ _ _ _ _ _) := D.out.below b_
  replace UE : Hid (URow _ _ _ _ _) := UE.out.below b_
  replace E : Hid (MBox _ _ _ _ _ _) := E.out.below b_
  replace Hk : Hid (IsCalc _ _ _ _) := Hk.out.later b_
  replace UF : Hid (URow _ _ _ _ _) := UF.out.below b_
  have F : Hid (MBox w13_ k_F (Pn : Int) (Sn : Int) (Sn : Int) (.slice (some ⟨gF, 0, none⟩) (Pn * Sn) (Pn * Sn))) := m_
  clear m_ b_ hk_F
  refine (mGemm (.pointer (some ⟨kk, 0, none⟩)) (some kk) 0 Pn Qn Qn _ _ _ zA Sn Sn _ _ _ zE _ Hk.out TA.out TBC.out UA.out UE.out (by omega) (by omega) (by omega)).mono ?_
  rintro e w14_ ⟨gG, zG, rfl, hg_, hU_, hE_, hC_, hb14_⟩
  have EG : Hid (∀ i k, i < Pn → k < Sn → zG (i * Sn + k) = dotV (fun j => zA (i * Qn + j)) (fun j => zE (j * Sn + k)) Qn) := hE_
  have WS := whole_same zA zB zC zD zE zF zG _ _ _ Pn Qn Rn Sn hP3 hQ3 hR3 hS3 MA.out MB.out MC.out ED.out EE.out
  have FLG : Hid (mmF 0 (fun i j => zA (i * Qn + j)) (fun k j => zE (j * Sn + k)) Qn Sn Pn = 0) := WS.2.2.2.1
  have HXY : Hid (∀ n, n < Pn * Sn → zF n = zG n) := WS.2.2.2.2 EF.out EG.out
  clear WS
  rw [FLG.out] at hC_
  clear hE_ FLG
  have Nkk_gG : Hid (kk ≠ gG) := fun e => absurd (Nat.lt_of_lt_of_le (Hk.out.lt _ rfl) hg_) (by rw [e]; exact Nat.lt_irrefl _)
  clear hg_
  replace BW : Hid (Below _ _ _) := Bes.old BW.out hb14_ Ok.out
  replace UA : Hid (URow _ _ _ _ _) := UA.out.bes hb14_ A_k_UA.out
  replace A : Hid (MBox _ _ _ _ _ _) := A.out.bes hb14_ (ne_some A_k_A.out)
  replace UB : Hid (URow _ _ _ _ _) := UB.out.bes hb14_ A_k_UB.out
  replace B : Hid (MBox _ _ _ _ _ _) := B.out.bes hb14_ (ne_some A_k_B.out)
  replace UC : Hid (URow _ _ _ _ _) := UC.out.bes hb14_ A_k_UC.out
  replace C : Hid (MBox _ _ _ _ _ _) := C.out.bes hb14_ (ne_some A_k_C.out)
  replace UD : Hid (URow _ _ _ _ _) := UD.out.bes hb14_ (Apt.ne Nkk_gD.out)
  replace D : Hid (MBox _ _ _ _ _ _) := D.out.bes hb14_ (ne_some Nkk_D.out)
  replace UE : Hid (URow _ _ _ _ _) := UE.out.bes hb14_ (Apt.ne Nkk_gE.out)
  replace E : Hid (MBox _ _ _ _ _ _) := E.out.bes hb14_ (ne_some Nkk_E.out)
  replace UF : Hid (URow _ _ _ _ _) := UF.out.bes hb14_ (Apt.ne Nkk_gF.out)
  replace F : Hid (MBox _ _ _ _ _ _) := F.out.bes hb14_ (ne_some Nkk_F.out)
  clear hb14_
  clear Hk
  have Hk : Hid (IsCalc w14_ (.pointer (some ⟨kk, 0, none⟩)) (some kk) (0)) := hC_
  clear hC_
  have UG : Hid (URow w14_ (some ⟨gG, 0, none⟩) (Pn * Sn) (Pn * Sn) zG) := hU_
  clear hU_
  clear UA UB UC UD UE A B C D E
  obtain ⟨PS, hPSe⟩ : ∃ x, Pn * Sn = x := ⟨_, rfl⟩
  rw [hPSe] at UF F UG HXY hPS ⊢
  clear hPSe
  go_upto_region 14 with fail
  have m_ := MBox.made w14_ (Pn : Int) (Sn : Int) (Sn : Int) (.slice (some ⟨gG, 0, none⟩) (PS) (PS))
  have b_ : Below w14_.heap.size w14_ (w14_.alloc (.cells #[.int .i64 (Pn : Int), .int .i64 (Sn : Int), .int .i64 (Sn : Int), .slice (some ⟨gG, 0, none⟩) (PS) (PS)] 26)) := (Below.refl _ _).alloc (Nat.le_refl _) _
  obtain ⟨k_G, hk_G⟩ : ∃ k, k = w14_.heap.size := ⟨_, rfl⟩
  have L_G : Hid (w.heap.size ≤ k_G) := by rw [hk_G]; exact BW.out.size
  have Nkk_G : Hid (kk ≠ k_G) := by have := Hk.out.lt _ rfl; show _ ≠ _; omega
  rw [← hk_G] at m_ ⊢
  generalize (w14_.alloc (.cells #[.int .i64 (Pn : Int), .int .i64 (Sn : Int), .int .i64 (Sn : Int), .slice (some ⟨gG, 0, none⟩) (PS) (PS)] 26)) = w15_ at m_ b_ ⊢
  replace BW : Hid (Below _ _ _) := bstep BW.out b_
  replace UF : Hid (URow _ _ _ _ _) := UF.out.below b_
  replace F : Hid (MBox _ _ _ _ _ _) := F.out.below b_
  replace Hk : Hid (IsCalc _ _ _ _) := Hk.out.later b_
  replace UG : Hid (URow _ _ _ _ _) := UG.out.below b_
  have G : Hid (MBox w15_ k_G (Pn : Int) (Sn : Int) (Sn : Int) (.slice (some ⟨gG, 0, none⟩) (PS) (PS))) := m_
  clear m_ b_ hk_G
  obtain ⟨F_0, F_1, F_2, F_3, F_4⟩ := F.out
  obtain ⟨G_0, G_1, G_2, G_3, G_4⟩ := G.out
  obtain ⟨c1, c2, c3⟩ := calc_cell Hk.out
  go_wp2_with fail
  clear c1 c2 c3
  clear F_0 F_1 F_2 F_3 F_4 G_0 G_1 G_2 G_3 G_4
  clear Hk
  go_loopw [103] (fun s103_ wr => ∃ (i : Nat) , s103_ = .int .i64 (i : Int) ∧ i ≤ PS ∧ Hid (Below w.heap.size w wr) ∧ Hid (URow wr (some ⟨gF, 0, none⟩) (PS) (PS) zF) ∧ Hid (MBox wr k_F (Pn : Int) (Sn : Int) (Sn : Int) (.slice (some ⟨gF, 0, none⟩) (PS) (PS))) ∧ Hid (URow wr (some ⟨gG, 0, none⟩) (PS) (PS) zG) ∧ Hid (MBox wr k_G (Pn : Int) (Sn : Int) (Sn : Int) (.slice (some ⟨gG, 0, none⟩) (PS) (PS)))) (fun s103_ _ => PS - (intOf s103_).toNat)
  case atStart => exact ⟨0, rfl, Nat.zero_le _, BW, UF, F, UG, G⟩
  case round =>
    clear BW UF F UG G
    obtain ⟨i, rfl, hi_, BW, UF, F, UG, G⟩ := hrel
    obtain ⟨w16_, rfl⟩ : ∃ x, x = wr := ⟨wr, rfl⟩
    by_cases hlt : (i : Int) < (PS : Int)
    · skip
      obtain ⟨l1_, q1⟩ := UF.out.cellg i (by omega)
      obtain ⟨l2_, q2⟩ := UG.out.cellg i (by omega)
      rw [HXY.out i (by omega)] at q1
      obtain ⟨v, hv⟩ : ∃ v, zG i = v := ⟨_, rfl⟩
      rw [hv] at q1 q2
      clear hv
      obtain ⟨F_0, F_1, F_2, F_3, F_4⟩ := F.out
      obtain ⟨G_0, G_1, G_2, G_3, G_4⟩ := G.out
      go_wp2_with fail
      refine wp_region_noPanic ?_
      refine wp_region_held_drew (S := (fun w' => (w'.cell? ⟨k_F, 3, none⟩ = some (.slice (some ⟨gF, 0, none⟩) PS PS)) ∧ (w'.cell? ⟨k_G, 3, none⟩ = some (.slice (some ⟨gG, 0, none⟩) PS PS)) ∧ (w'.cell? ⟨gF, i, none⟩ = some (.int .u64 v)) ∧ (w'.cell? ⟨gG, i, none⟩ = some (.int .u64 v)))) (by kernel_rfl) ⟨F_3, G_3, q1, q2⟩ (fun hHeld => ?_)
      refine wpAnyH_take (i := 0) (oi := ({ dst := some 106, op := Op.fieldAddr _ (Operand.tmp 20) 3, type := _, pos := _, after := _, guard := none } : Oper)) (v := ?_) rfl (by kernel_rfl) (by kernel_rfl) (by kernel_rfl) (fun _ _ _ h => h) (Or.inl ⟨by rfl, ?_⟩) (by assumption) ?_
      rotate_left
      · intro w' hSw; (try dsimp only at hSw); go_simp <;> (try with_reducible rfl)
      (try simp only [Act.put, List.setIfInBounds_toArray, List.set_cons_zero, List.set_cons_succ])
      refine wpAnyH_take (i := 1) (oi := ({ dst := some 107, op := Op.load _ (Operand.tmp 106), type := _, pos := _, after := _, guard := none } : Oper)) (v := ?_) rfl (by kernel_rfl) (by kernel_rfl) (by kernel_rfl) (fun _ _ _ h => h) (Or.inl ⟨by rfl, ?_⟩) (by assumption) ?_
      rotate_left
      · intro w' hSw; (try dsimp only at hSw); go_simp <;> (try with_reducible rfl)
      (try simp only [Act.put, List.setIfInBounds_toArray, List.set_cons_zero, List.set_cons_succ])
      refine wpAnyH_take (i := 2) (oi := ({ dst := some 108, op := Op.move (Operand.tmp 24), type := _, pos := _, after := _, guard := none } : Oper)) (v := ?_) rfl (by kernel_rfl) (by kernel_rfl) (by kernel_rfl) (fun _ _ _ h => h) (Or.inl ⟨by rfl, ?_⟩) (by assumption) ?_
      rotate_left
      · intro w' hSw; (try dsimp only at hSw); go_simp <;> (try with_reducible rfl)
      (try simp only [Act.put, List.setIfInBounds_toArray, List.set_cons_zero, List.set_cons_succ])
      refine wpAnyH_take (i := 3) (oi := ({ dst := some 109, op := Op.indexAddr _ (Operand.tmp 107) (Operand.tmp 108), type := _, pos := _, after := _, guard := none } : Oper)) (v := ?_) rfl (by kernel_rfl) (by kernel_rfl) (by kernel_rfl) (fun _ _ _ h => h) (Or.inl ⟨by rfl, ?_⟩) (by assumption) ?_
      rotate_left
      · intro w' hSw; (try dsimp only at hSw); go_simp <;> (try with_reducible rfl)
      (try simp only [Act.put, List.setIfInBounds_toArray, List.set_cons_zero, List.set_cons_succ])
      refine wpAnyH_take (i := 4) (oi := ({ dst := some 110, op := Op.load _ (Operand.tmp 109), type := _, pos := _, after := _, guard := none } : Oper)) (v := ?_) rfl (by kernel_rfl) (by kernel_rfl) (by kernel_rfl) (fun _ _ _ h => h) (Or.inl ⟨by rfl, ?_⟩) (by assumption) ?_
      rotate_left
      · intro w' hSw; (try dsimp only at hSw); go_simp <;> (try with_reducible rfl)
      (try simp only [Act.put, List.setIfInBounds_toArray, List.set_cons_zero, List.set_cons_succ])
      refine wpAnyH_take (i := 5) (oi := ({ dst := some 111, op := Op.fieldAddr _ (Operand.tmp 22) 3, type := _, pos := _, after := _, guard := none } : Oper)) (v := ?_) rfl (by kernel_rfl) (by kernel_rfl) (by kernel_rfl) (fun _ _ _ h => h) (Or.inl ⟨by rfl, ?_⟩) (by assumption) ?_
      rotate_left
      · intro w' hSw; (try dsimp only at hSw); go_simp <;> (try with_reducible rfl)
      (try simp only [Act.put, List.setIfInBounds_toArray, List.set_cons_zero, List.set_cons_succ])
      refine wpAnyH_take (i := 6) (oi := ({ dst := some 112, op := Op.load _ (Operand.tmp 111), type := _, pos := _, after := _, guard := none } : Oper)) (v := ?_) rfl (by kernel_rfl) (by kernel_rfl) (by kernel_rfl) (fun _ _ _ h => h) (Or.inl ⟨by rfl, ?_⟩) (by assumption) ?_
      rotate_left
      · intro w' hSw; (try dsimp only at hSw); go_simp <;> (try with_reducible rfl)
      (try simp only [Act.put, List.setIfInBounds_toArray, List.set_cons_zero, List.set_cons_succ])
      refine wpAnyH_take (i := 7) (oi := ({ dst := some 113, op := Op.move (Operand.tmp 24), type := _, pos := _, after := _, guard := none } : Oper)) (v := ?_) rfl (by kernel_rfl) (by kernel_rfl) (by kernel_rfl) (fun _ _ _ h => h) (Or.inl ⟨by rfl, ?_⟩) (by assumption) ?_
      rotate_left
      · intro w' hSw; (try dsimp only at hSw); go_simp <;> (try with_reducible rfl)
      (try simp only [Act.put, List.setIfInBounds_toArray, List.set_cons_zero, List.set_cons_succ])
      refine wpAnyH_take (i := 8) (oi := ({ dst := some 114, op := Op.indexAddr _ (Operand.tmp 112) (Operand.tmp 113), type := _, pos := _, after := _, guard := none } : Oper)) (v := ?_) rfl (by kernel_rfl) (by kernel_rfl) (by kernel_rfl) (fun _ _ _ h => h) (Or.inl ⟨by rfl, ?_⟩) (by assumption) ?_
      rotate_left
      · intro w' hSw; (try dsimp only at hSw); go_simp <;> (try with_reducible rfl)
      (try simp only [Act.put, List.setIfInBounds_toArray, List.set_cons_zero, List.set_cons_succ])
      refine wpAnyH_take (i := 9) (oi := ({ dst := some 115, op := Op.load _ (Operand.tmp 114), type := _, pos := _, after := _, guard := none } : Oper)) (v := ?_) rfl (by kernel_rfl) (by kernel_rfl) (by kernel_rfl) (fun _ _ _ h => h) (Or.inl ⟨by rfl, ?_⟩) (by assumption) ?_
      rotate_left
      · intro w' hSw; (try dsimp only at hSw); go_simp <;> (try with_reducible rfl)
      (try simp only [Act.put, List.setIfInBounds_toArray, List.set_cons_zero, List.set_cons_succ])
      refine wpAnyH_take (i := 10) (oi := ({ dst := some 116, op := Op.binOp BinOp.neq _ (Operand.tmp 110) (Operand.tmp 115) _, type := _, pos := _, after := _, guard := none } : Oper)) (v := ?_) rfl (by kernel_rfl) (by kernel_rfl) (by kernel_rfl) (fun _ _ _ h => h) (Or.inl ⟨by rfl, ?_⟩) (by assumption) ?_
      rotate_left
      · intro w' hSw; (try dsimp only at hSw); go_simp <;> (try with_reducible rfl)
      (try simp only [Act.put, List.setIfInBounds_toArray, List.set_cons_zero, List.set_cons_succ])
      refine wpAnyH_take (i := 11) (oi := ({ dst := some 117, op := Op.move (Operand.tmp 116), type := _, pos := _, after := _, guard := none } : Oper)) (v := ?_) rfl (by kernel_rfl) (by kernel_rfl) (by kernel_rfl) (fun _ _ _ h => h) (Or.inl ⟨by rfl, ?_⟩) (by assumption) ?_
      rotate_left
      · intro w' hSw; (try dsimp only at hSw); go_simp <;> (try with_reducible rfl)
      (try simp only [Act.put, List.setIfInBounds_toArray, List.set_cons_zero, List.set_cons_succ])
      refine wpAnyH_take (i := 12) (oi := ({ dst := some 118, op := Op.fieldAddr _ (Operand.tmp 20) 3, type := _, pos := _, after := _, guard := some (11, true) } : Oper)) (v := undef) rfl (by kernel_rfl) (by kernel_rfl) (by kernel_rfl) (fun _ _ _ h => h) (Or.inr ⟨by kernel_rfl, rfl⟩) (by assumption) ?_
      (try simp only [Act.put, List.setIfInBounds_toArray, List.set_cons_zero, List.set_cons_succ])
      refine wpAnyH_take (i := 13) (oi := ({ dst := some 119, op := Op.load _ (Operand.tmp 118), type := _, pos := _, after := _, guard := some (11, true) } : Oper)) (v := undef) rfl (by kernel_rfl) (by kernel_rfl) (by kernel_rfl) (fun _ _ _ h => h) (Or.inr ⟨by kernel_rfl, rfl⟩) (by assumption) ?_
      (try simp only [Act.put, List.setIfInBounds_toArray, List.set_cons_zero, List.set_cons_succ])
      refine wpAnyH_take (i := 14) (oi := ({ dst := some 120, op := Op.move (Operand.tmp 24), type := _, pos := _, after := _, guard := some (11, true) } : Oper)) (v := undef) rfl (by kernel_rfl) (by kernel_rfl) (by kernel_rfl) (fun _ _ _ h => h) (Or.inr ⟨by kernel_rfl, rfl⟩) (by assumption) ?_
      (try simp only [Act.put, List.setIfInBounds_toArray, List.set_cons_zero, List.set_cons_succ])
      refine wpAnyH_take (i := 15) (oi := ({ dst := some 121, op := Op.indexAddr _ (Operand.tmp 119) (Operand.tmp 120), type := _, pos := _, after := _, guard := some (11, true) } : Oper)) (v := undef) rfl (by kernel_rfl) (by kernel_rfl) (by kernel_rfl) (fun _ _ _ h => h) (Or.inr ⟨by kernel_rfl, rfl⟩) (by assumption) ?_
      (try simp only [Act.put, List.setIfInBounds_toArray, List.set_cons_zero, List.set_cons_succ])
      refine wpAnyH_take (i := 16) (oi := ({ dst := some 122, op := Op.load _ (Operand.tmp 121), type := _, pos := _, after := _, guard := some (11, true) } : Oper)) (v := undef) rfl (by kernel_rfl) (by kernel_rfl) (by kernel_rfl) (fun _ _ _ h => h) (Or.inr ⟨by kernel_rfl, rfl⟩) (by assumption) ?_
      (try simp only [Act.put, List.setIfInBounds_toArray, List.set_cons_zero, List.set_cons_succ])
      refine wpAnyH_take (i := 17) (oi := ({ dst := some 123, op := Op.call { callee := Callee.value (Operand.func _), args := #[Operand.tmp 122], argTypes := _ }, type := _, pos := _, after := _, guard := some (11, true) } : Oper)) (v := undef) rfl (by kernel_rfl) (by kernel_rfl) (by kernel_rfl) (fun _ _ _ h => h) (Or.inr ⟨by kernel_rfl, rfl⟩) (by assumption) ?_
      (try simp only [Act.put, List.setIfInBounds_toArray, List.set_cons_zero, List.set_cons_succ])
      refine wpAnyH_take (i := 18) (oi := ({ dst := some 124, op := Op.binOp BinOp.neq _ (Operand.tmp 123) (Operand.const (Value.int IntKind.u64 0)) _, type := _, pos := _, after := _, guard := some (11, true) } : Oper)) (v := undef) rfl (by kernel_rfl) (by kernel_rfl) (by kernel_rfl) (fun _ _ _ h => h) (Or.inr ⟨by kernel_rfl, rfl⟩) (by assumption) ?_
      (try simp only [Act.put, List.setIfInBounds_toArray, List.set_cons_zero, List.set_cons_succ])
      refine wpAnyH_take (i := 19) (oi := ({ dst := some 125, op := Op.move (Operand.tmp 124), type := _, pos := _, after := _, guard := some (11, true) } : Oper)) (v := undef) rfl (by kernel_rfl) (by kernel_rfl) (by kernel_rfl) (fun _ _ _ h => h) (Or.inr ⟨by kernel_rfl, rfl⟩) (by assumption) ?_
      (try simp only [Act.put, List.setIfInBounds_toArray, List.set_cons_zero, List.set_cons_succ])
      refine wpAnyH_take (i := 20) (oi := ({ dst := some 126, op := Op.fieldAddr _ (Operand.tmp 22) 3, type := _, pos := _, after := _, guard := some (19, false) } : Oper)) (v := undef) rfl (by kernel_rfl) (by kernel_rfl) (by kernel_rfl) (fun _ _ _ h => h) (Or.inr ⟨by kernel_rfl, rfl⟩) (by assumption) ?_
      (try simp only [Act.put, List.setIfInBounds_toArray, List.set_cons_zero, List.set_cons_succ])
      refine wpAnyH_take (i := 21) (oi := ({ dst := some 127, op := Op.load _ (Operand.tmp 126), type := _, pos := _, after := _, guard := some (19, false) } : Oper)) (v := undef) rfl (by kernel_rfl) (by kernel_rfl) (by kernel_rfl) (fun _ _ _ h => h) (Or.inr ⟨by kernel_rfl, rfl⟩) (by assumption) ?_
      (try simp only [Act.put, List.setIfInBounds_toArray, List.set_cons_zero, List.set_cons_succ])
      refine wpAnyH_take (i := 22) (oi := ({ dst := some 128, op := Op.move (Operand.tmp 24), type := _, pos := _, after := _, guard := some (19, false) } : Oper)) (v := undef) rfl (by kernel_rfl) (by kernel_rfl) (by kernel_rfl) (fun _ _ _ h => h) (Or.inr ⟨by kernel_rfl, rfl⟩) (by assumption) ?_
      (try simp only [Act.put, List.setIfInBounds_toArray, List.set_cons_zero, List.set_cons_succ])
      refine wpAnyH_take (i := 23) (oi := ({ dst := some 129, op := Op.indexAddr _ (Operand.tmp 127) (Operand.tmp 128), type := _, pos := _, after := _, guard := some (19, false) } : Oper)) (v := undef) rfl (by kernel_rfl) (by kernel_rfl) (by kernel_rfl) (fun _ _ _ h => h) (Or.inr ⟨by kernel_rfl, rfl⟩) (by assumption) ?_
      (try simp only [Act.put, List.setIfInBounds_toArray, List.set_cons_zero, List.set_cons_succ])
      refine wpAnyH_take (i := 24) (oi := ({ dst := some 130, op := Op.load _ (Operand.tmp 129), type := _, pos := _, after := _, guard := some (19, false) } : Oper)) (v := undef) rfl (by kernel_rfl) (by kernel_rfl) (by kernel_rfl) (fun _ _ _ h => h) (Or.inr ⟨by kernel_rfl, rfl⟩) (by assumption) ?_
      (try simp only [Act.put, List.setIfInBounds_toArray, List.set_cons_zero, List.set_cons_succ])
      refine wpAnyH_take (i := 25) (oi := ({ dst := some 131, op := Op.call { callee := Callee.value (Operand.func _), args := #[Operand.tmp 130], argTypes := _ }, type := _, pos := _, after := _, guard := some (19, false) } : Oper)) (v := undef) rfl (by kernel_rfl) (by kernel_rfl) (by kernel_rfl) (fun _ _ _ h => h) (Or.inr ⟨by kernel_rfl, rfl⟩) (by assumption) ?_
      (try simp only [Act.put, List.setIfInBounds_toArray, List.set_cons_zero, List.set_cons_succ])
      refine wpAnyH_take (i := 26) (oi := ({ dst := some 132, op := Op.binOp BinOp.neq _ (Operand.tmp 131) (Operand.const (Value.int IntKind.u64 0)) _, type := _, pos := _, after := _, guard := some (19, false) } : Oper)) (v := undef) rfl (by kernel_rfl) (by kernel_rfl) (by kernel_rfl) (fun _ _ _ h => h) (Or.inr ⟨by kernel_rfl, rfl⟩) (by assumption) ?_
      (try simp only [Act.put, List.setIfInBounds_toArray, List.set_cons_zero, List.set_cons_succ])
      refine wpAnyH_take (i := 27) (oi := ({ dst := some 133, op := Op.pick (Operand.tmp 125) (Operand.const (Value.bool true)) (Operand.tmp 132), type := _, pos := _, after := _, guard := some (11, true) } : Oper)) (v := undef) rfl (by kernel_rfl) (by kernel_rfl) (by kernel_rfl) (fun _ _ _ h => h) (Or.inr ⟨by kernel_rfl, rfl⟩) (by assumption) ?_
      (try simp only [Act.put, List.setIfInBounds_toArray, List.set_cons_zero, List.set_cons_succ])
      refine wpAnyH_take (i := 28) (oi := ({ dst := some 134, op := Op.pick (Operand.tmp 117) (Operand.tmp 133) (Operand.const (Value.bool false)), type := _, pos := _, after := _, guard := none } : Oper)) (v := ?_) rfl (by kernel_rfl) (by kernel_rfl) (by kernel_rfl) (fun _ _ _ h => h) (Or.inl ⟨by rfl, ?_⟩) (by assumption) ?_
      rotate_left
      · intro w' hSw; (try dsimp only at hSw); go_simp <;> (try with_reducible rfl)
      (try simp only [Act.put, List.setIfInBounds_toArray, List.set_cons_zero, List.set_cons_succ])
      refine wpAnyH_done (by kernel_rfl) ?_ _
      refine NoPanic.normal ?_
      clear F_0 F_1 F_2 F_3 F_4 G_0 G_1 G_2 G_3 G_4
      have hb_ : Below w16_.heap.size w16_ w16_.drew := (Below.refl _ _).drew
      generalize w16_.drew = w200_ at hb_ ⊢
      replace BW : Hid (Below _ _ _) := bstep BW.out hb_
      replace UF : Hid (URow _ _ _ _ _) := UF.out.below hb_
      replace F : Hid (MBox _ _ _ _ _ _) := F.out.below hb_
      replace UG : Hid (URow _ _ _ _ _) := UG.out.below hb_
      replace G : Hid (MBox _ _ _ _ _ _) := G.out.below hb_
      clear hb_
      go_wp2
      go_roundw
      case rel => exact ⟨i + 1, by go_num, by omega, BW, UF, F, UG, G⟩
      case measure => simp [intOf]; omega
    · obtain rfl : PS = i := by omega
      go_wp2
      go_ret
      exact ⟨ret_eq rfl, BW.out⟩

/-! ### THE ROW's STEP: WRITTEN OUT: LEAVE IT -/
set_option maxRecDepth 100000 in
theorem lifted (os : Os) (started : os.Started) (H : Type) (enc : TypeId × Value → H) :
    ReturnsInHanded {} Try.checked os 6 .any (Rows.mulWholeSpec.pre6 enc Try.prog Try.f6 Rows.mulWholeRow.domain false) (Rows.mulWholeSpec.post enc Try.prog Try.f6 false true false false) := by
  refine returnsInHanded_of_change (C := Try.checked) own started (by kernel_rfl) Try.func6
    (ChangeSpec.witness6 (enc := enc) (C := Try.checked) false ⟨#[], #[.int .i64 0, .int .i64 0, .int .i64 0, .int .i64 0, .slice none 0 0], []⟩ 8 (by kernel_rfl) (by kernel_rfl) (by kernel_rfl) (by kernel_rfl)) ?_
  intro W base args ds gs before hval0 hW hcnd _
  have hval : ∀ (j : Nat) t v, Try.f6.params[j]? = some t → args[j]? = some v → Value.okWide Try.prog W .any base t v := hval0
  have hW' := hW
  obtain ⟨p, q, hA0, hV, rfl, hfz, hnd⟩ := hW
  have hA : DataW.TrodAll enc Try.prog W 0 (fun _ => true) true Try.f6.params.toList args.toList ds p := hA0
  rw [Try.params6] at hA hval
  obtain ⟨v0, vs0, d0, ds0, p0, q0, hargs, rfl, rfl, h0, r0⟩ := trodAll_cons hA
  obtain ⟨v1, vs1, d1, ds1, p1, q1, rfl, rfl, rfl, h1, r1⟩ := trodAll_cons r0
  obtain ⟨v2, vs2, d2, ds2, p2, q2, rfl, rfl, rfl, h2, r2⟩ := trodAll_cons r1
  obtain ⟨v3, vs3, d3, ds3, p3, q3, rfl, rfl, rfl, h3, r3⟩ := trodAll_cons r2
  obtain ⟨v4, vs4, d4, ds4, p4, q4, rfl, rfl, rfl, h4, r4⟩ := trodAll_cons r3
  obtain ⟨rfl, rfl, rfl⟩ := trodAll_nil r4
  obtain rfl : args = #[v0, v1, v2, v3, v4] := by cases args; simp_all
  obtain ⟨rfl, rfl⟩ := trodVars_none hV
  obtain ⟨a0, rfl, rfl, rfl, w0⟩ := open_int Try.underlying3 (hval 0 3 v0 rfl rfl) h0
  obtain ⟨a1, rfl, rfl, rfl, w1⟩ := open_int Try.underlying3 (hval 1 3 v1 rfl rfl) h1
  obtain ⟨a2, rfl, rfl, rfl, w2⟩ := open_int Try.underlying3 (hval 2 3 v2 rfl rfl) h2
  obtain ⟨a3, rfl, rfl, rfl, w3⟩ := open_int Try.underlying3 (hval 3 3 v3 rfl rfl) h3
  obtain ⟨a4, len4, cap4, rfl⟩ := okWide_slice Try.underlying60 (hval 4 60 v4 rfl rfl)
  have k4 := h4
  have lt4 : ∀ x ∈ p4, x.block < W.heap.size := by obtain ⟨m, hm⟩ := k4; exact DataW.trod_lt m _ _ _ hm
  obtain ⟨z4, w4⟩ : ∃ zs, IsRow .i64 W a4 len4 cap4 zs := by
    obtain ⟨fuel, hf⟩ := h4
    rcases open_ints Try.underlying60 Try.underlying3 (by kernel_rfl) hf with ⟨hcs, _⟩ | ⟨x, l, c, zs, hcs, _, hl, hm, hz, _, hcell, hwz⟩
    · simp [Value.cells] at hcs
      obtain ⟨rfl, rfl, rfl⟩ := hcs
      exact ⟨[], .inl ⟨rfl, rfl, rfl, rfl⟩⟩
    · simp [Value.cells] at hcs
      obtain ⟨rfl, rfl, rfl⟩ := hcs
      exact ⟨zs, .inr ⟨_, rfl, hl, hm, by simpa using hz, hcell, hwz⟩⟩
  clear hA0 hval0
  refine (walk a0 a1 a2 a3 a4 len4 cap4 z4 W w0 w1 w2 w3 w4).mono fun e W' ⟨he, bel⟩ => ?_
  subst he
  exact ⟨_, rfl, _, _, _, [], _, [], hW', trodAll_mk1 (shut_bool Try.underlying4 _), (trodAll_cons_mk (shut_int Try.underlying3 w0) (trodAll_cons_mk (shut_int Try.underlying3 w1) (trodAll_cons_mk (shut_int Try.underlying3 w2) (trodAll_cons_mk (shut_int Try.underlying3 w3) (trodAll_cons_mk (Below.trod laidOut (by kernel_rfl) (of_decide_eq_true (by kernel_rfl)) k4 bel lt4) trodAll_mk0))))), rfl, bel.frame _, fun h => by cases h⟩

theorem over : Rows.mulWholeRow.holds Try.pinned (OpenSpec.ofChange Rows.mulWholeSpec) :=
  OpenClaim.holds_of_wide 6 Try.f6 rfl rfl rfl rfl rfl rfl rfl ⟨rfl, rfl, rfl, rfl, rfl⟩ rfl rfl rfl rfl rfl (by kernel_rfl) Try.func6 (by kernel_rfl)
    (of_decide_eq_true (by kernel_rfl)) (by unfold Func.isWrapper; first | (rw [if_pos (by decide +kernel)]; kernel_rfl) | (rw [if_neg (by decide +kernel)]; exact ⟨rfl, rfl⟩))
    (fun os started H enc _ => lifted os started H enc)

/-- ████ THE STATEMENT ████ -/
theorem proved : Rows.MulWholeSaid := over
#print axioms proved
end Go.Proofs.Ytpakpgjbgehhjaa.mulWhole
