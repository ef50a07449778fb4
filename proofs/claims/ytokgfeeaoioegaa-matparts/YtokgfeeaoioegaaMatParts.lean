/-
  The law MatParts returns true at every input (any sizes, any slice of patterns, any places), and leaves its arguments as they were. No conditions.
-/
import Derived.Test.YtokgfeeaoioegaaRows
import Derived.WalkKit
import Derived.ProofKit
import Derived.OpenShut
import Derived.Test.YtokgfeeaoioegaaGrN
import Derived.ShutString
import Derived.ChangeOld
import Derived.Below
namespace Go.Proofs.Ytokgfeeaoioegaa.matParts
open Go.ChangeShapes Go.WideShapes Go.ChangeAt Go.RowKit
open Go.ChangeMaps (open_string shut_string)
set_option linter.unusedVariables false

theorem own : ownKnob Try.prog.godebug = none := by kernel_rfl
theorem laidOut : laidOutB Try.prog = true := by kernel_rfl

/-- WHAT THE WALK IS TOLD OF A SLICE OF INTEGERS THAT CAME IN: it is nil; or it leads to a row of 'cap' cells, the numbers 'zs' (the first 'len' are its elements, the rest its spare room), each fitting its kind. -/
def IsRow (k : IntKind) (w : World) (a : Option Addr) (len cap : Nat) (zs : List Int) : Prop :=
  (a = none ∧ len = 0 ∧ cap = 0 ∧ zs = []) ∨
  ∃ x, a = some x ∧ len ≤ cap ∧ cap ≤ maxLen ∧ zs.length = cap ∧ (∀ i, i < zs.length → w.cell? (x.add i) = some (.int k (zs.getD i 0))) ∧ ∀ n ∈ zs, (Lit.int k n).wf = true

set_option linter.unusedSimpArgs false
theorem row_of (w : World) (a : Option Addr) (len cap : Nat) (zs : List Int) (h : IsRow .u64 w a len cap zs) : URow w a len cap (fun i => zs.getD i 0) := by
  rcases h with ⟨rfl, rfl, rfl, rfl⟩ | ⟨x, rfl, h1, h2, h3, h4, h5⟩
  · exact ⟨Nat.le_refl _, Nat.zero_le _, fun i => by simp, fun h => absurd h (Nat.lt_irrefl 0)⟩
  · refine ⟨h1, h2, fun i => ?_, fun hp => ?_⟩
    · show 0 ≤ zs.getD i 0 ∧ zs.getD i 0 < 18446744073709551616
      rcases Nat.lt_or_ge i zs.length with g | g
      · have hm : zs.getD i 0 ∈ zs := by
          rw [List.getD_eq_getElem?_getD, List.getElem?_eq_getElem g]
          exact List.getElem_mem g
        obtain ⟨q1, q2⟩ := bounds_u64 (h5 _ hm)
        exact ⟨q1, by omega⟩
      · rw [List.getD_eq_getElem?_getD, List.getElem?_eq_none g]
        simp
    · obtain ⟨b, o, s⟩ := x
      have hs : s = none := by simpa [Addr.add] using World.cell?_spot (h4 0 (by omega))
      subst hs
      have hb : b < w.heap.size := by
        have := World.block_lt_of_cell? _ _ (h4 0 (by omega))
        simpa [Addr.add] using this
      refine ⟨b, o, rfl, hb, fun i hi => ?_⟩
      have := h4 i (by omega)
      rw [add_plain] at this
      exact this
set_option maxRecDepth 100000 in
set_option maxHeartbeats 1000000 in
theorem walk (a0 : Int) (a1 : Int) (a2 : Int) (a3 : Option Addr) (len3 cap3 : Nat) (z3 : List Int) (a4 : Int) (a5 : Int) (a6 : Int) (a7 : Int) (w : World) (w0 : (Lit.int .i64 a0).wf = true) (w1 : (Lit.int .i64 a1).wf = true) (w2 : (Lit.int .i64 a2).wf = true) (w3 : IsRow .u64 w a3 len3 cap3 z3) (w4 : (Lit.int .i64 a4).wf = true) (w5 : (Lit.int .i64 a5).wf = true) (w6 : (Lit.int .i64 a6).wf = true) (w7 : (Lit.int .i64 a7).wf = true) :
    Calls Try.prog 8 #[.int .i64 a0, .int .i64 a1, .int .i64 a2, .slice a3 len3 cap3, .int .i64 a4, .int .i64 a5, .int .i64 a6, .int .i64 a7] w fun e w' => e = .returned (.bool true) ∧ Below w.heap.size w w' := by
  have hr := row_of w a3 len3 cap3 z3 w3
  generalize (fun i => z3.getD i 0) = U at hr
  clear w0 w1 w2 w3 w4 w5 w6 w7
  obtain ⟨R, hR⟩ : ∃ R : Nat, (R : Int) = a0 % 8 := ⟨(a0 % 8).toNat, by omega⟩
  obtain ⟨C, hC⟩ : ∃ C : Nat, (C : Int) = a1 % 8 := ⟨(a1 % 8).toNat, by omega⟩
  obtain ⟨S, hS⟩ : ∃ S : Nat, (S : Int) = a1 % 8 + a2 % 4 := ⟨(a1 % 8 + a2 % 4).toNat, by omega⟩
  by_cases hl : 100 < len3
  · obtain ⟨h1, h2, hz, h4⟩ := hr
    have hl2 : (100 : Int) < (len3 : Int) := by omega
    clear hz h4 hR hC hS
    go_enter Try.func8, Try.ntmps8
    go_wp2_with fail
    refine (lHead9 _).mono ?_
    rintro e w1 ⟨rfl, hb1⟩
    go_wp2
    go_ret
    exact ⟨ret_eq rfl, hb1⟩
  · have hl2 : ¬ (100 : Int) < (len3 : Int) := by omega
    have hdl : decide ((100 : Int) < (len3 : Int)) = false := by simp; omega
    have HR : Hid (URow _ _ _ _ _) := hr
    have hR7 : R ≤ 7 := by omega
    have hC7 : C ≤ 7 := by omega
    have hS7 : S ≤ 10 := by omega
    have hCS : C ≤ S := by omega
    have hRC : R * C ≤ 49 := Nat.mul_le_mul hR7 hC7
    have hRS : R * S ≤ 70 := Nat.mul_le_mul hR7 hS7
    have PR : Hid ((R : Int) = a0 % 8) := hR
    have PC : Hid ((C : Int) = a1 % 8) := hC
    have PS : Hid ((S : Int) = a1 % 8 + a2 % 4) := hS
    clear hr hR hC hS
    have a4e := and_3_i a4
    have a5e := and_3_i a5
    have a6e := and_3_i a6
    have a7e := and_3_i a7
    obtain ⟨I, hI⟩ : ∃ I : Nat, a4 % 4 = (I : Int) := ⟨(a4 % 4).toNat, by omega⟩
    obtain ⟨K, hK⟩ : ∃ I : Nat, a5 % 4 = (I : Int) := ⟨(a5 % 4).toNat, by omega⟩
    obtain ⟨P, hP⟩ : ∃ I : Nat, a6 % 4 = (I : Int) := ⟨(a6 % 4).toNat, by omega⟩
    obtain ⟨Q, hQ⟩ : ∃ I : Nat, a7 % 4 = (I : Int) := ⟨(a7 % 4).toNat, by omega⟩
    have hI3 : I ≤ 3 := by omega
    have hK3 : K ≤ 3 := by omega
    have hP3 : P ≤ 3 := by omega
    have hQ3 : Q ≤ 3 := by omega
    rw [hI] at a4e
    rw [hK] at a5e
    rw [hP] at a6e
    rw [hQ] at a7e
    clear hI hK hP hQ
    go_enter Try.func8, Try.ntmps8
    go_wp2_with fail
    refine (lHead9 _).mono ?_
    rintro e w1 ⟨rfl, hb1⟩
    have B1 : Hid (Below w.heap.size w w1) := hb1
    clear hb1
    go_wp2_with fail
    refine (lMadeZ a0 a1 a2 a3 len3 cap3 U R C S w1 PR.out PC.out PS.out (HR.out.below B1.out) (by omega)).mono ?_
    rintro e w2 ⟨g, Z, rfl, _, hx, _, hb2⟩
    have UZ : Hid (URow w2 (some ⟨g, 0, none⟩) (R * S) (R * S) Z) := hx
    have BW : Hid (Below w.heap.size w w2) := bstep B1.out hb2
    have T2 : Hid (Rgt (R : Int) (C : Int) (S : Int) (R * S)) := loose R C S (by omega) hCS (by omega)
    clear hb2 hx B1 HR
    by_cases hok : I ≤ R ∧ K ≤ C
    · obtain ⟨hIR, hKC⟩ := hok
      obtain ⟨r, hr⟩ : ∃ r, R - I = r := ⟨_, rfl⟩
      obtain ⟨c, hc⟩ : ∃ c, C - K = c := ⟨_, rfl⟩
      have hri : (R : Int) - (I : Int) = (r : Int) := by omega
      have hci : (C : Int) - (K : Int) = (c : Int) := by omega
      obtain ⟨IP, hIP⟩ : ∃ x, x = I + P := ⟨_, rfl⟩
      obtain ⟨KQ, hKQ⟩ : ∃ x, x = K + Q := ⟨_, rfl⟩
      have hip : (I : Int) + (P : Int) = (IP : Int) := by omega
      have hkq : (K : Int) + (Q : Int) = (KQ : Int) := by omega
      have HIP : Hid (I + P = IP) := hIP.symm
      have HKQ : Hid (K + Q = KQ) := hKQ.symm
      clear hIP hKQ
      have hrc : r * c ≤ 49 := Nat.mul_le_mul (by omega : r ≤ 7) (by omega : c ≤ 7)
      go_wp2_with fail
      have m_ := MBox.made w2 (R : Int) (C : Int) (S : Int) (.slice (some ⟨g, 0, none⟩) (R * S) (R * S))
      have b_ : Below w2.heap.size w2 (w2.alloc (.cells #[.int .i64 (R : Int), .int .i64 (C : Int), .int .i64 (S : Int), .slice (some ⟨g, 0, none⟩) (R * S) (R * S)] 25)) := (Below.refl _ _).alloc (Nat.le_refl _) _
      obtain ⟨k_M, hk_M⟩ : ∃ k, k = w2.heap.size := ⟨_, rfl⟩
      have L_M : Hid (w.heap.size ≤ k_M) := by rw [hk_M]; exact BW.out.size
      rw [← hk_M] at m_ ⊢
      generalize (w2.alloc (.cells #[.int .i64 (R : Int), .int .i64 (C : Int), .int .i64 (S : Int), .slice (some ⟨g, 0, none⟩) (R * S) (R * S)] 25)) = w1_ at m_ b_ ⊢
      replace UZ : Hid (URow _ _ _ _ _) := UZ.out.below b_
      replace BW : Hid (Below _ _ _) := bstep BW.out b_
      have M : Hid (MBox w1_ k_M (R : Int) (C : Int) (S : Int) (.slice (some ⟨g, 0, none⟩) (R * S) (R * S))) := m_
      clear m_ b_ hk_M
      refine (mCutZ R C S _ _ _ Z I K r c _ T2.out UZ.out (by omega) (by omega) (by omega)).mono ?_
      rintro e w2_ ⟨gA, XA, rfl, hgA, hUA, hEA, hb2_⟩
      have EA : Hid (∀ p q, p < r → q < c → XA (p * c + q) = Z ((I + p) * S + (K + q))) := hEA
      clear hEA hgA
      replace UZ : Hid (URow _ _ _ _ _) := UZ.out.below hb2_
      replace BW : Hid (Below _ _ _) := bstep BW.out hb2_
      replace M : Hid (MBox _ _ _ _ _ _) := M.out.below hb2_
      clear hb2_
      have UA : Hid (URow w2_ (some ⟨gA, 0, none⟩) (r * c) (r * c) XA) := hUA
      clear hUA
      have TA : Hid (Rgt (r : Int) (c : Int) (c : Int) (r * c)) := tight r c (by omega) (by omega)
      obtain ⟨M_0, M_1, M_2, M_3, M_4⟩ := M.out
      go_wp2_with fail
      have m_ := MBox.made w2_ (r : Int) (c : Int) (c : Int) (.slice (some ⟨gA, 0, none⟩) (r * c) (r * c))
      have b_ : Below w2_.heap.size w2_ (w2_.alloc (.cells #[.int .i64 (r : Int), .int .i64 (c : Int), .int .i64 (c : Int), .slice (some ⟨gA, 0, none⟩) (r * c) (r * c)] 25)) := (Below.refl _ _).alloc (Nat.le_refl _) _
      obtain ⟨k_A, hk_A⟩ : ∃ k, k = w2_.heap.size := ⟨_, rfl⟩
      have L_A : Hid (w.heap.size ≤ k_A) := by rw [hk_A]; exact BW.out.size
      rw [← hk_A] at m_ ⊢
      clear M_0 M_1 M_2 M_3 M_4
      generalize (w2_.alloc (.cells #[.int .i64 (r : Int), .int .i64 (c : Int), .int .i64 (c : Int), .slice (some ⟨gA, 0, none⟩) (r * c) (r * c)] 25)) = w3_ at m_ b_ ⊢
      replace UZ : Hid (URow _ _ _ _ _) := UZ.out.below b_
      replace BW : Hid (Below _ _ _) := bstep BW.out b_
      replace M : Hid (MBox _ _ _ _ _ _) := M.out.below b_
      replace UA : Hid (URow _ _ _ _ _) := UA.out.below b_
      have A : Hid (MBox w3_ k_A (r : Int) (c : Int) (c : Int) (.slice (some ⟨gA, 0, none⟩) (r * c) (r * c))) := m_
      clear m_ b_ hk_A
      by_cases hpq : P < r ∧ Q < c
      · obtain ⟨hPr, hQc⟩ := hpq
        refine (mCut1 r c c _ _ _ XA P Q _ TA.out UA.out hPr hQc).mono ?_
        rintro e w4_ ⟨gB, XB, rfl, _, hUB, hEB, hb4_⟩
        have EB : Hid (XB 0 = XA (P * c + Q)) := hEB
        clear hEB
        replace UZ : Hid (URow _ _ _ _ _) := UZ.out.below hb4_
        replace BW : Hid (Below _ _ _) := bstep BW.out hb4_
        replace M : Hid (MBox _ _ _ _ _ _) := M.out.below hb4_
        replace UA : Hid (URow _ _ _ _ _) := UA.out.below hb4_
        replace A : Hid (MBox _ _ _ _ _ _) := A.out.below hb4_
        clear hb4_
        have UB : Hid (URow w4_ (some ⟨gB, 0, none⟩) 1 1 XB) := hUB
        clear hUB
        obtain ⟨M_0, M_1, M_2, M_3, M_4⟩ := M.out
        go_wp2_with fail
        have m_ := MBox.made w4_ 1 1 1 (.slice (some ⟨gB, 0, none⟩) 1 1)
        have b_ : Below w4_.heap.size w4_ (w4_.alloc (.cells #[.int .i64 1, .int .i64 1, .int .i64 1, .slice (some ⟨gB, 0, none⟩) 1 1] 25)) := (Below.refl _ _).alloc (Nat.le_refl _) _
        obtain ⟨k_B, hk_B⟩ : ∃ k, k = w4_.heap.size := ⟨_, rfl⟩
        have L_B : Hid (w.heap.size ≤ k_B) := by rw [hk_B]; exact BW.out.size
        rw [← hk_B] at m_ ⊢
        clear M_0 M_1 M_2 M_3 M_4
        generalize (w4_.alloc (.cells #[.int .i64 1, .int .i64 1, .int .i64 1, .slice (some ⟨gB, 0, none⟩) 1 1] 25)) = w5_ at m_ b_ ⊢
        replace UZ : Hid (URow _ _ _ _ _) := UZ.out.below b_
        replace BW : Hid (Below _ _ _) := bstep BW.out b_
        replace M : Hid (MBox _ _ _ _ _ _) := M.out.below b_
        replace UA : Hid (URow _ _ _ _ _) := UA.out.below b_
        replace A : Hid (MBox _ _ _ _ _ _) := A.out.below b_
        replace UB : Hid (URow _ _ _ _ _) := UB.out.below b_
        have B : Hid (MBox w5_ k_B 1 1 1 (.slice (some ⟨gB, 0, none⟩) 1 1)) := m_
        clear m_ b_ hk_B
        obtain ⟨M_0, M_1, M_2, M_3, M_4⟩ := M.out
        refine (mCut1 R C S _ _ _ Z IP KQ _ T2.out UZ.out (by have := HIP.out; omega) (by have := HKQ.out; omega)).mono ?_
        rintro e w6_ ⟨gC, XC, rfl, _, hUC, hEC, hb6_⟩
        have EC : Hid (XC 0 = Z (IP * S + KQ)) := hEC
        clear hEC
        clear M_0 M_1 M_2 M_3 M_4
        replace UZ : Hid (URow _ _ _ _ _) := UZ.out.below hb6_
        replace BW : Hid (Below _ _ _) := bstep BW.out hb6_
        replace M : Hid (MBox _ _ _ _ _ _) := M.out.below hb6_
        replace UA : Hid (URow _ _ _ _ _) := UA.out.below hb6_
        replace A : Hid (MBox _ _ _ _ _ _) := A.out.below hb6_
        replace UB : Hid (URow _ _ _ _ _) := UB.out.below hb6_
        replace B : Hid (MBox _ _ _ _ _ _) := B.out.below hb6_
        clear hb6_
        have UC : Hid (URow w6_ (some ⟨gC, 0, none⟩) 1 1 XC) := hUC
        clear hUC
        obtain ⟨M_0, M_1, M_2, M_3, M_4⟩ := M.out
        go_wp2_with fail
        have m_ := MBox.made w6_ 1 1 1 (.slice (some ⟨gC, 0, none⟩) 1 1)
        have b_ : Below w6_.heap.size w6_ (w6_.alloc (.cells #[.int .i64 1, .int .i64 1, .int .i64 1, .slice (some ⟨gC, 0, none⟩) 1 1] 25)) := (Below.refl _ _).alloc (Nat.le_refl _) _
        obtain ⟨k_D, hk_D⟩ : ∃ k, k = w6_.heap.size := ⟨_, rfl⟩
        have L_D : Hid (w.heap.size ≤ k_D) := by rw [hk_D]; exact BW.out.size
        rw [← hk_D] at m_ ⊢
        clear M_0 M_1 M_2 M_3 M_4
        generalize (w6_.alloc (.cells #[.int .i64 1, .int .i64 1, .int .i64 1, .slice (some ⟨gC, 0, none⟩) 1 1] 25)) = w7_ at m_ b_ ⊢
        replace UZ : Hid (URow _ _ _ _ _) := UZ.out.below b_
        replace BW : Hid (Below _ _ _) := bstep BW.out b_
        replace M : Hid (MBox _ _ _ _ _ _) := M.out.below b_
        replace UA : Hid (URow _ _ _ _ _) := UA.out.below b_
        replace A : Hid (MBox _ _ _ _ _ _) := A.out.below b_
        replace UB : Hid (URow _ _ _ _ _) := UB.out.below b_
        replace B : Hid (MBox _ _ _ _ _ _) := B.out.below b_
        replace UC : Hid (URow _ _ _ _ _) := UC.out.below b_
        have D : Hid (MBox w7_ k_D 1 1 1 (.slice (some ⟨gC, 0, none⟩) 1 1)) := m_
        clear m_ b_ hk_D
        have hw1 : IntKind.i64.wrap (c : Int) = (c : Int) := by rw [IntKind.wrap_i64]; omega
        have hw2 : IntKind.i64.wrap (r : Int) = (r : Int) := by rw [IntKind.wrap_i64]; omega
        obtain ⟨M_0, M_1, M_2, M_3, M_4⟩ := M.out
        clear M_0 M_1 M_2 M_3 M_4
        go_cut [24, 25] (fun t h wx => ∃ (k_T gt : Nat) (Xt : Nat → Int), t = .pointer (some ⟨k_T, 0, none⟩) ∧ h = .int .i64 0 ∧ Hid (∀ p q, p < c → q < r → Xt (p * r + q) = Z ((I + q) * S + (K + p))) ∧ Hid (MBox wx k_T (c : Int) (r : Int) (r : Int) (.slice (some ⟨gt, 0, none⟩) (c * r) (c * r))) ∧ Hid (URow wx (some ⟨gt, 0, none⟩) (c * r) (c * r) Xt) ∧ Hid (URow wx (some ⟨g, 0, none⟩) (R * S) (R * S) Z) ∧ Hid (Below w.heap.size w wx) ∧ Hid (MBox wx k_M (R : Int) (C : Int) (S : Int) (.slice (some ⟨g, 0, none⟩) (R * S) (R * S))) ∧ Hid (URow wx (some ⟨gA, 0, none⟩) (r * c) (r * c) XA) ∧ Hid (MBox wx k_A (r : Int) (c : Int) (c : Int) (.slice (some ⟨gA, 0, none⟩) (r * c) (r * c))) ∧ Hid (URow wx (some ⟨gB, 0, none⟩) 1 1 XB) ∧ Hid (MBox wx k_B 1 1 1 (.slice (some ⟨gB, 0, none⟩) 1 1)) ∧ Hid (URow wx (some ⟨gC, 0, none⟩) 1 1 XC) ∧ Hid (MBox wx k_D 1 1 1 (.slice (some ⟨gC, 0, none⟩) 1 1)))
        case first =>
          have HBa : Hid (Below w7_.heap.size w7_ w7_) := Below.refl _ _
          have dh : ∀ w : World, w.drew.heap = w.heap := fun _ => rfl
          obtain ⟨M_0, M_1, M_2, M_3, M_4⟩ := M.out
          obtain ⟨A_0, A_1, A_2, A_3, A_4⟩ := A.out
          obtain ⟨B_0, B_1, B_2, B_3, B_4⟩ := B.out
          obtain ⟨D_0, D_1, D_2, D_3, D_4⟩ := D.out
          go_region_held3 (fun w' => (w'.cell? ⟨k_M, 0, none⟩ = some (.int .i64 (R : Int)) ∧ w'.cell? ⟨k_M, 1, none⟩ = some (.int .i64 (C : Int)) ∧ w'.cell? ⟨k_M, 2, none⟩ = some (.int .i64 (S : Int)) ∧ w'.cell? ⟨k_M, 3, none⟩ = some (.slice (some ⟨g, 0, none⟩) (R * S) (R * S)))) (exact (M.out.below (by with_reducible repeat (first | (refine Below.drew ?_) | (refine bmore ?_ _) | (refine Below.setCell ?_ (by first | omega | (simp <;> omega)) _) | exact HBa.out | exact Below.refl _ _))).cells) (first | (go_at_call 22; refine (mTurnZ R C S _ _ _ Z _ T2.out (UZ.out.below (by with_reducible repeat (first | (refine Below.drew ?_) | (refine bmore ?_ _) | (refine Below.setCell ?_ (by first | omega | (simp <;> omega)) _) | exact HBa.out | exact Below.refl _ _))) (by rw [Nat.mul_comm]; omega)).mono ?_; rintro e Wn0_ ⟨gT, XT, rfl, _, hUT, hET, hb_⟩; obtain ⟨pc0, pf0⟩ := bcell hb_; have hr0 : ∀ b, b < _ → b < Wn0_.heap.size := (fun b h => Nat.lt_of_lt_of_le h hb_.size); have hq0 := hb_.size; (try simp [dh] at hq0); have hbt_ : Below w7_.heap.size w7_ Wn0_ := bstep (by with_reducible repeat (first | (refine Below.drew ?_) | (refine bmore ?_ _) | (refine Below.setCell ?_ (by first | omega | (simp <;> omega)) _) | exact (Below.refl _ _) | exact Below.refl _ _)) hb_; replace HBa : Hid (Below w7_.heap.size w7_ Wn0_) := bstep HBa.out hbt_; have hsz0 := HBa.out.size; have UT : Hid (URow Wn0_ (some ⟨gT, 0, none⟩) (C * R) (C * R) XT) := hUT; have ET : Hid (∀ p q, p < C → q < R → XT (p * R + q) = Z (q * S + p)) := hET; clear hUT hET; clear hb_ hbt_) | (go_at_call 17; refine (mCutZ C R R _ _ _ XT K I c r _ (tight C R (by omega) (by omega)) (UT.out.below (by with_reducible repeat (first | (refine Below.drew ?_) | (refine bmore ?_ _) | (refine Below.setCell ?_ (by first | omega | (simp <;> omega)) _) | exact (Below.refl _ _) | exact Below.refl _ _))) (by omega) (by omega) (by rw [Nat.mul_comm]; omega)).mono ?_; rintro e Wn1_ ⟨gt, Xt, rfl, hgt, hUt, hEt, hb_⟩; obtain ⟨pc1, pf1⟩ := bcell hb_; have hr1 : ∀ b, b < _ → b < Wn1_.heap.size := (fun b h => Nat.lt_of_lt_of_le h hb_.size); have hq1 := hb_.size; (try simp [dh] at hq1); have hbt_ : Below Wn0_.heap.size Wn0_ Wn1_ := bstep (by with_reducible repeat (first | (refine Below.drew ?_) | (refine bmore ?_ _) | (refine Below.setCell ?_ (by first | omega | (simp <;> omega)) _) | exact (Below.refl _ _) | exact Below.refl _ _)) hb_; replace UT : Hid (URow _ _ _ _ _) := UT.out.below hbt_; replace HBa : Hid (Below w7_.heap.size w7_ Wn1_) := bstep HBa.out hbt_; have hsz1 := HBa.out.size; have Ut : Hid (URow Wn1_ (some ⟨gt, 0, none⟩) (c * r) (c * r) Xt) := hUt; have Et : Hid (∀ p q, p < c → q < r → Xt (p * r + q) = Z ((I + q) * S + (K + p))) := fun p q hp hq => (hEt p q hp hq).trans (ET.out (K + p) (I + q) (by omega) (by omega)); (try simp [dh] at hgt); clear hUt hEt; clear hb_ hbt_))
          all_goals
            go_wp2
            go_meet
            refine ⟨_, gt, Xt, rfl, rfl, Et, (by show MBox _ _ _ _ _ _; first | (with_reducible exact MBox.new) | (with_reducible refine MBox.four ?_ ?_ ?_ ?_ ?_) <;> (first | (simp [go_sem, pc0, pc1, hr0, hr1]; done) | (simp [dh]; omega) | omega)), (by show URow _ _ _ _ _; with_reducible repeat (first | exact Ut.out | (refine URow.drew ?_) | (refine URow.alloc ?_ _) | (refine URow.put ?_ (by first | omega | (simp [dh] <;> omega)) _))), UZ.out.below (by with_reducible repeat (first | (refine Below.drew ?_) | (refine bmore ?_ _) | (refine Below.setCell ?_ (by first | omega | (simp <;> omega)) _) | exact HBa.out | exact Below.refl _ _)), bstep BW.out (by with_reducible repeat (first | (refine Below.drew ?_) | (refine bmore ?_ _) | (refine Below.setCell ?_ (by first | omega | (simp <;> omega)) _) | exact HBa.out | exact Below.refl _ _)), M.out.below (by with_reducible repeat (first | (refine Below.drew ?_) | (refine bmore ?_ _) | (refine Below.setCell ?_ (by first | omega | (simp <;> omega)) _) | exact HBa.out | exact Below.refl _ _)), UA.out.below (by with_reducible repeat (first | (refine Below.drew ?_) | (refine bmore ?_ _) | (refine Below.setCell ?_ (by first | omega | (simp <;> omega)) _) | exact HBa.out | exact Below.refl _ _)), A.out.below (by with_reducible repeat (first | (refine Below.drew ?_) | (refine bmore ?_ _) | (refine Below.setCell ?_ (by first | omega | (simp <;> omega)) _) | exact HBa.out | exact Below.refl _ _)), UB.out.below (by with_reducible repeat (first | (refine Below.drew ?_) | (refine bmore ?_ _) | (refine Below.setCell ?_ (by first | omega | (simp <;> omega)) _) | exact HBa.out | exact Below.refl _ _)), B.out.below (by with_reducible repeat (first | (refine Below.drew ?_) | (refine bmore ?_ _) | (refine Below.setCell ?_ (by first | omega | (simp <;> omega)) _) | exact HBa.out | exact Below.refl _ _)), UC.out.below (by with_reducible repeat (first | (refine Below.drew ?_) | (refine bmore ?_ _) | (refine Below.setCell ?_ (by first | omega | (simp <;> omega)) _) | exact HBa.out | exact Below.refl _ _)), D.out.below (by with_reducible repeat (first | (refine Below.drew ?_) | (refine bmore ?_ _) | (refine Below.setCell ?_ (by first | omega | (simp <;> omega)) _) | exact HBa.out | exact Below.refl _ _))⟩
        case rest =>
          clear UZ BW M UA A UB B UC D
          obtain ⟨k_T, gt, Xt, rfl, rfl, Et, T, Ut, UZ, BW, M, UA, A, UB, B, UC, D⟩ := hcut
          go_wp2_with fail
          obtain ⟨T_0, T_1, T_2, T_3, T_4⟩ := T.out
          obtain ⟨A_0, A_1, A_2, A_3, A_4⟩ := A.out
          go_region_held3 (fun w' => (w'.cell? ⟨k_T, 0, none⟩ = some (.int .i64 (c : Int)) ∧ w'.cell? ⟨k_T, 1, none⟩ = some (.int .i64 (r : Int)) ∧ w'.cell? ⟨k_T, 2, none⟩ = some (.int .i64 (r : Int)) ∧ w'.cell? ⟨k_T, 3, none⟩ = some (.slice (some ⟨gt, 0, none⟩) (c * r) (c * r))) ∧ (w'.cell? ⟨k_A, 0, none⟩ = some (.int .i64 (r : Int)) ∧ w'.cell? ⟨k_A, 1, none⟩ = some (.int .i64 (c : Int)) ∧ w'.cell? ⟨k_A, 2, none⟩ = some (.int .i64 (c : Int)) ∧ w'.cell? ⟨k_A, 3, none⟩ = some (.slice (some ⟨gA, 0, none⟩) (r * c) (r * c)))) (simp [go_sem, *]) (first | (go_at_call 22; refine (mTurnZ c r r _ _ _ Xt _ (tight c r (by omega) (by omega)) (by first | exact Ut.out.below ((Below.refl _ _).drew) | exact Ut.out) (by omega)).mono ?_; rintro e w8_ ⟨gu, Xu, rfl, _, hUu, hEu, hb8_⟩; replace hb8_ : Below wc.heap.size wc w8_ := (by first | exact ((Below.refl _ _).drew).trans hb8_ | exact hb8_); have Uu : Hid (URow w8_ (some ⟨gu, 0, none⟩) (r * c) (r * c) Xu) := hUu; have ES : Hid (∀ p q, p < r → q < c → Xu (p * c + q) = XA (p * c + q)) := fun p q hp hq => (by rw [hEu p q hp hq, Et.out q p hq hp, EA.out p q hp hq]); clear hUu hEu; clear T_0 T_1 T_2 T_3 T_4 A_0 A_1 A_2 A_3 A_4; replace UZ : Hid (URow _ _ _ _ _) := UZ.out.below hb8_; replace BW : Hid (Below _ _ _) := bstep BW.out hb8_; replace M : Hid (MBox _ _ _ _ _ _) := M.out.below hb8_; replace UA : Hid (URow _ _ _ _ _) := UA.out.below hb8_; replace A : Hid (MBox _ _ _ _ _ _) := A.out.below hb8_; replace UB : Hid (URow _ _ _ _ _) := UB.out.below hb8_; replace B : Hid (MBox _ _ _ _ _ _) := B.out.below hb8_; replace UC : Hid (URow _ _ _ _ _) := UC.out.below hb8_; replace D : Hid (MBox _ _ _ _ _ _) := D.out.below hb8_; replace T : Hid (MBox _ _ _ _ _ _) := T.out.below hb8_; replace Ut : Hid (URow _ _ _ _ _) := Ut.out.below hb8_; obtain ⟨T_0, T_1, T_2, T_3, T_4⟩ := T.out; obtain ⟨A_0, A_1, A_2, A_3, A_4⟩ := A.out; clear hb8_) | (go_at_call 23; refine (mSame r c c c _ _ _ _ _ _ Xu XA _ (tight r c (by omega) (by omega)) TA.out (by first | exact Uu.out.below ((Below.refl _ _).drew) | exact Uu.out) (by first | exact UA.out.below ((Below.refl _ _).drew) | exact UA.out) ES.out).mono ?_; rintro e w9_ ⟨rfl, hb9_⟩; replace hb9_ : Below w8_.heap.size w8_ w9_ := (by first | exact ((Below.refl _ _).drew).trans hb9_ | exact hb9_); clear T_0 T_1 T_2 T_3 T_4 A_0 A_1 A_2 A_3 A_4; replace UZ : Hid (URow _ _ _ _ _) := UZ.out.below hb9_; replace BW : Hid (Below _ _ _) := bstep BW.out hb9_; replace M : Hid (MBox _ _ _ _ _ _) := M.out.below hb9_; replace UA : Hid (URow _ _ _ _ _) := UA.out.below hb9_; replace A : Hid (MBox _ _ _ _ _ _) := A.out.below hb9_; replace UB : Hid (URow _ _ _ _ _) := UB.out.below hb9_; replace B : Hid (MBox _ _ _ _ _ _) := B.out.below hb9_; replace UC : Hid (URow _ _ _ _ _) := UC.out.below hb9_; replace D : Hid (MBox _ _ _ _ _ _) := D.out.below hb9_; replace T : Hid (MBox _ _ _ _ _ _) := T.out.below hb9_; replace Ut : Hid (URow _ _ _ _ _) := Ut.out.below hb9_; replace Uu : Hid (URow _ _ _ _ _) := Uu.out.below hb9_; obtain ⟨T_0, T_1, T_2, T_3, T_4⟩ := T.out; obtain ⟨A_0, A_1, A_2, A_3, A_4⟩ := A.out; clear hb9_))
          have EF : Hid (∀ p q, p < 1 → q < 1 → XB (p * 1 + q) = XC (p * 1 + q)) := fun p q hp hq => by
            obtain rfl : p = 0 := by omega
            obtain rfl : q = 0 := by omega
            show XB 0 = XC 0
            rw [EB.out, EC.out, EA.out P Q (by omega) (by omega), HIP.out, HKQ.out]
          obtain ⟨B_0, B_1, B_2, B_3, B_4⟩ := B.out
          obtain ⟨D_0, D_1, D_2, D_3, D_4⟩ := D.out
          go_wp2_with fail
          refine (mSame 1 1 1 1 _ _ _ _ _ _ XB XC _ one_one one_one UB.out UC.out EF.out).mono ?_
          rintro e w10_ ⟨rfl, hb10_⟩
          clear T_0 T_1 T_2 T_3 T_4 A_0 A_1 A_2 A_3 A_4 B_0 B_1 B_2 B_3 B_4 D_0 D_1 D_2 D_3 D_4
          replace UZ : Hid (URow _ _ _ _ _) := UZ.out.below hb10_
          replace BW : Hid (Below _ _ _) := bstep BW.out hb10_
          replace M : Hid (MBox _ _ _ _ _ _) := M.out.below hb10_
          replace UA : Hid (URow _ _ _ _ _) := UA.out.below hb10_
          replace A : Hid (MBox _ _ _ _ _ _) := A.out.below hb10_
          replace UB : Hid (URow _ _ _ _ _) := UB.out.below hb10_
          replace B : Hid (MBox _ _ _ _ _ _) := B.out.below hb10_
          replace UC : Hid (URow _ _ _ _ _) := UC.out.below hb10_
          replace D : Hid (MBox _ _ _ _ _ _) := D.out.below hb10_
          replace T : Hid (MBox _ _ _ _ _ _) := T.out.below hb10_
          replace Ut : Hid (URow _ _ _ _ _) := Ut.out.below hb10_
          replace Uu : Hid (URow _ _ _ _ _) := Uu.out.below hb10_
          clear hb10_
          go_wp2
          go_ret
          exact ⟨ret_eq rfl, BW.out⟩
      · have hpq2 : ¬ (P < r ∧ Q < c) := hpq
        refine (mCutNo _ _ _ _ _ _ _ _ _ _ _ (by omega) TA.out (by omega) (by omega) (by omega)).mono ?_
        rintro e w4_ ⟨rfl, hb4_⟩
        replace UZ : Hid (URow _ _ _ _ _) := UZ.out.below hb4_
        replace BW : Hid (Below _ _ _) := bstep BW.out hb4_
        replace M : Hid (MBox _ _ _ _ _ _) := M.out.below hb4_
        replace UA : Hid (URow _ _ _ _ _) := UA.out.below hb4_
        replace A : Hid (MBox _ _ _ _ _ _) := A.out.below hb4_
        clear hb4_
        obtain ⟨M_0, M_1, M_2, M_3, M_4⟩ := M.out
        go_wp2_with fail
        have m_ := MBox.made w4_ 0 0 0 (.slice none 0 0)
        have b_ : Below w4_.heap.size w4_ (w4_.alloc (.cells #[.int .i64 0, .int .i64 0, .int .i64 0, .slice none 0 0] 25)) := (Below.refl _ _).alloc (Nat.le_refl _) _
        obtain ⟨k_B, hk_B⟩ : ∃ k, k = w4_.heap.size := ⟨_, rfl⟩
        have L_B : Hid (w.heap.size ≤ k_B) := by rw [hk_B]; exact BW.out.size
        rw [← hk_B] at m_ ⊢
        clear M_0 M_1 M_2 M_3 M_4
        generalize (w4_.alloc (.cells #[.int .i64 0, .int .i64 0, .int .i64 0, .slice none 0 0] 25)) = w5_ at m_ b_ ⊢
        replace UZ : Hid (URow _ _ _ _ _) := UZ.out.below b_
        replace BW : Hid (Below _ _ _) := bstep BW.out b_
        replace M : Hid (MBox _ _ _ _ _ _) := M.out.below b_
        replace UA : Hid (URow _ _ _ _ _) := UA.out.below b_
        replace A : Hid (MBox _ _ _ _ _ _) := A.out.below b_
        have B : Hid (MBox w5_ k_B 0 0 0 (.slice none 0 0)) := m_
        clear m_ b_ hk_B
        obtain ⟨M_0, M_1, M_2, M_3, M_4⟩ := M.out
        refine (mCutNo _ _ _ _ _ _ _ _ _ _ _ (by omega) T2.out (by omega) (by omega) (by omega)).mono ?_
        rintro e w6_ ⟨rfl, hb6_⟩
        clear M_0 M_1 M_2 M_3 M_4
        replace UZ : Hid (URow _ _ _ _ _) := UZ.out.below hb6_
        replace BW : Hid (Below _ _ _) := bstep BW.out hb6_
        replace M : Hid (MBox _ _ _ _ _ _) := M.out.below hb6_
        replace UA : Hid (URow _ _ _ _ _) := UA.out.below hb6_
        replace A : Hid (MBox _ _ _ _ _ _) := A.out.below hb6_
        replace B : Hid (MBox _ _ _ _ _ _) := B.out.below hb6_
        clear hb6_
        obtain ⟨M_0, M_1, M_2, M_3, M_4⟩ := M.out
        go_wp2_with fail
        have m_ := MBox.made w6_ 0 0 0 (.slice none 0 0)
        have b_ : Below w6_.heap.size w6_ (w6_.alloc (.cells #[.int .i64 0, .int .i64 0, .int .i64 0, .slice none 0 0] 25)) := (Below.refl _ _).alloc (Nat.le_refl _) _
        obtain ⟨k_D, hk_D⟩ : ∃ k, k = w6_.heap.size := ⟨_, rfl⟩
        have L_D : Hid (w.heap.size ≤ k_D) := by rw [hk_D]; exact BW.out.size
        rw [← hk_D] at m_ ⊢
        clear M_0 M_1 M_2 M_3 M_4
        generalize (w6_.alloc (.cells #[.int .i64 0, .int .i64 0, .int .i64 0, .slice none 0 0] 25)) = w7_ at m_ b_ ⊢
        replace UZ : Hid (URow _ _ _ _ _) := UZ.out.below b_
        replace BW : Hid (Below _ _ _) := bstep BW.out b_
        replace M : Hid (MBox _ _ _ _ _ _) := M.out.below b_
        replace UA : Hid (URow _ _ _ _ _) := UA.out.below b_
        replace A : Hid (MBox _ _ _ _ _ _) := A.out.below b_
        replace B : Hid (MBox _ _ _ _ _ _) := B.out.below b_
        have D : Hid (MBox w7_ k_D 0 0 0 (.slice none 0 0)) := m_
        clear m_ b_ hk_D
        have hw1 : IntKind.i64.wrap (c : Int) = (c : Int) := by rw [IntKind.wrap_i64]; omega
        have hw2 : IntKind.i64.wrap (r : Int) = (r : Int) := by rw [IntKind.wrap_i64]; omega
        obtain ⟨M_0, M_1, M_2, M_3, M_4⟩ := M.out
        clear M_0 M_1 M_2 M_3 M_4
        go_cut [24, 25] (fun t h wx => ∃ (k_T gt : Nat) (Xt : Nat → Int), t = .pointer (some ⟨k_T, 0, none⟩) ∧ h = .int .i64 0 ∧ Hid (∀ p q, p < c → q < r → Xt (p * r + q) = Z ((I + q) * S + (K + p))) ∧ Hid (MBox wx k_T (c : Int) (r : Int) (r : Int) (.slice (some ⟨gt, 0, none⟩) (c * r) (c * r))) ∧ Hid (URow wx (some ⟨gt, 0, none⟩) (c * r) (c * r) Xt) ∧ Hid (URow wx (some ⟨g, 0, none⟩) (R * S) (R * S) Z) ∧ Hid (Below w.heap.size w wx) ∧ Hid (MBox wx k_M (R : Int) (C : Int) (S : Int) (.slice (some ⟨g, 0, none⟩) (R * S) (R * S))) ∧ Hid (URow wx (some ⟨gA, 0, none⟩) (r * c) (r * c) XA) ∧ Hid (MBox wx k_A (r : Int) (c : Int) (c : Int) (.slice (some ⟨gA, 0, none⟩) (r * c) (r * c))) ∧ Hid (MBox wx k_B 0 0 0 (.slice none 0 0)) ∧ Hid (MBox wx k_D 0 0 0 (.slice none 0 0)))
        case first =>
          have HBa : Hid (Below w7_.heap.size w7_ w7_) := Below.refl _ _
          have dh : ∀ w : World, w.drew.heap = w.heap := fun _ => rfl
          obtain ⟨M_0, M_1, M_2, M_3, M_4⟩ := M.out
          obtain ⟨A_0, A_1, A_2, A_3, A_4⟩ := A.out
          obtain ⟨B_0, B_1, B_2, B_3, B_4⟩ := B.out
          obtain ⟨D_0, D_1, D_2, D_3, D_4⟩ := D.out
          go_region_held3 (fun w' => (w'.cell? ⟨k_M, 0, none⟩ = some (.int .i64 (R : Int)) ∧ w'.cell? ⟨k_M, 1, none⟩ = some (.int .i64 (C : Int)) ∧ w'.cell? ⟨k_M, 2, none⟩ = some (.int .i64 (S : Int)) ∧ w'.cell? ⟨k_M, 3, none⟩ = some (.slice (some ⟨g, 0, none⟩) (R * S) (R * S)))) (exact (M.out.below (by with_reducible repeat (first | (refine Below.drew ?_) | (refine bmore ?_ _) | (refine Below.setCell ?_ (by first | omega | (simp <;> omega)) _) | exact HBa.out | exact Below.refl _ _))).cells) (first | (go_at_call 22; refine (mTurnZ R C S _ _ _ Z _ T2.out (UZ.out.below (by with_reducible repeat (first | (refine Below.drew ?_) | (refine bmore ?_ _) | (refine Below.setCell ?_ (by first | omega | (simp <;> omega)) _) | exact HBa.out | exact Below.refl _ _))) (by rw [Nat.mul_comm]; omega)).mono ?_; rintro e Wn0_ ⟨gT, XT, rfl, _, hUT, hET, hb_⟩; obtain ⟨pc0, pf0⟩ := bcell hb_; have hr0 : ∀ b, b < _ → b < Wn0_.heap.size := (fun b h => Nat.lt_of_lt_of_le h hb_.size); have hq0 := hb_.size; (try simp [dh] at hq0); have hbt_ : Below w7_.heap.size w7_ Wn0_ := bstep (by with_reducible repeat (first | (refine Below.drew ?_) | (refine bmore ?_ _) | (refine Below.setCell ?_ (by first | omega | (simp <;> omega)) _) | exact (Below.refl _ _) | exact Below.refl _ _)) hb_; replace HBa : Hid (Below w7_.heap.size w7_ Wn0_) := bstep HBa.out hbt_; have hsz0 := HBa.out.size; have UT : Hid (URow Wn0_ (some ⟨gT, 0, none⟩) (C * R) (C * R) XT) := hUT; have ET : Hid (∀ p q, p < C → q < R → XT (p * R + q) = Z (q * S + p)) := hET; clear hUT hET; clear hb_ hbt_) | (go_at_call 17; refine (mCutZ C R R _ _ _ XT K I c r _ (tight C R (by omega) (by omega)) (UT.out.below (by with_reducible repeat (first | (refine Below.drew ?_) | (refine bmore ?_ _) | (refine Below.setCell ?_ (by first | omega | (simp <;> omega)) _) | exact (Below.refl _ _) | exact Below.refl _ _))) (by omega) (by omega) (by rw [Nat.mul_comm]; omega)).mono ?_; rintro e Wn1_ ⟨gt, Xt, rfl, hgt, hUt, hEt, hb_⟩; obtain ⟨pc1, pf1⟩ := bcell hb_; have hr1 : ∀ b, b < _ → b < Wn1_.heap.size := (fun b h => Nat.lt_of_lt_of_le h hb_.size); have hq1 := hb_.size; (try simp [dh] at hq1); have hbt_ : Below Wn0_.heap.size Wn0_ Wn1_ := bstep (by with_reducible repeat (first | (refine Below.drew ?_) | (refine bmore ?_ _) | (refine Below.setCell ?_ (by first | omega | (simp <;> omega)) _) | exact (Below.refl _ _) | exact Below.refl _ _)) hb_; replace UT : Hid (URow _ _ _ _ _) := UT.out.below hbt_; replace HBa : Hid (Below w7_.heap.size w7_ Wn1_) := bstep HBa.out hbt_; have hsz1 := HBa.out.size; have Ut : Hid (URow Wn1_ (some ⟨gt, 0, none⟩) (c * r) (c * r) Xt) := hUt; have Et : Hid (∀ p q, p < c → q < r → Xt (p * r + q) = Z ((I + q) * S + (K + p))) := fun p q hp hq => (hEt p q hp hq).trans (ET.out (K + p) (I + q) (by omega) (by omega)); (try simp [dh] at hgt); clear hUt hEt; clear hb_ hbt_))
          all_goals
            go_wp2
            go_meet
            refine ⟨_, gt, Xt, rfl, rfl, Et, (by show MBox _ _ _ _ _ _; first | (with_reducible exact MBox.new) | (with_reducible refine MBox.four ?_ ?_ ?_ ?_ ?_) <;> (first | (simp [go_sem, pc0, pc1, hr0, hr1]; done) | (simp [dh]; omega) | omega)), (by show URow _ _ _ _ _; with_reducible repeat (first | exact Ut.out | (refine URow.drew ?_) | (refine URow.alloc ?_ _) | (refine URow.put ?_ (by first | omega | (simp [dh] <;> omega)) _))), UZ.out.below (by with_reducible repeat (first | (refine Below.drew ?_) | (refine bmore ?_ _) | (refine Below.setCell ?_ (by first | omega | (simp <;> omega)) _) | exact HBa.out | exact Below.refl _ _)), bstep BW.out (by with_reducible repeat (first | (refine Below.drew ?_) | (refine bmore ?_ _) | (refine Below.setCell ?_ (by first | omega | (simp <;> omega)) _) | exact HBa.out | exact Below.refl _ _)), M.out.below (by with_reducible repeat (first | (refine Below.drew ?_) | (refine bmore ?_ _) | (refine Below.setCell ?_ (by first | omega | (simp <;> omega)) _) | exact HBa.out | exact Below.refl _ _)), UA.out.below (by with_reducible repeat (first | (refine Below.drew ?_) | (refine bmore ?_ _) | (refine Below.setCell ?_ (by first | omega | (simp <;> omega)) _) | exact HBa.out | exact Below.refl _ _)), A.out.below (by with_reducible repeat (first | (refine Below.drew ?_) | (refine bmore ?_ _) | (refine Below.setCell ?_ (by first | omega | (simp <;> omega)) _) | exact HBa.out | exact Below.refl _ _)), B.out.below (by with_reducible repeat (first | (refine Below.drew ?_) | (refine bmore ?_ _) | (refine Below.setCell ?_ (by first | omega | (simp <;> omega)) _) | exact HBa.out | exact Below.refl _ _)), D.out.below (by with_reducible repeat (first | (refine Below.drew ?_) | (refine bmore ?_ _) | (refine Below.setCell ?_ (by first | omega | (simp <;> omega)) _) | exact HBa.out | exact Below.refl _ _))⟩
        case rest =>
          clear UZ BW M UA A B D
          obtain ⟨k_T, gt, Xt, rfl, rfl, Et, T, Ut, UZ, BW, M, UA, A, B, D⟩ := hcut
          go_wp2_with fail
          obtain ⟨T_0, T_1, T_2, T_3, T_4⟩ := T.out
          obtain ⟨A_0, A_1, A_2, A_3, A_4⟩ := A.out
          go_region_held3 (fun w' => (w'.cell? ⟨k_T, 0, none⟩ = some (.int .i64 (c : Int)) ∧ w'.cell? ⟨k_T, 1, none⟩ = some (.int .i64 (r : Int)) ∧ w'.cell? ⟨k_T, 2, none⟩ = some (.int .i64 (r : Int)) ∧ w'.cell? ⟨k_T, 3, none⟩ = some (.slice (some ⟨gt, 0, none⟩) (c * r) (c * r))) ∧ (w'.cell? ⟨k_A, 0, none⟩ = some (.int .i64 (r : Int)) ∧ w'.cell? ⟨k_A, 1, none⟩ = some (.int .i64 (c : Int)) ∧ w'.cell? ⟨k_A, 2, none⟩ = some (.int .i64 (c : Int)) ∧ w'.cell? ⟨k_A, 3, none⟩ = some (.slice (some ⟨gA, 0, none⟩) (r * c) (r * c)))) (simp [go_sem, *]) (first | (go_at_call 22; refine (mTurnZ c r r _ _ _ Xt _ (tight c r (by omega) (by omega)) (by first | exact Ut.out.below ((Below.refl _ _).drew) | exact Ut.out) (by omega)).mono ?_; rintro e w8_ ⟨gu, Xu, rfl, _, hUu, hEu, hb8_⟩; replace hb8_ : Below wc.heap.size wc w8_ := (by first | exact ((Below.refl _ _).drew).trans hb8_ | exact hb8_); have Uu : Hid (URow w8_ (some ⟨gu, 0, none⟩) (r * c) (r * c) Xu) := hUu; have ES : Hid (∀ p q, p < r → q < c → Xu (p * c + q) = XA (p * c + q)) := fun p q hp hq => (by rw [hEu p q hp hq, Et.out q p hq hp, EA.out p q hp hq]); clear hUu hEu; clear T_0 T_1 T_2 T_3 T_4 A_0 A_1 A_2 A_3 A_4; replace UZ : Hid (URow _ _ _ _ _) := UZ.out.below hb8_; replace BW : Hid (Below _ _ _) := bstep BW.out hb8_; replace M : Hid (MBox _ _ _ _ _ _) := M.out.below hb8_; replace UA : Hid (URow _ _ _ _ _) := UA.out.below hb8_; replace A : Hid (MBox _ _ _ _ _ _) := A.out.below hb8_; replace B : Hid (MBox _ _ _ _ _ _) := B.out.below hb8_; replace D : Hid (MBox _ _ _ _ _ _) := D.out.below hb8_; replace T : Hid (MBox _ _ _ _ _ _) := T.out.below hb8_; replace Ut : Hid (URow _ _ _ _ _) := Ut.out.below hb8_; obtain ⟨T_0, T_1, T_2, T_3, T_4⟩ := T.out; obtain ⟨A_0, A_1, A_2, A_3, A_4⟩ := A.out; clear hb8_) | (go_at_call 23; refine (mSame r c c c _ _ _ _ _ _ Xu XA _ (tight r c (by omega) (by omega)) TA.out (by first | exact Uu.out.below ((Below.refl _ _).drew) | exact Uu.out) (by first | exact UA.out.below ((Below.refl _ _).drew) | exact UA.out) ES.out).mono ?_; rintro e w9_ ⟨rfl, hb9_⟩; replace hb9_ : Below w8_.heap.size w8_ w9_ := (by first | exact ((Below.refl _ _).drew).trans hb9_ | exact hb9_); clear T_0 T_1 T_2 T_3 T_4 A_0 A_1 A_2 A_3 A_4; replace UZ : Hid (URow _ _ _ _ _) := UZ.out.below hb9_; replace BW : Hid (Below _ _ _) := bstep BW.out hb9_; replace M : Hid (MBox _ _ _ _ _ _) := M.out.below hb9_; replace UA : Hid (URow _ _ _ _ _) := UA.out.below hb9_; replace A : Hid (MBox _ _ _ _ _ _) := A.out.below hb9_; replace B : Hid (MBox _ _ _ _ _ _) := B.out.below hb9_; replace D : Hid (MBox _ _ _ _ _ _) := D.out.below hb9_; replace T : Hid (MBox _ _ _ _ _ _) := T.out.below hb9_; replace Ut : Hid (URow _ _ _ _ _) := Ut.out.below hb9_; replace Uu : Hid (URow _ _ _ _ _) := Uu.out.below hb9_; obtain ⟨T_0, T_1, T_2, T_3, T_4⟩ := T.out; obtain ⟨A_0, A_1, A_2, A_3, A_4⟩ := A.out; clear hb9_))
          go_wp2
          go_ret
          exact ⟨ret_eq rfl, BW.out⟩
    · have hok2 : ¬ (I ≤ R ∧ K ≤ C) := hok
      by_cases hir : (R : Int) < (I : Int)
      · have hbr : decide ((R : Int) < (I : Int)) = true := decide_eq_true hir
        have hs1 : IntKind.i64.wrap ((R : Int) - (I : Int)) = (R : Int) - (I : Int) := by rw [IntKind.wrap_i64]; omega
        have hs2 : IntKind.i64.wrap ((C : Int) - (K : Int)) = (C : Int) - (K : Int) := by rw [IntKind.wrap_i64]; omega
        have hs3 : IntKind.i64.wrap ((I : Int) + (P : Int)) = (I : Int) + (P : Int) := by rw [IntKind.wrap_i64]; omega
        have hs4 : IntKind.i64.wrap ((K : Int) + (Q : Int)) = (K : Int) + (Q : Int) := by rw [IntKind.wrap_i64]; omega
        go_wp2_with fail
        have m_ := MBox.made w2 (R : Int) (C : Int) (S : Int) (.slice (some ⟨g, 0, none⟩) (R * S) (R * S))
        have b_ : Below w2.heap.size w2 (w2.alloc (.cells #[.int .i64 (R : Int), .int .i64 (C : Int), .int .i64 (S : Int), .slice (some ⟨g, 0, none⟩) (R * S) (R * S)] 25)) := (Below.refl _ _).alloc (Nat.le_refl _) _
        obtain ⟨k_M, hk_M⟩ : ∃ k, k = w2.heap.size := ⟨_, rfl⟩
        have L_M : Hid (w.heap.size ≤ k_M) := by rw [hk_M]; exact BW.out.size
        rw [← hk_M] at m_ ⊢
        generalize (w2.alloc (.cells #[.int .i64 (R : Int), .int .i64 (C : Int), .int .i64 (S : Int), .slice (some ⟨g, 0, none⟩) (R * S) (R * S)] 25)) = w1_ at m_ b_ ⊢
        replace UZ : Hid (URow _ _ _ _ _) := UZ.out.below b_
        replace BW : Hid (Below _ _ _) := bstep BW.out b_
        have M : Hid (MBox w1_ k_M (R : Int) (C : Int) (S : Int) (.slice (some ⟨g, 0, none⟩) (R * S) (R * S))) := m_
        clear m_ b_ hk_M
        obtain ⟨M_0, M_1, M_2, M_3, M_4⟩ := M.out
        refine (mCutNo _ _ _ _ _ _ _ _ _ _ _ (by omega) T2.out (by omega) (by omega) (by omega)).mono ?_
        rintro e w2_ ⟨rfl, hb2_⟩
        clear M_0 M_1 M_2 M_3 M_4
        replace UZ : Hid (URow _ _ _ _ _) := UZ.out.below hb2_
        replace BW : Hid (Below _ _ _) := bstep BW.out hb2_
        replace M : Hid (MBox _ _ _ _ _ _) := M.out.below hb2_
        clear hb2_
        obtain ⟨M_0, M_1, M_2, M_3, M_4⟩ := M.out
        go_wp2_with fail
        have m_ := MBox.made w2_ 0 0 0 (.slice none 0 0)
        have b_ : Below w2_.heap.size w2_ (w2_.alloc (.cells #[.int .i64 0, .int .i64 0, .int .i64 0, .slice none 0 0] 25)) := (Below.refl _ _).alloc (Nat.le_refl _) _
        obtain ⟨k_A, hk_A⟩ : ∃ k, k = w2_.heap.size := ⟨_, rfl⟩
        have L_A : Hid (w.heap.size ≤ k_A) := by rw [hk_A]; exact BW.out.size
        rw [← hk_A] at m_ ⊢
        clear M_0 M_1 M_2 M_3 M_4
        generalize (w2_.alloc (.cells #[.int .i64 0, .int .i64 0, .int .i64 0, .slice none 0 0] 25)) = w3_ at m_ b_ ⊢
        replace UZ : Hid (URow _ _ _ _ _) := UZ.out.below b_
        replace BW : Hid (Below _ _ _) := bstep BW.out b_
        replace M : Hid (MBox _ _ _ _ _ _) := M.out.below b_
        have A : Hid (MBox w3_ k_A 0 0 0 (.slice none 0 0)) := m_
        clear m_ b_ hk_A
        refine (mCutNo _ _ _ _ _ _ _ _ _ _ _ (by omega) none_none (by omega) (by omega) (by omega)).mono ?_
        rintro e w4_ ⟨rfl, hb4_⟩
        replace UZ : Hid (URow _ _ _ _ _) := UZ.out.below hb4_
        replace BW : Hid (Below _ _ _) := bstep BW.out hb4_
        replace M : Hid (MBox _ _ _ _ _ _) := M.out.below hb4_
        replace A : Hid (MBox _ _ _ _ _ _) := A.out.below hb4_
        clear hb4_
        obtain ⟨M_0, M_1, M_2, M_3, M_4⟩ := M.out
        go_wp2_with fail
        have m_ := MBox.made w4_ 0 0 0 (.slice none 0 0)
        have b_ : Below w4_.heap.size w4_ (w4_.alloc (.cells #[.int .i64 0, .int .i64 0, .int .i64 0, .slice none 0 0] 25)) := (Below.refl _ _).alloc (Nat.le_refl _) _
        obtain ⟨k_B, hk_B⟩ : ∃ k, k = w4_.heap.size := ⟨_, rfl⟩
        have L_B : Hid (w.heap.size ≤ k_B) := by rw [hk_B]; exact BW.out.size
        rw [← hk_B] at m_ ⊢
        clear M_0 M_1 M_2 M_3 M_4
        generalize (w4_.alloc (.cells #[.int .i64 0, .int .i64 0, .int .i64 0, .slice none 0 0] 25)) = w5_ at m_ b_ ⊢
        replace UZ : Hid (URow _ _ _ _ _) := UZ.out.below b_
        replace BW : Hid (Below _ _ _) := bstep BW.out b_
        replace M : Hid (MBox _ _ _ _ _ _) := M.out.below b_
        replace A : Hid (MBox _ _ _ _ _ _) := A.out.below b_
        have B : Hid (MBox w5_ k_B 0 0 0 (.slice none 0 0)) := m_
        clear m_ b_ hk_B
        obtain ⟨M_0, M_1, M_2, M_3, M_4⟩ := M.out
        refine (mCutNo _ _ _ _ _ _ _ _ _ _ _ (by omega) T2.out (by omega) (by omega) (by omega)).mono ?_
        rintro e w6_ ⟨rfl, hb6_⟩
        clear M_0 M_1 M_2 M_3 M_4
        replace UZ : Hid (URow _ _ _ _ _) := UZ.out.below hb6_
        replace BW : Hid (Below _ _ _) := bstep BW.out hb6_
        replace M : Hid (MBox _ _ _ _ _ _) := M.out.below hb6_
        replace A : Hid (MBox _ _ _ _ _ _) := A.out.below hb6_
        replace B : Hid (MBox _ _ _ _ _ _) := B.out.below hb6_
        clear hb6_
        obtain ⟨M_0, M_1, M_2, M_3, M_4⟩ := M.out
        go_wp2
        go_ret
        exact ⟨ret_eq rfl, bmore BW.out _⟩
      · have hbr : decide ((R : Int) < (I : Int)) = false := decide_eq_false hir
        have hkc0 : (C : Int) < (K : Int) := by omega
        have hkc : decide ((C : Int) < (K : Int)) = true := decide_eq_true hkc0
        have hs1 : IntKind.i64.wrap ((R : Int) - (I : Int)) = (R : Int) - (I : Int) := by rw [IntKind.wrap_i64]; omega
        have hs2 : IntKind.i64.wrap ((C : Int) - (K : Int)) = (C : Int) - (K : Int) := by rw [IntKind.wrap_i64]; omega
        have hs3 : IntKind.i64.wrap ((I : Int) + (P : Int)) = (I : Int) + (P : Int) := by rw [IntKind.wrap_i64]; omega
        have hs4 : IntKind.i64.wrap ((K : Int) + (Q : Int)) = (K : Int) + (Q : Int) := by rw [IntKind.wrap_i64]; omega
        go_wp2_with fail
        have m_ := MBox.made w2 (R : Int) (C : Int) (S : Int) (.slice (some ⟨g, 0, none⟩) (R * S) (R * S))
        have b_ : Below w2.heap.size w2 (w2.alloc (.cells #[.int .i64 (R : Int), .int .i64 (C : Int), .int .i64 (S : Int), .slice (some ⟨g, 0, none⟩) (R * S) (R * S)] 25)) := (Below.refl _ _).alloc (Nat.le_refl _) _
        obtain ⟨k_M, hk_M⟩ : ∃ k, k = w2.heap.size := ⟨_, rfl⟩
        have L_M : Hid (w.heap.size ≤ k_M) := by rw [hk_M]; exact BW.out.size
        rw [← hk_M] at m_ ⊢
        generalize (w2.alloc (.cells #[.int .i64 (R : Int), .int .i64 (C : Int), .int .i64 (S : Int), .slice (some ⟨g, 0, none⟩) (R * S) (R * S)] 25)) = w1_ at m_ b_ ⊢
        replace UZ : Hid (URow _ _ _ _ _) := UZ.out.below b_
        replace BW : Hid (Below _ _ _) := bstep BW.out b_
        have M : Hid (MBox w1_ k_M (R : Int) (C : Int) (S : Int) (.slice (some ⟨g, 0, none⟩) (R * S) (R * S))) := m_
        clear m_ b_ hk_M
        obtain ⟨M_0, M_1, M_2, M_3, M_4⟩ := M.out
        refine (mCutNo _ _ _ _ _ _ _ _ _ _ _ (by omega) T2.out (by omega) (by omega) (by omega)).mono ?_
        rintro e w2_ ⟨rfl, hb2_⟩
        clear M_0 M_1 M_2 M_3 M_4
        replace UZ : Hid (URow _ _ _ _ _) := UZ.out.below hb2_
        replace BW : Hid (Below _ _ _) := bstep BW.out hb2_
        replace M : Hid (MBox _ _ _ _ _ _) := M.out.below hb2_
        clear hb2_
        obtain ⟨M_0, M_1, M_2, M_3, M_4⟩ := M.out
        go_wp2_with fail
        have m_ := MBox.made w2_ 0 0 0 (.slice none 0 0)
        have b_ : Below w2_.heap.size w2_ (w2_.alloc (.cells #[.int .i64 0, .int .i64 0, .int .i64 0, .slice none 0 0] 25)) := (Below.refl _ _).alloc (Nat.le_refl _) _
        obtain ⟨k_A, hk_A⟩ : ∃ k, k = w2_.heap.size := ⟨_, rfl⟩
        have L_A : Hid (w.heap.size ≤ k_A) := by rw [hk_A]; exact BW.out.size
        rw [← hk_A] at m_ ⊢
        clear M_0 M_1 M_2 M_3 M_4
        generalize (w2_.alloc (.cells #[.int .i64 0, .int .i64 0, .int .i64 0, .slice none 0 0] 25)) = w3_ at m_ b_ ⊢
        replace UZ : Hid (URow _ _ _ _ _) := UZ.out.below b_
        replace BW : Hid (Below _ _ _) := bstep BW.out b_
        replace M : Hid (MBox _ _ _ _ _ _) := M.out.below b_
        have A : Hid (MBox w3_ k_A 0 0 0 (.slice none 0 0)) := m_
        clear m_ b_ hk_A
        refine (mCutNo _ _ _ _ _ _ _ _ _ _ _ (by omega) none_none (by omega) (by omega) (by omega)).mono ?_
        rintro e w4_ ⟨rfl, hb4_⟩
        replace UZ : Hid (URow _ _ _ _ _) := UZ.out.below hb4_
        replace BW : Hid (Below _ _ _) := bstep BW.out hb4_
        replace M : Hid (MBox _ _ _ _ _ _) := M.out.below hb4_
        replace A : Hid (MBox _ _ _ _ _ _) := A.out.below hb4_
        clear hb4_
        obtain ⟨M_0, M_1, M_2, M_3, M_4⟩ := M.out
        go_wp2_with fail
        have m_ := MBox.made w4_ 0 0 0 (.slice none 0 0)
        have b_ : Below w4_.heap.size w4_ (w4_.alloc (.cells #[.int .i64 0, .int .i64 0, .int .i64 0, .slice none 0 0] 25)) := (Below.refl _ _).alloc (Nat.le_refl _) _
        obtain ⟨k_B, hk_B⟩ : ∃ k, k = w4_.heap.size := ⟨_, rfl⟩
        have L_B : Hid (w.heap.size ≤ k_B) := by rw [hk_B]; exact BW.out.size
        rw [← hk_B] at m_ ⊢
        clear M_0 M_1 M_2 M_3 M_4
        generalize (w4_.alloc (.cells #[.int .i64 0, .int .i64 0, .int .i64 0, .slice none 0 0] 25)) = w5_ at m_ b_ ⊢
        replace UZ : Hid (URow _ _ _ _ _) := UZ.out.below b_
        replace BW : Hid (Below _ _ _) := bstep BW.out b_
        replace M : Hid (MBox _ _ _ _ _ _) := M.out.below b_
        replace A : Hid (MBox _ _ _ _ _ _) := A.out.below b_
        have B : Hid (MBox w5_ k_B 0 0 0 (.slice none 0 0)) := m_
        clear m_ b_ hk_B
        obtain ⟨M_0, M_1, M_2, M_3, M_4⟩ := M.out
        refine (mCutNo _ _ _ _ _ _ _ _ _ _ _ (by omega) T2.out (by omega) (by omega) (by omega)).mono ?_
        rintro e w6_ ⟨rfl, hb6_⟩
        clear M_0 M_1 M_2 M_3 M_4
        replace UZ : Hid (URow _ _ _ _ _) := UZ.out.below hb6_
        replace BW : Hid (Below _ _ _) := bstep BW.out hb6_
        replace M : Hid (MBox _ _ _ _ _ _) := M.out.below hb6_
        replace A : Hid (MBox _ _ _ _ _ _) := A.out.below hb6_
        replace B : Hid (MBox _ _ _ _ _ _) := B.out.below hb6_
        clear hb6_
        obtain ⟨M_0, M_1, M_2, M_3, M_4⟩ := M.out
        go_wp2
        go_ret
        exact ⟨ret_eq rfl, bmore BW.out _⟩

/-! ### THE ROW's STEP: WRITTEN OUT: LEAVE IT -/
set_option maxRecDepth 100000 in
theorem lifted (os : Os) (started : os.Started) (H : Type) (enc : TypeId × Value → H) :
    ReturnsInHanded {} Try.checked os 8 .any (Rows.matPartsSpec.pre6 enc Try.prog Try.f8 Rows.matPartsRow.domain false) (Rows.matPartsSpec.post enc Try.prog Try.f8 false true false false) := by
  refine returnsInHanded_of_change (C := Try.checked) own started (by kernel_rfl) Try.func8
    (ChangeSpec.witness6 (enc := enc) (C := Try.checked) false ⟨#[], #[.int .i64 0, .int .i64 0, .int .i64 0, .slice none 0 0, .int .i64 0, .int .i64 0, .int .i64 0, .int .i64 0], []⟩ 8 (by kernel_rfl) (by kernel_rfl) (by kernel_rfl) (by kernel_rfl)) ?_
  intro W base args ds gs before hval0 hW hcnd _
  have hval : ∀ (j : Nat) t v, Try.f8.params[j]? = some t → args[j]? = some v → Value.okWide Try.prog W .any base t v := hval0
  have hW' := hW
  obtain ⟨p, q, hA0, hV, rfl, hfz, hnd⟩ := hW
  have hA : DataW.TrodAll enc Try.prog W 0 (fun _ => true) true Try.f8.params.toList args.toList ds p := hA0
  rw [Try.params8] at hA hval
  obtain ⟨v0, vs0, d0, ds0, p0, q0, hargs, rfl, rfl, h0, r0⟩ := trodAll_cons hA
  obtain ⟨v1, vs1, d1, ds1, p1, q1, rfl, rfl, rfl, h1, r1⟩ := trodAll_cons r0
  obtain ⟨v2, vs2, d2, ds2, p2, q2, rfl, rfl, rfl, h2, r2⟩ := trodAll_cons r1
  obtain ⟨v3, vs3, d3, ds3, p3, q3, rfl, rfl, rfl, h3, r3⟩ := trodAll_cons r2
  obtain ⟨v4, vs4, d4, ds4, p4, q4, rfl, rfl, rfl, h4, r4⟩ := trodAll_cons r3
  obtain ⟨v5, vs5, d5, ds5, p5, q5, rfl, rfl, rfl, h5, r5⟩ := trodAll_cons r4
  obtain ⟨v6, vs6, d6, ds6, p6, q6, rfl, rfl, rfl, h6, r6⟩ := trodAll_cons r5
  obtain ⟨v7, vs7, d7, ds7, p7, q7, rfl, rfl, rfl, h7, r7⟩ := trodAll_cons r6
  obtain ⟨rfl, rfl, rfl⟩ := trodAll_nil r7
  obtain rfl : args = #[v0, v1, v2, v3, v4, v5, v6, v7] := by cases args; simp_all
  obtain ⟨rfl, rfl⟩ := trodVars_none hV
  obtain ⟨a0, rfl, rfl, rfl, w0⟩ := open_int Try.underlying3 (hval 0 3 v0 rfl rfl) h0
  obtain ⟨a1, rfl, rfl, rfl, w1⟩ := open_int Try.underlying3 (hval 1 3 v1 rfl rfl) h1
  obtain ⟨a2, rfl, rfl, rfl, w2⟩ := open_int Try.underlying3 (hval 2 3 v2 rfl rfl) h2
  obtain ⟨a3, len3, cap3, rfl⟩ := okWide_slice Try.underlying23 (hval 3 23 v3 rfl rfl)
  have k3 := h3
  have lt3 : ∀ x ∈ p3, x.block < W.heap.size := by obtain ⟨m, hm⟩ := k3; exact DataW.trod_lt m _ _ _ hm
  obtain ⟨z3, w3⟩ : ∃ zs, IsRow .u64 W a3 len3 cap3 zs := by
    obtain ⟨fuel, hf⟩ := h3
    rcases open_ints Try.underlying23 Try.underlying26 (by kernel_rfl) hf with ⟨hcs, _⟩ | ⟨x, l, c, zs, hcs, _, hl, hm, hz, _, hcell, hwz⟩
    · simp [Value.cells] at hcs
      obtain ⟨rfl, rfl, rfl⟩ := hcs
      exact ⟨[], .inl ⟨rfl, rfl, rfl, rfl⟩⟩
    · simp [Value.cells] at hcs
      obtain ⟨rfl, rfl, rfl⟩ := hcs
      exact ⟨zs, .inr ⟨_, rfl, hl, hm, by simpa using hz, hcell, hwz⟩⟩
  obtain ⟨a4, rfl, rfl, rfl, w4⟩ := open_int Try.underlying3 (hval 4 3 v4 rfl rfl) h4
  obtain ⟨a5, rfl, rfl, rfl, w5⟩ := open_int Try.underlying3 (hval 5 3 v5 rfl rfl) h5
  obtain ⟨a6, rfl, rfl, rfl, w6⟩ := open_int Try.underlying3 (hval 6 3 v6 rfl rfl) h6
  obtain ⟨a7, rfl, rfl, rfl, w7⟩ := open_int Try.underlying3 (hval 7 3 v7 rfl rfl) h7
  clear hA0 hval0
  refine (walk a0 a1 a2 a3 len3 cap3 z3 a4 a5 a6 a7 W w0 w1 w2 w3 w4 w5 w6 w7).mono fun e W' ⟨he, bel⟩ => ?_
  subst he
  exact ⟨_, rfl, _, _, _, [], _, [], hW', trodAll_mk1 (shut_bool Try.underlying4 _), (trodAll_cons_mk (shut_int Try.underlying3 w0) (trodAll_cons_mk (shut_int Try.underlying3 w1) (trodAll_cons_mk (shut_int Try.underlying3 w2) (trodAll_cons_mk (Below.trod laidOut (by kernel_rfl) (of_decide_eq_true (by kernel_rfl)) k3 bel lt3) (trodAll_cons_mk (shut_int Try.underlying3 w4) (trodAll_cons_mk (shut_int Try.underlying3 w5) (trodAll_cons_mk (shut_int Try.underlying3 w6) (trodAll_cons_mk (shut_int Try.underlying3 w7) trodAll_mk0)))))))), rfl, bel.frame _, fun h => by cases h⟩

theorem over : Rows.matPartsRow.holds Try.pinned (OpenSpec.ofChange Rows.matPartsSpec) :=
  OpenClaim.holds_of_wide 8 Try.f8 rfl rfl rfl rfl rfl rfl rfl ⟨rfl, rfl, rfl, rfl, rfl⟩ rfl rfl rfl rfl rfl (by kernel_rfl) Try.func8 (by kernel_rfl)
    (of_decide_eq_true (by kernel_rfl)) (by unfold Func.isWrapper; first | (rw [if_pos (by decide +kernel)]; kernel_rfl) | (rw [if_neg (by decide +kernel)]; exact ⟨rfl, rfl⟩))
    (fun os started H enc _ => lifted os started H enc)

/-- ████ THE STATEMENT ████ -/
theorem proved : Rows.MatPartsSaid := over
#print axioms proved
end Go.Proofs.Ytokgfeeaoioegaa.matParts
