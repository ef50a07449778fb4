/-
  The law MatCopies returns true at every input (any sizes, any slice of patterns, any places), and leaves its arguments as they were. No conditions.
-/
import Derived.Test.YtokgfeeaoioegaaRows
import Derived.WalkKit
import Derived.ProofKit
import Derived.OpenShut
import Derived.Test.YtokgfeeaoioegaaGrN
import Derived.ShutString
import Derived.ChangeOld
import Derived.Below
namespace Go.Proofs.Ytokgfeeaoioegaa.matCopies
open Go.ChangeShapes Go.WideShapes Go.ChangeAt Go.RowKit
open Go.ChangeMaps (open_string shut_string)
set_option linter.unusedVariables false

theorem own : ownKnob Try.prog.godebug = none := by kernel_rfl
theorem laidOut : laidOutB Try.prog = true := by kernel_rfl

/-- WHAT THE WALK IS TOLD OF A SLICE OF INTEGERS THAT CAME IN: it is nil; or it leads to a row of 'cap' cells, the numbers 'zs' (the first 'len' are its elements, the rest its spare room), each fitting its kind. -/
def IsRow (k : IntKind) (w : World) (a : Option Addr) (len cap : Nat) (zs : List Int) : Prop :=
  (a = none ∧ len = 0 ∧ cap = 0 ∧ zs = []) ∨
  ∃ x, a = some x ∧ len ≤ cap ∧ cap ≤ maxLen ∧ zs.length = cap ∧ (∀ i, i < zs.length → w.cell? (x.add i) = some (.int k (zs.getD i 0))) ∧ ∀ n ∈ zs, (Lit.int k n).wf = true

set_option linter.unusedSimpArgs false
theorem row_of (w : World) (a : Option Addr) (len cap : Nat) (zs : List Int) (h : IsRow .u64 w a len cap zs) : URow w a len cap (fun i => zs.getD i 0) := by
  rcases h with ⟨rfl, rfl, rfl, rfl⟩ | ⟨x, rfl, h1, h2, h3, h4, h5⟩
  · exact ⟨Nat.le_refl _, Nat.zero_le _, fun i => by simp, fun h => absurd h (Nat.lt_irrefl 0)⟩
  · refine ⟨h1, h2, fun i => ?_, fun hp => ?_⟩
    · show 0 ≤ zs.getD i 0 ∧ zs.getD i 0 < 18446744073709551616
      rcases Nat.lt_or_ge i zs.length with g | g
      · have hm : zs.getD i 0 ∈ zs := by
          rw [List.getD_eq_getElem?_getD, List.getElem?_eq_getElem g]
          exact List.getElem_mem g
        obtain ⟨q1, q2⟩ := bounds_u64 (h5 _ hm)
        exact ⟨q1, by omega⟩
      · rw [List.getD_eq_getElem?_getD, List.getElem?_eq_none g]
        simp
    · obtain ⟨b, o, s⟩ := x
      have hs : s = none := by simpa [Addr.add] using World.cell?_spot (h4 0 (by omega))
      subst hs
      have hb : b < w.heap.size := by
        have := World.block_lt_of_cell? _ _ (h4 0 (by omega))
        simpa [Addr.add] using this
      refine ⟨b, o, rfl, hb, fun i hi => ?_⟩
      have := h4 i (by omega)
      rw [add_plain] at this
      exact this
set_option maxRecDepth 100000 in
set_option maxHeartbeats 8000000 in
theorem walk (a0 : Int) (a1 : Int) (a2 : Int) (a3 : Option Addr) (len3 cap3 : Nat) (z3 : List Int) (a4 : Int) (a5 : Int) (w : World) (w0 : (Lit.int .i64 a0).wf = true) (w1 : (Lit.int .i64 a1).wf = true) (w2 : (Lit.int .i64 a2).wf = true) (w3 : IsRow .u64 w a3 len3 cap3 z3) (w4 : (Lit.int .i64 a4).wf = true) (w5 : (Lit.int .i64 a5).wf = true) :
    Calls Try.prog 4 #[.int .i64 a0, .int .i64 a1, .int .i64 a2, .slice a3 len3 cap3, .int .i64 a4, .int .i64 a5] w fun e w' => e = .returned (.bool true) ∧ Below w.heap.size w w' := by
  have hr := row_of w a3 len3 cap3 z3 w3
  generalize (fun i => z3.getD i 0) = U at hr
  obtain ⟨i0, i1⟩ := bounds_i64 w4
  obtain ⟨k0, k1⟩ := bounds_i64 w5
  clear w0 w1 w2 w3 w4 w5
  obtain ⟨R, hR⟩ : ∃ R : Nat, (R : Int) = a0 % 8 := ⟨(a0 % 8).toNat, by omega⟩
  obtain ⟨C, hC⟩ : ∃ C : Nat, (C : Int) = a1 % 8 := ⟨(a1 % 8).toNat, by omega⟩
  obtain ⟨S, hS⟩ : ∃ S : Nat, (S : Int) = a1 % 8 + a2 % 4 := ⟨(a1 % 8 + a2 % 4).toNat, by omega⟩
  by_cases hl : 100 < len3
  · obtain ⟨h1, h2, hz, h4⟩ := hr
    have hl2 : (100 : Int) < (len3 : Int) := by omega
    clear hz h4 hR hC hS
    go_enter Try.func4, Try.ntmps4
    go_wp2_with fail
    refine (lHead9 _).mono ?_
    rintro e w1 ⟨rfl, hb1⟩
    go_wp2
    go_ret
    exact ⟨ret_eq rfl, hb1⟩
  · have hl2 : ¬ (100 : Int) < (len3 : Int) := by omega
    have hdl : decide ((100 : Int) < (len3 : Int)) = false := by simp; omega
    have HR : Hid (URow _ _ _ _ _) := hr
    have hR7 : R ≤ 7 := by omega
    have hC7 : C ≤ 7 := by omega
    have hS7 : S ≤ 10 := by omega
    have hCS : C ≤ S := by omega
    have hRC : R * C ≤ 49 := Nat.mul_le_mul hR7 hC7
    have hCR : C * R ≤ 49 := Nat.mul_le_mul hC7 hR7
    have hRS : R * S ≤ 70 := Nat.mul_le_mul hR7 hS7
    have PR : Hid ((R : Int) = a0 % 8) := hR
    have PC : Hid ((C : Int) = a1 % 8) := hC
    have PS : Hid ((S : Int) = a1 % 8 + a2 % 4) := hS
    clear hr hR hC hS
    go_enter Try.func4, Try.ntmps4
    go_wp2_with fail
    refine (lHead9 _).mono ?_
    rintro e w1 ⟨rfl, hb1⟩
    have B1 : Hid (Below w.heap.size w w1) := hb1
    clear hb1
    go_wp2_with fail
    refine (lMade a0 a1 a2 a3 len3 cap3 U R C S w1 PR.out PC.out PS.out (HR.out.below B1.out) (by omega)).mono ?_
    rintro e w2 ⟨g, xs, rfl, hg, hx, ⟨hxl, hxw, hxi⟩, hb2⟩
    obtain ⟨Z, hZ⟩ : ∃ Z : Nat → Int, Z = fun j => xs[j]?.getD 0 := ⟨_, rfl⟩
    have hu := hx.rowZ hxl (by omega) hxw
    rw [← hZ] at hu
    have UZ : Hid (URow w2 (some ⟨g, 0, none⟩) (R * S) (R * S) Z) := hu
    have EZ : Hid (∀ i k, i < R → k < C → Z (i * S + k) = mD U len3 C i k) := by rw [hZ]; exact fun i k hi hk => hxi i k hk hi (.inl hi)
    have HW : Hid (URow w2 a3 len3 cap3 U) := (HR.out.below B1.out).below hb2
    have LG : Hid (g < w2.heap.size) := hx.lt
    have BW : Hid (Below w.heap.size w w2) := bstep B1.out hb2
    have T2 : Hid (Rgt (R : Int) (C : Int) (S : Int) (R * S)) := loose R C S (by omega) hCS (by omega)
    have TC : Hid (Rgt (R : Int) (C : Int) (C : Int) (R * C)) := tight R C (by omega) (by omega)
    have TT : Hid (Rgt (C : Int) (R : Int) (R : Int) (C * R)) := tight C R (by omega) (by omega)
    clear hb2 hx hxl hxw hxi hu hZ hg B1
    obtain ⟨N, hN⟩ : ∃ N, R * C = N := ⟨_, rfl⟩
    obtain ⟨N2, hN2⟩ : ∃ N, C * R = N := ⟨_, rfl⟩
    rw [hN] at hRC TC
    rw [hN2] at hCR TT
    have HN : Hid (R * C = N) := hN
    have HN2 : Hid (C * R = N2) := hN2
    clear hN hN2
    have HR0 : Hid (URow w a3 len3 cap3 U) := HR
    clear HR
    go_wp2_with fail
    have m_ := MBox.made w2 (R : Int) (C : Int) (S : Int) (.slice (some ⟨g, 0, none⟩) (R * S) (R * S))
    have b_ : Below w2.heap.size w2 (w2.alloc (.cells #[.int .i64 (R : Int), .int .i64 (C : Int), .int .i64 (S : Int), .slice (some ⟨g, 0, none⟩) (R * S) (R * S)] 25)) := (Below.refl _ _).alloc (Nat.le_refl _) _
    obtain ⟨k_M, hk_M⟩ : ∃ k, k = w2.heap.size := ⟨_, rfl⟩
    have L_M : Hid (w.heap.size ≤ k_M) := by rw [hk_M]; exact BW.out.size
    have GM : Hid (g < k_M) := by have := LG.out; show _ < _; omega
    rw [← hk_M] at m_ ⊢
    generalize (w2.alloc (.cells #[.int .i64 (R : Int), .int .i64 (C : Int), .int .i64 (S : Int), .slice (some ⟨g, 0, none⟩) (R * S) (R * S)] 25)) = w1_ at m_ b_ ⊢
    replace UZ : Hid (URow _ _ _ _ _) := UZ.out.below b_
    replace HW : Hid (URow _ _ _ _ _) := HW.out.below b_
    replace BW : Hid (Below _ _ _) := bstep BW.out b_
    replace LG : Hid (_ < _) := Nat.lt_of_lt_of_le LG.out (Below.size b_)
    have M : Hid (MBox w1_ k_M (R : Int) (C : Int) (S : Int) (.slice (some ⟨g, 0, none⟩) (R * S) (R * S))) := m_
    clear m_ b_ hk_M
    have LM : Hid (k_M < w1_.heap.size) := M.out.2.2.2.2
    obtain ⟨M_0, M_1, M_2, M_3, M_4⟩ := M.out
    refine (mClone R C S _ _ _ Z _ T2.out UZ.out (by rw [HN.out]; omega)).mono ?_
    rintro e w2_ ⟨gc, cs, rfl, hgc, hRc, ⟨hcl, hcw, hci⟩, hb2_⟩
    rw [HN.out] at hcl ⊢
    obtain ⟨CF, hCF⟩ : ∃ F : Nat → Int, F = fun j => cs[j]?.getD 0 := ⟨_, rfl⟩
    have HCF : Hid (CF = fun j => cs[j]?.getD 0) := hCF
    have CL : Hid (cs.length = N) := hcl
    have CW : Hid (InW cs) := hcw
    have CE : Hid (∀ i k, i < R → k < C → CF (i * C + k) = Z (i * S + k)) := fun i k hi hk => by rw [hCF]; show cs[i * C + k]?.getD 0 = _; rw [hci i k hi hk]; simp
    clear hcl hcw hci hCF
    have NG : Hid (g < gc ∧ k_M < gc ∧ w.heap.size ≤ gc) := ⟨Nat.lt_of_lt_of_le LG.out hgc, Nat.lt_of_lt_of_le LM.out hgc, Nat.le_trans (Below.size BW.out) hgc⟩
    clear hgc
    clear M_0 M_1 M_2 M_3 M_4
    replace UZ : Hid (URow _ _ _ _ _) := UZ.out.below hb2_
    replace HW : Hid (URow _ _ _ _ _) := HW.out.below hb2_
    replace BW : Hid (Below _ _ _) := bstep BW.out hb2_
    replace LG : Hid (_ < _) := Nat.lt_of_lt_of_le LG.out (Below.size hb2_)
    replace M : Hid (MBox _ _ _ _ _ _) := M.out.below hb2_
    replace LM : Hid (_ < _) := Nat.lt_of_lt_of_le LM.out (Below.size hb2_)
    clear hb2_
    have RC : Hid (RowU w2_ gc cs) := hRc
    clear hRc
    have LC : Hid (gc < w2_.heap.size) := RC.out.lt
    obtain ⟨M_0, M_1, M_2, M_3, M_4⟩ := M.out
    go_wp2_with fail
    have m_ := MBox.made w2_ (R : Int) (C : Int) (C : Int) (.slice (some ⟨gc, 0, none⟩) N N)
    have b_ : Below w2_.heap.size w2_ (w2_.alloc (.cells #[.int .i64 (R : Int), .int .i64 (C : Int), .int .i64 (C : Int), .slice (some ⟨gc, 0, none⟩) N N] 25)) := (Below.refl _ _).alloc (Nat.le_refl _) _
    obtain ⟨k_A, hk_A⟩ : ∃ k, k = w2_.heap.size := ⟨_, rfl⟩
    have L_A : Hid (w.heap.size ≤ k_A) := by rw [hk_A]; exact BW.out.size
    have GA : Hid (gc < k_A) := by have := LC.out; show _ < _; omega
    rw [← hk_A] at m_ ⊢
    clear M_0 M_1 M_2 M_3 M_4
    generalize (w2_.alloc (.cells #[.int .i64 (R : Int), .int .i64 (C : Int), .int .i64 (C : Int), .slice (some ⟨gc, 0, none⟩) N N] 25)) = w3_ at m_ b_ ⊢
    replace UZ : Hid (URow _ _ _ _ _) := UZ.out.below b_
    replace HW : Hid (URow _ _ _ _ _) := HW.out.below b_
    replace BW : Hid (Below _ _ _) := bstep BW.out b_
    replace LG : Hid (_ < _) := Nat.lt_of_lt_of_le LG.out (Below.size b_)
    replace M : Hid (MBox _ _ _ _ _ _) := M.out.below b_
    replace LM : Hid (_ < _) := Nat.lt_of_lt_of_le LM.out (Below.size b_)
    replace RC : Hid (RowU _ _ _) := RC.out.below b_
    replace LC : Hid (_ < _) := Nat.lt_of_lt_of_le LC.out (Below.size b_)
    have A : Hid (MBox w3_ k_A (R : Int) (C : Int) (C : Int) (.slice (some ⟨gc, 0, none⟩) N N)) := m_
    clear m_ b_ hk_A
    have LA : Hid (k_A < w3_.heap.size) := A.out.2.2.2.2
    obtain ⟨M_0, M_1, M_2, M_3, M_4⟩ := M.out
    refine (mTurn R C S _ _ _ Z _ T2.out UZ.out (by rw [HN2.out]; omega)).mono ?_
    rintro e w4_ ⟨gt, ts, rfl, hgt, hRt, ⟨htl, htw, hti⟩, hb4_⟩
    rw [HN2.out] at htl ⊢
    obtain ⟨TF, hTF⟩ : ∃ F : Nat → Int, F = fun j => ts[j]?.getD 0 := ⟨_, rfl⟩
    have HTF : Hid (TF = fun j => ts[j]?.getD 0) := hTF
    have TL : Hid (ts.length = N2) := htl
    have TW : Hid (InW ts) := htw
    have TE : Hid (∀ i k, i < R → k < C → TF (k * R + i) = Z (i * S + k)) := fun i k hi hk => by rw [hTF]; exact hti i k hk hi (.inl hi)
    clear htl htw hti hTF
    have NT : Hid (g < gt ∧ k_M < gt ∧ gc < gt ∧ k_A < gt ∧ w.heap.size ≤ gt) := ⟨Nat.lt_of_lt_of_le LG.out hgt, Nat.lt_of_lt_of_le LM.out hgt, Nat.lt_of_lt_of_le LC.out hgt, Nat.lt_of_lt_of_le LA.out hgt, Nat.le_trans (Below.size BW.out) hgt⟩
    clear hgt
    clear M_0 M_1 M_2 M_3 M_4
    replace UZ : Hid (URow _ _ _ _ _) := UZ.out.below hb4_
    replace HW : Hid (URow _ _ _ _ _) := HW.out.below hb4_
    replace BW : Hid (Below _ _ _) := bstep BW.out hb4_
    replace LG : Hid (_ < _) := Nat.lt_of_lt_of_le LG.out (Below.size hb4_)
    replace M : Hid (MBox _ _ _ _ _ _) := M.out.below hb4_
    replace LM : Hid (_ < _) := Nat.lt_of_lt_of_le LM.out (Below.size hb4_)
    replace RC : Hid (RowU _ _ _) := RC.out.below hb4_
    replace LC : Hid (_ < _) := Nat.lt_of_lt_of_le LC.out (Below.size hb4_)
    replace A : Hid (MBox _ _ _ _ _ _) := A.out.below hb4_
    replace LA : Hid (_ < _) := Nat.lt_of_lt_of_le LA.out (Below.size hb4_)
    clear hb4_
    have RT : Hid (RowU w4_ gt ts) := hRt
    clear hRt
    have LT : Hid (gt < w4_.heap.size) := RT.out.lt
    obtain ⟨M_0, M_1, M_2, M_3, M_4⟩ := M.out
    go_wp2_with fail
    have m_ := MBox.made w4_ (C : Int) (R : Int) (R : Int) (.slice (some ⟨gt, 0, none⟩) N2 N2)
    have b_ : Below w4_.heap.size w4_ (w4_.alloc (.cells #[.int .i64 (C : Int), .int .i64 (R : Int), .int .i64 (R : Int), .slice (some ⟨gt, 0, none⟩) N2 N2] 25)) := (Below.refl _ _).alloc (Nat.le_refl _) _
    obtain ⟨k_T, hk_T⟩ : ∃ k, k = w4_.heap.size := ⟨_, rfl⟩
    have L_T : Hid (w.heap.size ≤ k_T) := by rw [hk_T]; exact BW.out.size
    have GT : Hid (gt < k_T) := by have := LT.out; show _ < _; omega
    rw [← hk_T] at m_ ⊢
    clear M_0 M_1 M_2 M_3 M_4
    generalize (w4_.alloc (.cells #[.int .i64 (C : Int), .int .i64 (R : Int), .int .i64 (R : Int), .slice (some ⟨gt, 0, none⟩) N2 N2] 25)) = w5_ at m_ b_ ⊢
    replace UZ : Hid (URow _ _ _ _ _) := UZ.out.below b_
    replace HW : Hid (URow _ _ _ _ _) := HW.out.below b_
    replace BW : Hid (Below _ _ _) := bstep BW.out b_
    replace LG : Hid (_ < _) := Nat.lt_of_lt_of_le LG.out (Below.size b_)
    replace M : Hid (MBox _ _ _ _ _ _) := M.out.below b_
    replace LM : Hid (_ < _) := Nat.lt_of_lt_of_le LM.out (Below.size b_)
    replace RC : Hid (RowU _ _ _) := RC.out.below b_
    replace LC : Hid (_ < _) := Nat.lt_of_lt_of_le LC.out (Below.size b_)
    replace A : Hid (MBox _ _ _ _ _ _) := A.out.below b_
    replace LA : Hid (_ < _) := Nat.lt_of_lt_of_le LA.out (Below.size b_)
    replace RT : Hid (RowU _ _ _) := RT.out.below b_
    replace LT : Hid (_ < _) := Nat.lt_of_lt_of_le LT.out (Below.size b_)
    have T : Hid (MBox w5_ k_T (C : Int) (R : Int) (R : Int) (.slice (some ⟨gt, 0, none⟩) N2 N2)) := m_
    clear m_ b_ hk_T
    obtain ⟨A_0, A_1, A_2, A_3, A_4⟩ := A.out
    obtain ⟨M_0, M_1, M_2, M_3, M_4⟩ := M.out
    obtain ⟨T_0, T_1, T_2, T_3, T_4⟩ := T.out
    go_region_held3 (fun w' => (w'.cell? ⟨k_A, 0, none⟩ = some (.int .i64 (R : Int)) ∧ w'.cell? ⟨k_A, 1, none⟩ = some (.int .i64 (C : Int)) ∧ w'.cell? ⟨k_A, 2, none⟩ = some (.int .i64 (C : Int)) ∧ w'.cell? ⟨k_A, 3, none⟩ = some (.slice (some ⟨gc, 0, none⟩) N N)) ∧ (w'.cell? ⟨k_M, 0, none⟩ = some (.int .i64 (R : Int)) ∧ w'.cell? ⟨k_M, 1, none⟩ = some (.int .i64 (C : Int)) ∧ w'.cell? ⟨k_M, 2, none⟩ = some (.int .i64 (S : Int)) ∧ w'.cell? ⟨k_M, 3, none⟩ = some (.slice (some ⟨g, 0, none⟩) (R * S) (R * S))) ∧ (w'.cell? ⟨k_T, 0, none⟩ = some (.int .i64 (C : Int)) ∧ w'.cell? ⟨k_T, 1, none⟩ = some (.int .i64 (R : Int)) ∧ w'.cell? ⟨k_T, 2, none⟩ = some (.int .i64 (R : Int)) ∧ w'.cell? ⟨k_T, 3, none⟩ = some (.slice (some ⟨gt, 0, none⟩) N2 N2))) (simp [go_sem, *]) (first | (go_at_call_of 23 gc; refine (mSame R C C S _ _ _ _ _ _ CF Z _ TC.out T2.out (RowU.rowF (by first | (with_reducible exact RC.out) | exact RC.out.below ((Below.refl _ _).drew)) CL.out (by omega) CW.out HCF.out) (by first | (with_reducible exact UZ.out) | exact UZ.out.below ((Below.refl _ _).drew)) CE.out).mono ?_; rintro e w6_ ⟨rfl, hb6_⟩; replace hb6_ : Below w5_.heap.size w5_ w6_ := (by first | exact ((Below.refl _ _).drew).trans hb6_ | exact hb6_); clear A_0 A_1 A_2 A_3 A_4 M_0 M_1 M_2 M_3 M_4 T_0 T_1 T_2 T_3 T_4; replace UZ : Hid (URow _ _ _ _ _) := UZ.out.below hb6_; replace HW : Hid (URow _ _ _ _ _) := HW.out.below hb6_; replace BW : Hid (Below _ _ _) := bstep BW.out hb6_; replace LG : Hid (_ < _) := Nat.lt_of_lt_of_le LG.out (Below.size hb6_); replace M : Hid (MBox _ _ _ _ _ _) := M.out.below hb6_; replace LM : Hid (_ < _) := Nat.lt_of_lt_of_le LM.out (Below.size hb6_); replace RC : Hid (RowU _ _ _) := RC.out.below hb6_; replace LC : Hid (_ < _) := Nat.lt_of_lt_of_le LC.out (Below.size hb6_); replace A : Hid (MBox _ _ _ _ _ _) := A.out.below hb6_; replace LA : Hid (_ < _) := Nat.lt_of_lt_of_le LA.out (Below.size hb6_); replace RT : Hid (RowU _ _ _) := RT.out.below hb6_; replace LT : Hid (_ < _) := Nat.lt_of_lt_of_le LT.out (Below.size hb6_); replace T : Hid (MBox _ _ _ _ _ _) := T.out.below hb6_; obtain ⟨A_0, A_1, A_2, A_3, A_4⟩ := A.out; obtain ⟨M_0, M_1, M_2, M_3, M_4⟩ := M.out; obtain ⟨T_0, T_1, T_2, T_3, T_4⟩ := T.out; clear hb6_) | (go_at_call_of 16 gc; refine (mCheckOk R C C _ _ _ _ TC.out (by omega)).mono ?_; rintro e w7_ ⟨rfl, hb7_⟩; replace hb7_ : Below w6_.heap.size w6_ w7_ := (by first | exact ((Below.refl _ _).drew).trans hb7_ | exact hb7_); clear A_0 A_1 A_2 A_3 A_4 M_0 M_1 M_2 M_3 M_4 T_0 T_1 T_2 T_3 T_4; replace UZ : Hid (URow _ _ _ _ _) := UZ.out.below hb7_; replace HW : Hid (URow _ _ _ _ _) := HW.out.below hb7_; replace BW : Hid (Below _ _ _) := bstep BW.out hb7_; replace LG : Hid (_ < _) := Nat.lt_of_lt_of_le LG.out (Below.size hb7_); replace M : Hid (MBox _ _ _ _ _ _) := M.out.below hb7_; replace LM : Hid (_ < _) := Nat.lt_of_lt_of_le LM.out (Below.size hb7_); replace RC : Hid (RowU _ _ _) := RC.out.below hb7_; replace LC : Hid (_ < _) := Nat.lt_of_lt_of_le LC.out (Below.size hb7_); replace A : Hid (MBox _ _ _ _ _ _) := A.out.below hb7_; replace LA : Hid (_ < _) := Nat.lt_of_lt_of_le LA.out (Below.size hb7_); replace RT : Hid (RowU _ _ _) := RT.out.below hb7_; replace LT : Hid (_ < _) := Nat.lt_of_lt_of_le LT.out (Below.size hb7_); replace T : Hid (MBox _ _ _ _ _ _) := T.out.below hb7_; obtain ⟨A_0, A_1, A_2, A_3, A_4⟩ := A.out; obtain ⟨M_0, M_1, M_2, M_3, M_4⟩ := M.out; obtain ⟨T_0, T_1, T_2, T_3, T_4⟩ := T.out; clear hb7_) | (go_at_call_of 16 gt; refine (mCheckOk C R R _ _ _ _ TT.out (by omega)).mono ?_; rintro e w8_ ⟨rfl, hb8_⟩; replace hb8_ : Below w7_.heap.size w7_ w8_ := (by first | exact ((Below.refl _ _).drew).trans hb8_ | exact hb8_); clear A_0 A_1 A_2 A_3 A_4 M_0 M_1 M_2 M_3 M_4 T_0 T_1 T_2 T_3 T_4; replace UZ : Hid (URow _ _ _ _ _) := UZ.out.below hb8_; replace HW : Hid (URow _ _ _ _ _) := HW.out.below hb8_; replace BW : Hid (Below _ _ _) := bstep BW.out hb8_; replace LG : Hid (_ < _) := Nat.lt_of_lt_of_le LG.out (Below.size hb8_); replace M : Hid (MBox _ _ _ _ _ _) := M.out.below hb8_; replace LM : Hid (_ < _) := Nat.lt_of_lt_of_le LM.out (Below.size hb8_); replace RC : Hid (RowU _ _ _) := RC.out.below hb8_; replace LC : Hid (_ < _) := Nat.lt_of_lt_of_le LC.out (Below.size hb8_); replace A : Hid (MBox _ _ _ _ _ _) := A.out.below hb8_; replace LA : Hid (_ < _) := Nat.lt_of_lt_of_le LA.out (Below.size hb8_); replace RT : Hid (RowU _ _ _) := RT.out.below hb8_; replace LT : Hid (_ < _) := Nat.lt_of_lt_of_le LT.out (Below.size hb8_); replace T : Hid (MBox _ _ _ _ _ _) := T.out.below hb8_; obtain ⟨A_0, A_1, A_2, A_3, A_4⟩ := A.out; obtain ⟨M_0, M_1, M_2, M_3, M_4⟩ := M.out; obtain ⟨T_0, T_1, T_2, T_3, T_4⟩ := T.out; clear hb8_) | (go_at_call 22; refine (mTurnZ C R R _ _ _ TF _ TT.out (RowU.rowF (by first | (with_reducible exact RT.out) | exact RT.out.below ((Below.refl _ _).drew)) TL.out (by omega) TW.out HTF.out) (by rw [HN.out]; omega)).mono ?_; rintro e w9_ ⟨gq, Q, rfl, _, hUQ, hEQ, hb9_⟩; replace hb9_ : Below w8_.heap.size w8_ w9_ := (by first | exact ((Below.refl _ _).drew).trans hb9_ | exact hb9_); have UQ : Hid (URow w9_ (some ⟨gq, 0, none⟩) (R * C) (R * C) Q) := hUQ; have EQ : Hid (∀ i k, i < R → k < C → Q (i * C + k) = Z (i * S + k)) := fun i k hi hk => (by rw [hEQ i k hi hk]; exact TE.out i k hi hk); clear hUQ hEQ; clear A_0 A_1 A_2 A_3 A_4 M_0 M_1 M_2 M_3 M_4 T_0 T_1 T_2 T_3 T_4; replace UZ : Hid (URow _ _ _ _ _) := UZ.out.below hb9_; replace HW : Hid (URow _ _ _ _ _) := HW.out.below hb9_; replace BW : Hid (Below _ _ _) := bstep BW.out hb9_; replace LG : Hid (_ < _) := Nat.lt_of_lt_of_le LG.out (Below.size hb9_); replace M : Hid (MBox _ _ _ _ _ _) := M.out.below hb9_; replace LM : Hid (_ < _) := Nat.lt_of_lt_of_le LM.out (Below.size hb9_); replace RC : Hid (RowU _ _ _) := RC.out.below hb9_; replace LC : Hid (_ < _) := Nat.lt_of_lt_of_le LC.out (Below.size hb9_); replace A : Hid (MBox _ _ _ _ _ _) := A.out.below hb9_; replace LA : Hid (_ < _) := Nat.lt_of_lt_of_le LA.out (Below.size hb9_); replace RT : Hid (RowU _ _ _) := RT.out.below hb9_; replace LT : Hid (_ < _) := Nat.lt_of_lt_of_le LT.out (Below.size hb9_); replace T : Hid (MBox _ _ _ _ _ _) := T.out.below hb9_; obtain ⟨A_0, A_1, A_2, A_3, A_4⟩ := A.out; obtain ⟨M_0, M_1, M_2, M_3, M_4⟩ := M.out; obtain ⟨T_0, T_1, T_2, T_3, T_4⟩ := T.out; clear hb9_) | (go_at_call_of 23 gq; refine (mSame R C C S _ _ _ _ _ _ Q Z _ (tight R C (by omega) (by omega)) T2.out (by first | (with_reducible exact UQ.out) | exact UQ.out.below ((Below.refl _ _).drew)) (by first | (with_reducible exact UZ.out) | exact UZ.out.below ((Below.refl _ _).drew)) EQ.out).mono ?_; rintro e w10_ ⟨rfl, hb10_⟩; replace hb10_ : Below w9_.heap.size w9_ w10_ := (by first | exact ((Below.refl _ _).drew).trans hb10_ | exact hb10_); clear A_0 A_1 A_2 A_3 A_4 M_0 M_1 M_2 M_3 M_4 T_0 T_1 T_2 T_3 T_4; replace UZ : Hid (URow _ _ _ _ _) := UZ.out.below hb10_; replace HW : Hid (URow _ _ _ _ _) := HW.out.below hb10_; replace BW : Hid (Below _ _ _) := bstep BW.out hb10_; replace LG : Hid (_ < _) := Nat.lt_of_lt_of_le LG.out (Below.size hb10_); replace M : Hid (MBox _ _ _ _ _ _) := M.out.below hb10_; replace LM : Hid (_ < _) := Nat.lt_of_lt_of_le LM.out (Below.size hb10_); replace RC : Hid (RowU _ _ _) := RC.out.below hb10_; replace LC : Hid (_ < _) := Nat.lt_of_lt_of_le LC.out (Below.size hb10_); replace A : Hid (MBox _ _ _ _ _ _) := A.out.below hb10_; replace LA : Hid (_ < _) := Nat.lt_of_lt_of_le LA.out (Below.size hb10_); replace RT : Hid (RowU _ _ _) := RT.out.below hb10_; replace LT : Hid (_ < _) := Nat.lt_of_lt_of_le LT.out (Below.size hb10_); replace T : Hid (MBox _ _ _ _ _ _) := T.out.below hb10_; replace UQ : Hid (URow _ _ _ _ _) := UQ.out.below hb10_; obtain ⟨A_0, A_1, A_2, A_3, A_4⟩ := A.out; obtain ⟨M_0, M_1, M_2, M_3, M_4⟩ := M.out; obtain ⟨T_0, T_1, T_2, T_3, T_4⟩ := T.out; clear hb10_))
    clear UQ EQ
    go_wp2_with fail
    clear A_0 A_1 A_2 A_3 A_4 M_0 M_1 M_2 M_3 M_4 T_0 T_1 T_2 T_3 T_4
    go_loopw [16] (fun i wr => ∃ n : Nat, i = .int .i64 (n : Int) ∧ n ≤ R ∧ Hid (Below w10_.heap.size w10_ wr)) (fun i _ => R - (intOf i).toNat)
    case atStart => exact ⟨0, rfl, Nat.zero_le _, Below.refl _ _⟩
    case round =>
      obtain ⟨n, rfl, hn_, BV11⟩ := hrel
      obtain ⟨w11_, rfl⟩ : ∃ x, x = wr := ⟨wr, rfl⟩
      replace UZ : Hid (URow _ _ _ _ _) := UZ.out.below BV11.out
      replace HW : Hid (URow _ _ _ _ _) := HW.out.below BV11.out
      replace BW : Hid (Below _ _ _) := bstep BW.out BV11.out
      replace LG : Hid (_ < _) := Nat.lt_of_lt_of_le LG.out (Below.size BV11.out)
      replace M : Hid (MBox _ _ _ _ _ _) := M.out.below BV11.out
      replace LM : Hid (_ < _) := Nat.lt_of_lt_of_le LM.out (Below.size BV11.out)
      replace RC : Hid (RowU _ _ _) := RC.out.below BV11.out
      replace LC : Hid (_ < _) := Nat.lt_of_lt_of_le LC.out (Below.size BV11.out)
      replace A : Hid (MBox _ _ _ _ _ _) := A.out.below BV11.out
      replace LA : Hid (_ < _) := Nat.lt_of_lt_of_le LA.out (Below.size BV11.out)
      replace RT : Hid (RowU _ _ _) := RT.out.below BV11.out
      replace LT : Hid (_ < _) := Nat.lt_of_lt_of_le LT.out (Below.size BV11.out)
      replace T : Hid (MBox _ _ _ _ _ _) := T.out.below BV11.out
      by_cases hlt : (n : Int) < (R : Int)
      · skip
        obtain ⟨M_0, M_1, M_2, M_3, M_4⟩ := M.out
        go_wp2_with fail
        clear M_0 M_1 M_2 M_3 M_4
        go_loopw [17] (fun i wr => ∃ m : Nat, i = .int .i64 (m : Int) ∧ m ≤ C ∧ Hid (Below w11_.heap.size w11_ wr)) (fun i _ => C - (intOf i).toNat)
        case atStart => exact ⟨0, rfl, Nat.zero_le _, Below.refl _ _⟩
        case round =>
          obtain ⟨m, rfl, hm_, BV12⟩ := hrel
          obtain ⟨w12_, rfl⟩ : ∃ x, x = wr := ⟨wr, rfl⟩
          replace UZ : Hid (URow _ _ _ _ _) := UZ.out.below BV12.out
          replace HW : Hid (URow _ _ _ _ _) := HW.out.below BV12.out
          replace BW : Hid (Below _ _ _) := bstep BW.out BV12.out
          replace LG : Hid (_ < _) := Nat.lt_of_lt_of_le LG.out (Below.size BV12.out)
          replace M : Hid (MBox _ _ _ _ _ _) := M.out.below BV12.out
          replace LM : Hid (_ < _) := Nat.lt_of_lt_of_le LM.out (Below.size BV12.out)
          replace RC : Hid (RowU _ _ _) := RC.out.below BV12.out
          replace LC : Hid (_ < _) := Nat.lt_of_lt_of_le LC.out (Below.size BV12.out)
          replace A : Hid (MBox _ _ _ _ _ _) := A.out.below BV12.out
          replace LA : Hid (_ < _) := Nat.lt_of_lt_of_le LA.out (Below.size BV12.out)
          replace RT : Hid (RowU _ _ _) := RT.out.below BV12.out
          replace LT : Hid (_ < _) := Nat.lt_of_lt_of_le LT.out (Below.size BV12.out)
          replace T : Hid (MBox _ _ _ _ _ _) := T.out.below BV12.out
          replace BV11 : Hid (Below _ _ _) := bstep BV11.out BV12.out
          by_cases hlt2 : (m : Int) < (C : Int)
          · skip
            obtain ⟨M_0, M_1, M_2, M_3, M_4⟩ := M.out
            go_wp2_with fail
            clear M_0 M_1 M_2 M_3 M_4
            obtain ⟨T_0, T_1, T_2, T_3, T_4⟩ := T.out
            obtain ⟨M_0, M_1, M_2, M_3, M_4⟩ := M.out
            go_region_held3 (fun w' => (w'.cell? ⟨k_T, 0, none⟩ = some (.int .i64 (C : Int)) ∧ w'.cell? ⟨k_T, 1, none⟩ = some (.int .i64 (R : Int)) ∧ w'.cell? ⟨k_T, 2, none⟩ = some (.int .i64 (R : Int)) ∧ w'.cell? ⟨k_T, 3, none⟩ = some (.slice (some ⟨gt, 0, none⟩) N2 N2)) ∧ (w'.cell? ⟨k_M, 0, none⟩ = some (.int .i64 (R : Int)) ∧ w'.cell? ⟨k_M, 1, none⟩ = some (.int .i64 (C : Int)) ∧ w'.cell? ⟨k_M, 2, none⟩ = some (.int .i64 (S : Int)) ∧ w'.cell? ⟨k_M, 3, none⟩ = some (.slice (some ⟨g, 0, none⟩) (R * S) (R * S)))) (simp [go_sem, *]) (first | (go_at_call_of 19 gt; refine (mAtN C R R _ _ _ TF m n _ TT.out (RowU.rowF (by first | (with_reducible exact RT.out) | exact RT.out.below ((Below.refl _ _).drew)) TL.out (by omega) TW.out HTF.out) (by omega) (by omega)).mono ?_; rintro e w13_ ⟨rfl, hb13_⟩; replace hb13_ : Below w12_.heap.size w12_ w13_ := (by first | exact ((Below.refl _ _).drew).trans hb13_ | exact hb13_); rw [TE.out n m (by omega) (by omega)]; clear T_0 T_1 T_2 T_3 T_4 M_0 M_1 M_2 M_3 M_4; replace UZ : Hid (URow _ _ _ _ _) := UZ.out.below hb13_; replace HW : Hid (URow _ _ _ _ _) := HW.out.below hb13_; replace BW : Hid (Below _ _ _) := bstep BW.out hb13_; replace LG : Hid (_ < _) := Nat.lt_of_lt_of_le LG.out (Below.size hb13_); replace M : Hid (MBox _ _ _ _ _ _) := M.out.below hb13_; replace LM : Hid (_ < _) := Nat.lt_of_lt_of_le LM.out (Below.size hb13_); replace RC : Hid (RowU _ _ _) := RC.out.below hb13_; replace LC : Hid (_ < _) := Nat.lt_of_lt_of_le LC.out (Below.size hb13_); replace A : Hid (MBox _ _ _ _ _ _) := A.out.below hb13_; replace LA : Hid (_ < _) := Nat.lt_of_lt_of_le LA.out (Below.size hb13_); replace RT : Hid (RowU _ _ _) := RT.out.below hb13_; replace LT : Hid (_ < _) := Nat.lt_of_lt_of_le LT.out (Below.size hb13_); replace T : Hid (MBox _ _ _ _ _ _) := T.out.below hb13_; replace BV11 : Hid (Below _ _ _) := bstep BV11.out hb13_; replace BV12 : Hid (Below _ _ _) := bstep BV12.out hb13_; obtain ⟨T_0, T_1, T_2, T_3, T_4⟩ := T.out; obtain ⟨M_0, M_1, M_2, M_3, M_4⟩ := M.out; clear hb13_) | (go_at_call_of 19 g; refine (mAtN R C S _ _ _ Z n m _ T2.out (by first | (with_reducible exact UZ.out) | exact UZ.out.below ((Below.refl _ _).drew)) (by omega) (by omega)).mono ?_; rintro e w14_ ⟨rfl, hb14_⟩; replace hb14_ : Below w13_.heap.size w13_ w14_ := (by first | exact ((Below.refl _ _).drew).trans hb14_ | exact hb14_); clear T_0 T_1 T_2 T_3 T_4 M_0 M_1 M_2 M_3 M_4; replace UZ : Hid (URow _ _ _ _ _) := UZ.out.below hb14_; replace HW : Hid (URow _ _ _ _ _) := HW.out.below hb14_; replace BW : Hid (Below _ _ _) := bstep BW.out hb14_; replace LG : Hid (_ < _) := Nat.lt_of_lt_of_le LG.out (Below.size hb14_); replace M : Hid (MBox _ _ _ _ _ _) := M.out.below hb14_; replace LM : Hid (_ < _) := Nat.lt_of_lt_of_le LM.out (Below.size hb14_); replace RC : Hid (RowU _ _ _) := RC.out.below hb14_; replace LC : Hid (_ < _) := Nat.lt_of_lt_of_le LC.out (Below.size hb14_); replace A : Hid (MBox _ _ _ _ _ _) := A.out.below hb14_; replace LA : Hid (_ < _) := Nat.lt_of_lt_of_le LA.out (Below.size hb14_); replace RT : Hid (RowU _ _ _) := RT.out.below hb14_; replace LT : Hid (_ < _) := Nat.lt_of_lt_of_le LT.out (Below.size hb14_); replace T : Hid (MBox _ _ _ _ _ _) := T.out.below hb14_; replace BV11 : Hid (Below _ _ _) := bstep BV11.out hb14_; replace BV12 : Hid (Below _ _ _) := bstep BV12.out hb14_; obtain ⟨T_0, T_1, T_2, T_3, T_4⟩ := T.out; obtain ⟨M_0, M_1, M_2, M_3, M_4⟩ := M.out; clear hb14_))
            go_wp2
            go_roundw
            case rel => exact ⟨m + 1, by go_num, by omega, BV12.out⟩
            case measure => simp [intOf]; omega
          · obtain rfl : m = C := by omega
            obtain ⟨M_0, M_1, M_2, M_3, M_4⟩ := M.out
            go_wp2
            go_roundw
            case rel => exact ⟨n + 1, by go_num, by omega, BV11.out⟩
            case measure => simp [intOf]; omega
      · obtain rfl : R = n := by omega
        obtain ⟨M_0, M_1, M_2, M_3, M_4⟩ := M.out
        obtain ⟨A_0, A_1, A_2, A_3, A_4⟩ := A.out
        clear BV11
        go_wp2_with fail
        clear M_0 M_1 M_2 M_3 M_4 A_0 A_1 A_2 A_3 A_4
        go_loopw [108] (fun i wr => ∃ (j : Nat) (ys : List Int), i = .int .i64 (j : Int) ∧ j ≤ N ∧ Hid (RowU wr gc ys) ∧ Hid (ys.length = N) ∧ Hid (Bes (some gc) w11_ wr)) (fun i _ => N - (intOf i).toNat)
        case atStart => exact ⟨0, _, rfl, Nat.zero_le _, RC.out, CL.out, Bes.refl _ _⟩
        case round =>
          obtain ⟨j, ys12, rfl, hj_, RR12, LL12, HS12⟩ := hrel
          obtain ⟨w12_, rfl⟩ : ∃ x, x = wr := ⟨wr, rfl⟩
          clear RC
          replace UZ : Hid (URow _ _ _ _ _) := UZ.out.bes HS12.out (Apt.ne (Ne.symm (Nat.ne_of_lt NG.out.1)))
          replace HW : Hid (URow _ _ _ _ _) := HW.out.bes HS12.out (HR0.out.apt (fun k e => by injection e with e; rw [← e]; exact NG.out.2.2))
          replace BW : Hid (Below _ _ _) := Bes.old BW.out HS12.out NG.out.2.2
          replace LG : Hid (_ < _) := Nat.lt_of_lt_of_le LG.out (Bes.size HS12.out)
          replace M : Hid (MBox _ _ _ _ _ _) := M.out.bes HS12.out (ne_some (Ne.symm (Nat.ne_of_lt NG.out.2.1)))
          replace LM : Hid (_ < _) := Nat.lt_of_lt_of_le LM.out (Bes.size HS12.out)
          replace LC : Hid (_ < _) := Nat.lt_of_lt_of_le LC.out (Bes.size HS12.out)
          replace A : Hid (MBox _ _ _ _ _ _) := A.out.bes HS12.out (ne_some (Nat.ne_of_lt GA.out))
          replace LA : Hid (_ < _) := Nat.lt_of_lt_of_le LA.out (Bes.size HS12.out)
          replace RT : Hid (RowU _ _ _) := RT.out.bes HS12.out (ne_some (Nat.ne_of_lt NT.out.2.2.1))
          replace LT : Hid (_ < _) := Nat.lt_of_lt_of_le LT.out (Bes.size HS12.out)
          replace T : Hid (MBox _ _ _ _ _ _) := T.out.bes HS12.out (ne_some (Nat.ne_of_lt (Nat.lt_trans NT.out.2.2.1 GT.out)))
          by_cases hlt : (j : Int) < (N : Int)
          · have x1_ := RR12.out.cell j (by have := LL12.out; omega)
            have x2_ := RR12.out.frozen j
            obtain ⟨A_0, A_1, A_2, A_3, A_4⟩ := A.out
            go_wp2
            go_roundw
            case rel => exact ⟨j + 1, _, by go_num, by omega, RR12.out.set j _, by show _ = _; rw [List.length_set]; exact LL12.out, HS12.out.set (p := ⟨gc, j, none⟩) (.inr rfl) _⟩
            case measure => simp [intOf]; omega
          · obtain rfl : N = j := by omega
            clear RR12 LL12
            obtain ⟨T_0, T_1, T_2, T_3, T_4⟩ := T.out
            obtain ⟨M_0, M_1, M_2, M_3, M_4⟩ := M.out
            go_wp2_with fail
            clear T_0 T_1 T_2 T_3 T_4 M_0 M_1 M_2 M_3 M_4
            go_loopw [119] (fun i wr => ∃ (j : Nat) (ys : List Int), i = .int .i64 (j : Int) ∧ j ≤ N2 ∧ Hid (RowU wr gt ys) ∧ Hid (ys.length = N2) ∧ Hid (Bes (some gt) w12_ wr)) (fun i _ => N2 - (intOf i).toNat)
            case atStart => exact ⟨0, _, rfl, Nat.zero_le _, RT.out, TL.out, Bes.refl _ _⟩
            case round =>
              obtain ⟨j, ys13, rfl, hj_, RR13, LL13, HS13⟩ := hrel
              obtain ⟨w13_, rfl⟩ : ∃ x, x = wr := ⟨wr, rfl⟩
              clear RT
              replace UZ : Hid (URow _ _ _ _ _) := UZ.out.bes HS13.out (Apt.ne (Ne.symm (Nat.ne_of_lt NT.out.1)))
              replace HW : Hid (URow _ _ _ _ _) := HW.out.bes HS13.out (HR0.out.apt (fun k e => by injection e with e; rw [← e]; exact NT.out.2.2.2.2))
              replace BW : Hid (Below _ _ _) := Bes.old BW.out HS13.out NT.out.2.2.2.2
              replace LG : Hid (_ < _) := Nat.lt_of_lt_of_le LG.out (Bes.size HS13.out)
              replace M : Hid (MBox _ _ _ _ _ _) := M.out.bes HS13.out (ne_some (Ne.symm (Nat.ne_of_lt NT.out.2.1)))
              replace LM : Hid (_ < _) := Nat.lt_of_lt_of_le LM.out (Bes.size HS13.out)
              replace LT : Hid (_ < _) := Nat.lt_of_lt_of_le LT.out (Bes.size HS13.out)
              replace T : Hid (MBox _ _ _ _ _ _) := T.out.bes HS13.out (ne_some (Nat.ne_of_lt GT.out))
              by_cases hlt : (j : Int) < (N2 : Int)
              · have x1_ := RR13.out.cell j (by have := LL13.out; omega)
                have x2_ := RR13.out.frozen j
                obtain ⟨T_0, T_1, T_2, T_3, T_4⟩ := T.out
                go_wp2
                go_roundw
                case rel => exact ⟨j + 1, _, by go_num, by omega, RR13.out.set j _, by show _ = _; rw [List.length_set]; exact LL13.out, HS13.out.set (p := ⟨gt, j, none⟩) (.inr rfl) _⟩
                case measure => simp [intOf]; omega
              · obtain rfl : N2 = j := by omega
                clear RR13 LL13
                obtain ⟨M_0, M_1, M_2, M_3, M_4⟩ := M.out
                go_wp2_with fail
                clear M_0 M_1 M_2 M_3 M_4
                obtain ⟨M_0, M_1, M_2, M_3, M_4⟩ := M.out
                go_region_held3 (fun w' => (w'.cell? ⟨k_M, 0, none⟩ = some (.int .i64 (R : Int)) ∧ w'.cell? ⟨k_M, 1, none⟩ = some (.int .i64 (C : Int)) ∧ w'.cell? ⟨k_M, 2, none⟩ = some (.int .i64 (S : Int)) ∧ w'.cell? ⟨k_M, 3, none⟩ = some (.slice (some ⟨g, 0, none⟩) (R * S) (R * S)))) (simp [go_sem, *]) (first | (go_at_call 20; refine (lMadeZ a0 a1 a2 a3 len3 cap3 U R C S _ PR.out PC.out PS.out (by first | (with_reducible exact HW.out) | exact HW.out.below ((Below.refl _ _).drew)) (by omega)).mono ?_; rintro e w14_ ⟨g9, Z9, rfl, _, hU9, hE9, hb14_⟩; replace hb14_ : Below w13_.heap.size w13_ w14_ := (by first | exact ((Below.refl _ _).drew).trans hb14_ | exact hb14_); have U9 : Hid (URow w14_ (some ⟨g9, 0, none⟩) (R * S) (R * S) Z9) := hU9; have E9 : Hid (∀ i k, i < R → k < C → Z (i * S + k) = Z9 (i * S + k)) := fun i k hi hk => (EZ.out i k hi hk).trans (hE9 i k hi hk).symm; clear hU9 hE9; clear M_0 M_1 M_2 M_3 M_4; replace UZ : Hid (URow _ _ _ _ _) := UZ.out.below hb14_; replace HW : Hid (URow _ _ _ _ _) := HW.out.below hb14_; replace BW : Hid (Below _ _ _) := bstep BW.out hb14_; replace M : Hid (MBox _ _ _ _ _ _) := M.out.below hb14_; obtain ⟨M_0, M_1, M_2, M_3, M_4⟩ := M.out; clear hb14_) | (go_at_call 23; refine (mSame R C S S _ _ _ _ _ _ Z Z9 _ T2.out T2.out (by first | (with_reducible exact UZ.out) | exact UZ.out.below ((Below.refl _ _).drew)) (by first | (with_reducible exact U9.out) | exact U9.out.below ((Below.refl _ _).drew)) E9.out).mono ?_; rintro e w15_ ⟨rfl, hb15_⟩; replace hb15_ : Below w14_.heap.size w14_ w15_ := (by first | exact ((Below.refl _ _).drew).trans hb15_ | exact hb15_); clear M_0 M_1 M_2 M_3 M_4; replace UZ : Hid (URow _ _ _ _ _) := UZ.out.below hb15_; replace HW : Hid (URow _ _ _ _ _) := HW.out.below hb15_; replace BW : Hid (Below _ _ _) := bstep BW.out hb15_; replace M : Hid (MBox _ _ _ _ _ _) := M.out.below hb15_; replace U9 : Hid (URow _ _ _ _ _) := U9.out.below hb15_; obtain ⟨M_0, M_1, M_2, M_3, M_4⟩ := M.out; clear hb15_))
                clear U9 E9
                have HPC : Hid (∀ b : Bool, b = b) := fun _ => rfl
                by_cases c1 : a4 < 0
                · have hlo := c1
                  have d1 : decide (a4 < 0) = true := decide_eq_true c1
                  go_wp2_with fail
                  refine (mCutNo _ _ _ _ _ _ _ _ _ _ _ (by omega) T2.out (by omega) (by omega) (by omega)).mono ?_
                  rintro e w16_ ⟨rfl, hb16_⟩
                  clear M_0 M_1 M_2 M_3 M_4
                  replace UZ : Hid (URow _ _ _ _ _) := UZ.out.below hb16_
                  replace HW : Hid (URow _ _ _ _ _) := HW.out.below hb16_
                  replace BW : Hid (Below _ _ _) := bstep BW.out hb16_
                  replace M : Hid (MBox _ _ _ _ _ _) := M.out.below hb16_
                  clear hb16_
                  obtain ⟨M_0, M_1, M_2, M_3, M_4⟩ := M.out
                  go_wp2_with fail
                  have m_ := MBox.made w16_ 0 0 0 (.slice none 0 0)
                  have b_ : Below w16_.heap.size w16_ (w16_.alloc (.cells #[.int .i64 0, .int .i64 0, .int .i64 0, .slice none 0 0] 25)) := (Below.refl _ _).alloc (Nat.le_refl _) _
                  obtain ⟨k_K, hk_K⟩ : ∃ k, k = w16_.heap.size := ⟨_, rfl⟩
                  have L_K : Hid (w.heap.size ≤ k_K) := by rw [hk_K]; exact BW.out.size
                  rw [← hk_K] at m_ ⊢
                  clear M_0 M_1 M_2 M_3 M_4
                  generalize (w16_.alloc (.cells #[.int .i64 0, .int .i64 0, .int .i64 0, .slice none 0 0] 25)) = w17_ at m_ b_ ⊢
                  replace UZ : Hid (URow _ _ _ _ _) := UZ.out.below b_
                  replace HW : Hid (URow _ _ _ _ _) := HW.out.below b_
                  replace BW : Hid (Below _ _ _) := bstep BW.out b_
                  replace M : Hid (MBox _ _ _ _ _ _) := M.out.below b_
                  have K : Hid (MBox w17_ k_K 0 0 0 (.slice none 0 0)) := m_
                  clear m_ b_ hk_K
                  go_wp2
                  go_ret
                  exact ⟨ret_eq rfl, BW.out⟩
                · have d1 : decide (a4 < 0) = false := decide_eq_false c1
                  by_cases c2 : a5 < 0
                  · have hlo := c2
                    have d2 : decide (a5 < 0) = true := decide_eq_true c2
                    go_wp2_with fail
                    refine (mCutNo _ _ _ _ _ _ _ _ _ _ _ (by omega) T2.out (by omega) (by omega) (by omega)).mono ?_
                    rintro e w16_ ⟨rfl, hb16_⟩
                    clear M_0 M_1 M_2 M_3 M_4
                    replace UZ : Hid (URow _ _ _ _ _) := UZ.out.below hb16_
                    replace HW : Hid (URow _ _ _ _ _) := HW.out.below hb16_
                    replace BW : Hid (Below _ _ _) := bstep BW.out hb16_
                    replace M : Hid (MBox _ _ _ _ _ _) := M.out.below hb16_
                    clear hb16_
                    obtain ⟨M_0, M_1, M_2, M_3, M_4⟩ := M.out
                    go_wp2_with fail
                    have m_ := MBox.made w16_ 0 0 0 (.slice none 0 0)
                    have b_ : Below w16_.heap.size w16_ (w16_.alloc (.cells #[.int .i64 0, .int .i64 0, .int .i64 0, .slice none 0 0] 25)) := (Below.refl _ _).alloc (Nat.le_refl _) _
                    obtain ⟨k_K, hk_K⟩ : ∃ k, k = w16_.heap.size := ⟨_, rfl⟩
                    have L_K : Hid (w.heap.size ≤ k_K) := by rw [hk_K]; exact BW.out.size
                    rw [← hk_K] at m_ ⊢
                    clear M_0 M_1 M_2 M_3 M_4
                    generalize (w16_.alloc (.cells #[.int .i64 0, .int .i64 0, .int .i64 0, .slice none 0 0] 25)) = w17_ at m_ b_ ⊢
                    replace UZ : Hid (URow _ _ _ _ _) := UZ.out.below b_
                    replace HW : Hid (URow _ _ _ _ _) := HW.out.below b_
                    replace BW : Hid (Below _ _ _) := bstep BW.out b_
                    replace M : Hid (MBox _ _ _ _ _ _) := M.out.below b_
                    have K : Hid (MBox w17_ k_K 0 0 0 (.slice none 0 0)) := m_
                    clear m_ b_ hk_K
                    go_wp2
                    go_ret
                    exact ⟨ret_eq rfl, BW.out⟩
                  · have d2 : decide (a5 < 0) = false := decide_eq_false c2
                    by_cases c3 : (R : Int) ≤ a4
                    · have hlo := c3
                      have d3 : decide ((R : Int) ≤ a4) = true := decide_eq_true c3
                      go_wp2_with fail
                      refine (mCutNo _ _ _ _ _ _ _ _ _ _ _ (by omega) T2.out (by omega) (by omega) (by omega)).mono ?_
                      rintro e w16_ ⟨rfl, hb16_⟩
                      clear M_0 M_1 M_2 M_3 M_4
                      replace UZ : Hid (URow _ _ _ _ _) := UZ.out.below hb16_
                      replace HW : Hid (URow _ _ _ _ _) := HW.out.below hb16_
                      replace BW : Hid (Below _ _ _) := bstep BW.out hb16_
                      replace M : Hid (MBox _ _ _ _ _ _) := M.out.below hb16_
                      clear hb16_
                      obtain ⟨M_0, M_1, M_2, M_3, M_4⟩ := M.out
                      go_wp2_with fail
                      have m_ := MBox.made w16_ 0 0 0 (.slice none 0 0)
                      have b_ : Below w16_.heap.size w16_ (w16_.alloc (.cells #[.int .i64 0, .int .i64 0, .int .i64 0, .slice none 0 0] 25)) := (Below.refl _ _).alloc (Nat.le_refl _) _
                      obtain ⟨k_K, hk_K⟩ : ∃ k, k = w16_.heap.size := ⟨_, rfl⟩
                      have L_K : Hid (w.heap.size ≤ k_K) := by rw [hk_K]; exact BW.out.size
                      rw [← hk_K] at m_ ⊢
                      clear M_0 M_1 M_2 M_3 M_4
                      generalize (w16_.alloc (.cells #[.int .i64 0, .int .i64 0, .int .i64 0, .slice none 0 0] 25)) = w17_ at m_ b_ ⊢
                      replace UZ : Hid (URow _ _ _ _ _) := UZ.out.below b_
                      replace HW : Hid (URow _ _ _ _ _) := HW.out.below b_
                      replace BW : Hid (Below _ _ _) := bstep BW.out b_
                      replace M : Hid (MBox _ _ _ _ _ _) := M.out.below b_
                      have K : Hid (MBox w17_ k_K 0 0 0 (.slice none 0 0)) := m_
                      clear m_ b_ hk_K
                      go_wp2
                      go_ret
                      exact ⟨ret_eq rfl, BW.out⟩
                    · have d3 : decide ((R : Int) ≤ a4) = false := decide_eq_false c3
                      by_cases c4 : (C : Int) ≤ a5
                      · have hlo := c4
                        have d4 : decide ((C : Int) ≤ a5) = true := decide_eq_true c4
                        go_wp2_with fail
                        refine (mCutNo _ _ _ _ _ _ _ _ _ _ _ (by omega) T2.out (by omega) (by omega) (by omega)).mono ?_
                        rintro e w16_ ⟨rfl, hb16_⟩
                        clear M_0 M_1 M_2 M_3 M_4
                        replace UZ : Hid (URow _ _ _ _ _) := UZ.out.below hb16_
                        replace HW : Hid (URow _ _ _ _ _) := HW.out.below hb16_
                        replace BW : Hid (Below _ _ _) := bstep BW.out hb16_
                        replace M : Hid (MBox _ _ _ _ _ _) := M.out.below hb16_
                        clear hb16_
                        obtain ⟨M_0, M_1, M_2, M_3, M_4⟩ := M.out
                        go_wp2_with fail
                        have m_ := MBox.made w16_ 0 0 0 (.slice none 0 0)
                        have b_ : Below w16_.heap.size w16_ (w16_.alloc (.cells #[.int .i64 0, .int .i64 0, .int .i64 0, .slice none 0 0] 25)) := (Below.refl _ _).alloc (Nat.le_refl _) _
                        obtain ⟨k_K, hk_K⟩ : ∃ k, k = w16_.heap.size := ⟨_, rfl⟩
                        have L_K : Hid (w.heap.size ≤ k_K) := by rw [hk_K]; exact BW.out.size
                        rw [← hk_K] at m_ ⊢
                        clear M_0 M_1 M_2 M_3 M_4
                        generalize (w16_.alloc (.cells #[.int .i64 0, .int .i64 0, .int .i64 0, .slice none 0 0] 25)) = w17_ at m_ b_ ⊢
                        replace UZ : Hid (URow _ _ _ _ _) := UZ.out.below b_
                        replace HW : Hid (URow _ _ _ _ _) := HW.out.below b_
                        replace BW : Hid (Below _ _ _) := bstep BW.out b_
                        replace M : Hid (MBox _ _ _ _ _ _) := M.out.below b_
                        have K : Hid (MBox w17_ k_K 0 0 0 (.slice none 0 0)) := m_
                        clear m_ b_ hk_K
                        go_wp2
                        go_ret
                        exact ⟨ret_eq rfl, BW.out⟩
                      · have d4 : decide ((C : Int) ≤ a5) = false := decide_eq_false c4
                        obtain ⟨I, rfl⟩ : ∃ I : Nat, a4 = (I : Int) := ⟨a4.toNat, by omega⟩
                        obtain ⟨K, rfl⟩ : ∃ I : Nat, a5 = (I : Int) := ⟨a5.toNat, by omega⟩
                        have hIR : I < R := by omega
                        have hKC : K < C := by omega
                        obtain ⟨r, hr⟩ : ∃ r, R - I = r := ⟨_, rfl⟩
                        obtain ⟨c, hc⟩ : ∃ c, C - K = c := ⟨_, rfl⟩
                        have hri : (R : Int) - (I : Int) = (r : Int) := by omega
                        have hci : (C : Int) - (K : Int) = (c : Int) := by omega
                        have hw1 : IntKind.i64.wrap ((r : Int) + 1) = (r : Int) + 1 := by rw [IntKind.wrap_i64]; omega
                        have hrc : r * c ≤ 49 := Nat.mul_le_mul (by omega : r ≤ 7) (by omega : c ≤ 7)
                        have HR_ : Hid (R - I = r) := hr
                        have HC_ : Hid (C - K = c) := hc
                        clear hr hc
                        go_wp2_with fail
                        refine (mCut1 R C S _ _ _ Z I K _ T2.out UZ.out hIR hKC).mono ?_
                        rintro e w16_ ⟨g1, X1, rfl, _, hU1, hE1, hb16_⟩
                        have E1 : Hid (X1 (0 * 1 + 0) = Z (I * S + K)) := hE1
                        clear hE1
                        clear M_0 M_1 M_2 M_3 M_4
                        replace UZ : Hid (URow _ _ _ _ _) := UZ.out.below hb16_
                        replace HW : Hid (URow _ _ _ _ _) := HW.out.below hb16_
                        replace BW : Hid (Below _ _ _) := bstep BW.out hb16_
                        replace M : Hid (MBox _ _ _ _ _ _) := M.out.below hb16_
                        clear hb16_
                        have U1 : Hid (URow w16_ (some ⟨g1, 0, none⟩) 1 1 X1) := hU1
                        clear hU1
                        obtain ⟨M_0, M_1, M_2, M_3, M_4⟩ := M.out
                        go_wp2_with fail
                        have m_ := MBox.made w16_ 1 1 1 (.slice (some ⟨g1, 0, none⟩) 1 1)
                        have b_ : Below w16_.heap.size w16_ (w16_.alloc (.cells #[.int .i64 1, .int .i64 1, .int .i64 1, .slice (some ⟨g1, 0, none⟩) 1 1] 25)) := (Below.refl _ _).alloc (Nat.le_refl _) _
                        obtain ⟨k_K1, hk_K1⟩ : ∃ k, k = w16_.heap.size := ⟨_, rfl⟩
                        have L_K1 : Hid (w.heap.size ≤ k_K1) := by rw [hk_K1]; exact BW.out.size
                        rw [← hk_K1] at m_ ⊢
                        clear M_0 M_1 M_2 M_3 M_4
                        generalize (w16_.alloc (.cells #[.int .i64 1, .int .i64 1, .int .i64 1, .slice (some ⟨g1, 0, none⟩) 1 1] 25)) = w17_ at m_ b_ ⊢
                        replace UZ : Hid (URow _ _ _ _ _) := UZ.out.below b_
                        replace HW : Hid (URow _ _ _ _ _) := HW.out.below b_
                        replace BW : Hid (Below _ _ _) := bstep BW.out b_
                        replace M : Hid (MBox _ _ _ _ _ _) := M.out.below b_
                        replace U1 : Hid (URow _ _ _ _ _) := U1.out.below b_
                        have K1 : Hid (MBox w17_ k_K1 1 1 1 (.slice (some ⟨g1, 0, none⟩) 1 1)) := m_
                        clear m_ b_ hk_K1
                        obtain ⟨M_0, M_1, M_2, M_3, M_4⟩ := M.out
                        refine (mCutZ R C S _ _ _ Z I K r c _ T2.out UZ.out (by have := HR_.out; omega) (by have := HC_.out; omega) (by omega)).mono ?_
                        rintro e w18_ ⟨g2, X2, rfl, _, hU2, hE2, hb18_⟩
                        have E2 : Hid (∀ p q, p < r → q < c → X2 (p * c + q) = Z ((I + p) * S + (K + q))) := hE2
                        clear hE2
                        clear M_0 M_1 M_2 M_3 M_4
                        replace UZ : Hid (URow _ _ _ _ _) := UZ.out.below hb18_
                        replace HW : Hid (URow _ _ _ _ _) := HW.out.below hb18_
                        replace BW : Hid (Below _ _ _) := bstep BW.out hb18_
                        replace M : Hid (MBox _ _ _ _ _ _) := M.out.below hb18_
                        replace U1 : Hid (URow _ _ _ _ _) := U1.out.below hb18_
                        replace K1 : Hid (MBox _ _ _ _ _ _) := K1.out.below hb18_
                        clear hb18_
                        have U2 : Hid (URow w18_ (some ⟨g2, 0, none⟩) (r * c) (r * c) X2) := hU2
                        clear hU2
                        obtain ⟨M_0, M_1, M_2, M_3, M_4⟩ := M.out
                        go_wp2_with fail
                        have m_ := MBox.made w18_ (r : Int) (c : Int) (c : Int) (.slice (some ⟨g2, 0, none⟩) (r * c) (r * c))
                        have b_ : Below w18_.heap.size w18_ (w18_.alloc (.cells #[.int .i64 (r : Int), .int .i64 (c : Int), .int .i64 (c : Int), .slice (some ⟨g2, 0, none⟩) (r * c) (r * c)] 25)) := (Below.refl _ _).alloc (Nat.le_refl _) _
                        obtain ⟨k_R2, hk_R2⟩ : ∃ k, k = w18_.heap.size := ⟨_, rfl⟩
                        have L_R2 : Hid (w.heap.size ≤ k_R2) := by rw [hk_R2]; exact BW.out.size
                        rw [← hk_R2] at m_ ⊢
                        clear M_0 M_1 M_2 M_3 M_4
                        generalize (w18_.alloc (.cells #[.int .i64 (r : Int), .int .i64 (c : Int), .int .i64 (c : Int), .slice (some ⟨g2, 0, none⟩) (r * c) (r * c)] 25)) = w19_ at m_ b_ ⊢
                        replace UZ : Hid (URow _ _ _ _ _) := UZ.out.below b_
                        replace HW : Hid (URow _ _ _ _ _) := HW.out.below b_
                        replace BW : Hid (Below _ _ _) := bstep BW.out b_
                        replace M : Hid (MBox _ _ _ _ _ _) := M.out.below b_
                        replace U1 : Hid (URow _ _ _ _ _) := U1.out.below b_
                        replace K1 : Hid (MBox _ _ _ _ _ _) := K1.out.below b_
                        replace U2 : Hid (URow _ _ _ _ _) := U2.out.below b_
                        have R2 : Hid (MBox w19_ k_R2 (r : Int) (c : Int) (c : Int) (.slice (some ⟨g2, 0, none⟩) (r * c) (r * c))) := m_
                        clear m_ b_ hk_R2
                        have T3 : Hid (Rgt (r : Int) (c : Int) (c : Int) (r * c)) := tight r c (by omega) (by omega)
                        obtain ⟨M_0, M_1, M_2, M_3, M_4⟩ := M.out
                        refine (mCutNo _ _ _ _ _ _ _ _ _ _ _ (by omega) T2.out (by omega) (by omega) (by omega)).mono ?_
                        rintro e w20_ ⟨rfl, hb20_⟩
                        clear M_0 M_1 M_2 M_3 M_4
                        replace UZ : Hid (URow _ _ _ _ _) := UZ.out.below hb20_
                        replace HW : Hid (URow _ _ _ _ _) := HW.out.below hb20_
                        replace BW : Hid (Below _ _ _) := bstep BW.out hb20_
                        replace M : Hid (MBox _ _ _ _ _ _) := M.out.below hb20_
                        replace U1 : Hid (URow _ _ _ _ _) := U1.out.below hb20_
                        replace K1 : Hid (MBox _ _ _ _ _ _) := K1.out.below hb20_
                        replace U2 : Hid (URow _ _ _ _ _) := U2.out.below hb20_
                        replace R2 : Hid (MBox _ _ _ _ _ _) := R2.out.below hb20_
                        clear hb20_
                        obtain ⟨M_0, M_1, M_2, M_3, M_4⟩ := M.out
                        obtain ⟨K1_0, K1_1, K1_2, K1_3, K1_4⟩ := K1.out
                        go_wp2_with fail
                        have m_ := MBox.made w20_ 0 0 0 (.slice none 0 0)
                        have b_ : Below w20_.heap.size w20_ (w20_.alloc (.cells #[.int .i64 0, .int .i64 0, .int .i64 0, .slice none 0 0] 25)) := (Below.refl _ _).alloc (Nat.le_refl _) _
                        obtain ⟨k_N0, hk_N0⟩ : ∃ k, k = w20_.heap.size := ⟨_, rfl⟩
                        have L_N0 : Hid (w.heap.size ≤ k_N0) := by rw [hk_N0]; exact BW.out.size
                        rw [← hk_N0] at m_ ⊢
                        clear M_0 M_1 M_2 M_3 M_4 K1_0 K1_1 K1_2 K1_3 K1_4
                        generalize (w20_.alloc (.cells #[.int .i64 0, .int .i64 0, .int .i64 0, .slice none 0 0] 25)) = w21_ at m_ b_ ⊢
                        replace UZ : Hid (URow _ _ _ _ _) := UZ.out.below b_
                        replace HW : Hid (URow _ _ _ _ _) := HW.out.below b_
                        replace BW : Hid (Below _ _ _) := bstep BW.out b_
                        replace M : Hid (MBox _ _ _ _ _ _) := M.out.below b_
                        replace U1 : Hid (URow _ _ _ _ _) := U1.out.below b_
                        replace K1 : Hid (MBox _ _ _ _ _ _) := K1.out.below b_
                        replace U2 : Hid (URow _ _ _ _ _) := U2.out.below b_
                        replace R2 : Hid (MBox _ _ _ _ _ _) := R2.out.below b_
                        have N0 : Hid (MBox w21_ k_N0 0 0 0 (.slice none 0 0)) := m_
                        clear m_ b_ hk_N0
                        obtain ⟨K1_0, K1_1, K1_2, K1_3, K1_4⟩ := K1.out
                        obtain ⟨M_0, M_1, M_2, M_3, M_4⟩ := M.out
                        go_region_held3 (fun w' => (w'.cell? ⟨k_K1, 0, none⟩ = some (.int .i64 1) ∧ w'.cell? ⟨k_K1, 1, none⟩ = some (.int .i64 1) ∧ w'.cell? ⟨k_K1, 2, none⟩ = some (.int .i64 1) ∧ w'.cell? ⟨k_K1, 3, none⟩ = some (.slice (some ⟨g1, 0, none⟩) 1 1)) ∧ (w'.cell? ⟨k_M, 0, none⟩ = some (.int .i64 (R : Int)) ∧ w'.cell? ⟨k_M, 1, none⟩ = some (.int .i64 (C : Int)) ∧ w'.cell? ⟨k_M, 2, none⟩ = some (.int .i64 (S : Int)) ∧ w'.cell? ⟨k_M, 3, none⟩ = some (.slice (some ⟨g, 0, none⟩) (R * S) (R * S)))) (simp [go_sem, *]) (first | (go_at_call_of 19 g1; refine (mAtN 1 1 1 _ _ _ X1 0 0 _ one_one (by first | (with_reducible exact U1.out) | exact U1.out.below ((Below.refl _ _).drew)) (by omega) (by omega)).mono ?_; rintro e w22_ ⟨rfl, hb22_⟩; replace hb22_ : Below w21_.heap.size w21_ w22_ := (by first | exact ((Below.refl _ _).drew).trans hb22_ | exact hb22_); rw [E1.out]; clear K1_0 K1_1 K1_2 K1_3 K1_4 M_0 M_1 M_2 M_3 M_4; replace UZ : Hid (URow _ _ _ _ _) := UZ.out.below hb22_; replace HW : Hid (URow _ _ _ _ _) := HW.out.below hb22_; replace BW : Hid (Below _ _ _) := bstep BW.out hb22_; replace M : Hid (MBox _ _ _ _ _ _) := M.out.below hb22_; replace U1 : Hid (URow _ _ _ _ _) := U1.out.below hb22_; replace K1 : Hid (MBox _ _ _ _ _ _) := K1.out.below hb22_; replace U2 : Hid (URow _ _ _ _ _) := U2.out.below hb22_; replace R2 : Hid (MBox _ _ _ _ _ _) := R2.out.below hb22_; replace N0 : Hid (MBox _ _ _ _ _ _) := N0.out.below hb22_; obtain ⟨K1_0, K1_1, K1_2, K1_3, K1_4⟩ := K1.out; obtain ⟨M_0, M_1, M_2, M_3, M_4⟩ := M.out; clear hb22_) | (go_at_call_of 19 g; refine (mAtN R C S _ _ _ Z I K _ T2.out (by first | (with_reducible exact UZ.out) | exact UZ.out.below ((Below.refl _ _).drew)) (by omega) (by omega)).mono ?_; rintro e w23_ ⟨rfl, hb23_⟩; replace hb23_ : Below w22_.heap.size w22_ w23_ := (by first | exact ((Below.refl _ _).drew).trans hb23_ | exact hb23_); clear K1_0 K1_1 K1_2 K1_3 K1_4 M_0 M_1 M_2 M_3 M_4; replace UZ : Hid (URow _ _ _ _ _) := UZ.out.below hb23_; replace HW : Hid (URow _ _ _ _ _) := HW.out.below hb23_; replace BW : Hid (Below _ _ _) := bstep BW.out hb23_; replace M : Hid (MBox _ _ _ _ _ _) := M.out.below hb23_; replace U1 : Hid (URow _ _ _ _ _) := U1.out.below hb23_; replace K1 : Hid (MBox _ _ _ _ _ _) := K1.out.below hb23_; replace U2 : Hid (URow _ _ _ _ _) := U2.out.below hb23_; replace R2 : Hid (MBox _ _ _ _ _ _) := R2.out.below hb23_; replace N0 : Hid (MBox _ _ _ _ _ _) := N0.out.below hb23_; obtain ⟨K1_0, K1_1, K1_2, K1_3, K1_4⟩ := K1.out; obtain ⟨M_0, M_1, M_2, M_3, M_4⟩ := M.out; clear hb23_))
                        obtain ⟨R2_0, R2_1, R2_2, R2_3, R2_4⟩ := R2.out
                        go_wp2_with fail
                        clear K1_0 K1_1 K1_2 K1_3 K1_4 M_0 M_1 M_2 M_3 M_4 R2_0 R2_1 R2_2 R2_3 R2_4
                        go_loopw [26] (fun i wr => ∃ n : Nat, i = .int .i64 (n : Int) ∧ n ≤ r ∧ Hid (Below w23_.heap.size w23_ wr)) (fun i _ => r - (intOf i).toNat)
                        case atStart => exact ⟨0, rfl, Nat.zero_le _, Below.refl _ _⟩
                        case round =>
                          obtain ⟨n, rfl, hn_, BV24⟩ := hrel
                          obtain ⟨w24_, rfl⟩ : ∃ x, x = wr := ⟨wr, rfl⟩
                          replace UZ : Hid (URow _ _ _ _ _) := UZ.out.below BV24.out
                          replace HW : Hid (URow _ _ _ _ _) := HW.out.below BV24.out
                          replace BW : Hid (Below _ _ _) := bstep BW.out BV24.out
                          replace M : Hid (MBox _ _ _ _ _ _) := M.out.below BV24.out
                          replace U1 : Hid (URow _ _ _ _ _) := U1.out.below BV24.out
                          replace K1 : Hid (MBox _ _ _ _ _ _) := K1.out.below BV24.out
                          replace U2 : Hid (URow _ _ _ _ _) := U2.out.below BV24.out
                          replace R2 : Hid (MBox _ _ _ _ _ _) := R2.out.below BV24.out
                          replace N0 : Hid (MBox _ _ _ _ _ _) := N0.out.below BV24.out
                          by_cases hlt : (n : Int) < (r : Int)
                          · skip
                            obtain ⟨R2_0, R2_1, R2_2, R2_3, R2_4⟩ := R2.out
                            go_wp2_with fail
                            clear R2_0 R2_1 R2_2 R2_3 R2_4
                            go_loopw [27] (fun i wr => ∃ m : Nat, i = .int .i64 (m : Int) ∧ m ≤ c ∧ Hid (Below w24_.heap.size w24_ wr)) (fun i _ => c - (intOf i).toNat)
                            case atStart => exact ⟨0, rfl, Nat.zero_le _, Below.refl _ _⟩
                            case round =>
                              obtain ⟨m, rfl, hm_, BV25⟩ := hrel
                              obtain ⟨w25_, rfl⟩ : ∃ x, x = wr := ⟨wr, rfl⟩
                              replace UZ : Hid (URow _ _ _ _ _) := UZ.out.below BV25.out
                              replace HW : Hid (URow _ _ _ _ _) := HW.out.below BV25.out
                              replace BW : Hid (Below _ _ _) := bstep BW.out BV25.out
                              replace M : Hid (MBox _ _ _ _ _ _) := M.out.below BV25.out
                              replace U1 : Hid (URow _ _ _ _ _) := U1.out.below BV25.out
                              replace K1 : Hid (MBox _ _ _ _ _ _) := K1.out.below BV25.out
                              replace U2 : Hid (URow _ _ _ _ _) := U2.out.below BV25.out
                              replace R2 : Hid (MBox _ _ _ _ _ _) := R2.out.below BV25.out
                              replace N0 : Hid (MBox _ _ _ _ _ _) := N0.out.below BV25.out
                              replace BV24 : Hid (Below _ _ _) := bstep BV24.out BV25.out
                              by_cases hlt2 : (m : Int) < (c : Int)
                              · skip
                                obtain ⟨J, hJ⟩ : ∃ J, I + n = J := ⟨_, rfl⟩
                                obtain ⟨H, hH⟩ : ∃ H, K + m = H := ⟨_, rfl⟩
                                have e1 : (I : Int) + (n : Int) = (J : Int) := by omega
                                have e2 : (K : Int) + (m : Int) = (H : Int) := by omega
                                have e3 : IntKind.i64.wrap (J : Int) = (J : Int) := by rw [IntKind.wrap_i64]; omega
                                have e4 : IntKind.i64.wrap (H : Int) = (H : Int) := by rw [IntKind.wrap_i64]; omega
                                have EX : Hid (X2 (n * c + m) = Z (J * S + H)) := by have := E2.out n m (by omega) (by omega); rw [hJ, hH] at this; exact this
                                have HJ : Hid (J < R) := by show _ < _; have := HR_.out; omega
                                have HH : Hid (H < C) := by show _ < _; have := HC_.out; omega
                                clear hJ hH
                                obtain ⟨M_0, M_1, M_2, M_3, M_4⟩ := M.out
                                obtain ⟨R2_0, R2_1, R2_2, R2_3, R2_4⟩ := R2.out
                                go_wp2_with fail
                                clear M_0 M_1 M_2 M_3 M_4 R2_0 R2_1 R2_2 R2_3 R2_4
                                obtain ⟨R2_0, R2_1, R2_2, R2_3, R2_4⟩ := R2.out
                                obtain ⟨M_0, M_1, M_2, M_3, M_4⟩ := M.out
                                go_region_held3 (fun w' => (w'.cell? ⟨k_R2, 0, none⟩ = some (.int .i64 (r : Int)) ∧ w'.cell? ⟨k_R2, 1, none⟩ = some (.int .i64 (c : Int)) ∧ w'.cell? ⟨k_R2, 2, none⟩ = some (.int .i64 (c : Int)) ∧ w'.cell? ⟨k_R2, 3, none⟩ = some (.slice (some ⟨g2, 0, none⟩) (r * c) (r * c))) ∧ (w'.cell? ⟨k_M, 0, none⟩ = some (.int .i64 (R : Int)) ∧ w'.cell? ⟨k_M, 1, none⟩ = some (.int .i64 (C : Int)) ∧ w'.cell? ⟨k_M, 2, none⟩ = some (.int .i64 (S : Int)) ∧ w'.cell? ⟨k_M, 3, none⟩ = some (.slice (some ⟨g, 0, none⟩) (R * S) (R * S)))) (simp [go_sem, *]) (first | (go_at_call_of 19 g2; refine (mAtN r c c _ _ _ X2 n m _ T3.out (by first | (with_reducible exact U2.out) | exact U2.out.below ((Below.refl _ _).drew)) (by omega) (by omega)).mono ?_; rintro e w26_ ⟨rfl, hb26_⟩; replace hb26_ : Below w25_.heap.size w25_ w26_ := (by first | exact ((Below.refl _ _).drew).trans hb26_ | exact hb26_); rw [EX.out]; clear R2_0 R2_1 R2_2 R2_3 R2_4 M_0 M_1 M_2 M_3 M_4; replace UZ : Hid (URow _ _ _ _ _) := UZ.out.below hb26_; replace HW : Hid (URow _ _ _ _ _) := HW.out.below hb26_; replace BW : Hid (Below _ _ _) := bstep BW.out hb26_; replace M : Hid (MBox _ _ _ _ _ _) := M.out.below hb26_; replace U1 : Hid (URow _ _ _ _ _) := U1.out.below hb26_; replace K1 : Hid (MBox _ _ _ _ _ _) := K1.out.below hb26_; replace U2 : Hid (URow _ _ _ _ _) := U2.out.below hb26_; replace R2 : Hid (MBox _ _ _ _ _ _) := R2.out.below hb26_; replace N0 : Hid (MBox _ _ _ _ _ _) := N0.out.below hb26_; replace BV24 : Hid (Below _ _ _) := bstep BV24.out hb26_; replace BV25 : Hid (Below _ _ _) := bstep BV25.out hb26_; obtain ⟨R2_0, R2_1, R2_2, R2_3, R2_4⟩ := R2.out; obtain ⟨M_0, M_1, M_2, M_3, M_4⟩ := M.out; clear hb26_) | (go_at_call_of 19 g; refine (mAtN R C S _ _ _ Z J H _ T2.out (by first | (with_reducible exact UZ.out) | exact UZ.out.below ((Below.refl _ _).drew)) HJ.out HH.out).mono ?_; rintro e w27_ ⟨rfl, hb27_⟩; replace hb27_ : Below w26_.heap.size w26_ w27_ := (by first | exact ((Below.refl _ _).drew).trans hb27_ | exact hb27_); clear R2_0 R2_1 R2_2 R2_3 R2_4 M_0 M_1 M_2 M_3 M_4; replace UZ : Hid (URow _ _ _ _ _) := UZ.out.below hb27_; replace HW : Hid (URow _ _ _ _ _) := HW.out.below hb27_; replace BW : Hid (Below _ _ _) := bstep BW.out hb27_; replace M : Hid (MBox _ _ _ _ _ _) := M.out.below hb27_; replace U1 : Hid (URow _ _ _ _ _) := U1.out.below hb27_; replace K1 : Hid (MBox _ _ _ _ _ _) := K1.out.below hb27_; replace U2 : Hid (URow _ _ _ _ _) := U2.out.below hb27_; replace R2 : Hid (MBox _ _ _ _ _ _) := R2.out.below hb27_; replace N0 : Hid (MBox _ _ _ _ _ _) := N0.out.below hb27_; replace BV24 : Hid (Below _ _ _) := bstep BV24.out hb27_; replace BV25 : Hid (Below _ _ _) := bstep BV25.out hb27_; obtain ⟨R2_0, R2_1, R2_2, R2_3, R2_4⟩ := R2.out; obtain ⟨M_0, M_1, M_2, M_3, M_4⟩ := M.out; clear hb27_))
                                go_wp2
                                go_roundw
                                case rel => exact ⟨m + 1, by go_num, by omega, BV25.out⟩
                                case measure => simp [intOf]; omega
                              · obtain rfl : c = m := by omega
                                obtain ⟨R2_0, R2_1, R2_2, R2_3, R2_4⟩ := R2.out
                                go_wp2
                                go_roundw
                                case rel => exact ⟨n + 1, by go_num, by omega, BV24.out⟩
                                case measure => simp [intOf]; omega
                          · obtain rfl : r = n := by omega
                            obtain ⟨R2_0, R2_1, R2_2, R2_3, R2_4⟩ := R2.out
                            go_wp2
                            go_ret
                            exact ⟨ret_eq rfl, BW.out⟩

/-! ### THE ROW's STEP: WRITTEN OUT: LEAVE IT -/
set_option maxRecDepth 100000 in
theorem lifted (os : Os) (started : os.Started) (H : Type) (enc : TypeId × Value → H) :
    ReturnsInHanded {} Try.checked os 4 .any (Rows.matCopiesSpec.pre6 enc Try.prog Try.f4 Rows.matCopiesRow.domain false) (Rows.matCopiesSpec.post enc Try.prog Try.f4 false true false false) := by
  refine returnsInHanded_of_change (C := Try.checked) own started (by kernel_rfl) Try.func4
    (ChangeSpec.witness6 (enc := enc) (C := Try.checked) false ⟨#[], #[.int .i64 0, .int .i64 0, .int .i64 0, .slice none 0 0, .int .i64 0, .int .i64 0], []⟩ 8 (by kernel_rfl) (by kernel_rfl) (by kernel_rfl) (by kernel_rfl)) ?_
  intro W base args ds gs before hval0 hW hcnd _
  have hval : ∀ (j : Nat) t v, Try.f4.params[j]? = some t → args[j]? = some v → Value.okWide Try.prog W .any base t v := hval0
  have hW' := hW
  obtain ⟨p, q, hA0, hV, rfl, hfz, hnd⟩ := hW
  have hA : DataW.TrodAll enc Try.prog W 0 (fun _ => true) true Try.f4.params.toList args.toList ds p := hA0
  rw [Try.params4] at hA hval
  obtain ⟨v0, vs0, d0, ds0, p0, q0, hargs, rfl, rfl, h0, r0⟩ := trodAll_cons hA
  obtain ⟨v1, vs1, d1, ds1, p1, q1, rfl, rfl, rfl, h1, r1⟩ := trodAll_cons r0
  obtain ⟨v2, vs2, d2, ds2, p2, q2, rfl, rfl, rfl, h2, r2⟩ := trodAll_cons r1
  obtain ⟨v3, vs3, d3, ds3, p3, q3, rfl, rfl, rfl, h3, r3⟩ := trodAll_cons r2
  obtain ⟨v4, vs4, d4, ds4, p4, q4, rfl, rfl, rfl, h4, r4⟩ := trodAll_cons r3
  obtain ⟨v5, vs5, d5, ds5, p5, q5, rfl, rfl, rfl, h5, r5⟩ := trodAll_cons r4
  obtain ⟨rfl, rfl, rfl⟩ := trodAll_nil r5
  obtain rfl : args = #[v0, v1, v2, v3, v4, v5] := by cases args; simp_all
  obtain ⟨rfl, rfl⟩ := trodVars_none hV
  obtain ⟨a0, rfl, rfl, rfl, w0⟩ := open_int Try.underlying3 (hval 0 3 v0 rfl rfl) h0
  obtain ⟨a1, rfl, rfl, rfl, w1⟩ := open_int Try.underlying3 (hval 1 3 v1 rfl rfl) h1
  obtain ⟨a2, rfl, rfl, rfl, w2⟩ := open_int Try.underlying3 (hval 2 3 v2 rfl rfl) h2
  obtain ⟨a3, len3, cap3, rfl⟩ := okWide_slice Try.underlying23 (hval 3 23 v3 rfl rfl)
  have k3 := h3
  have lt3 : ∀ x ∈ p3, x.block < W.heap.size := by obtain ⟨m, hm⟩ := k3; exact DataW.trod_lt m _ _ _ hm
  obtain ⟨z3, w3⟩ : ∃ zs, IsRow .u64 W a3 len3 cap3 zs := by
    obtain ⟨fuel, hf⟩ := h3
    rcases open_ints Try.underlying23 Try.underlying26 (by kernel_rfl) hf with ⟨hcs, _⟩ | ⟨x, l, c, zs, hcs, _, hl, hm, hz, _, hcell, hwz⟩
    · simp [Value.cells] at hcs
      obtain ⟨rfl, rfl, rfl⟩ := hcs
      exact ⟨[], .inl ⟨rfl, rfl, rfl, rfl⟩⟩
    · simp [Value.cells] at hcs
      obtain ⟨rfl, rfl, rfl⟩ := hcs
      exact ⟨zs, .inr ⟨_, rfl, hl, hm, by simpa using hz, hcell, hwz⟩⟩
  obtain ⟨a4, rfl, rfl, rfl, w4⟩ := open_int Try.underlying3 (hval 4 3 v4 rfl rfl) h4
  obtain ⟨a5, rfl, rfl, rfl, w5⟩ := open_int Try.underlying3 (hval 5 3 v5 rfl rfl) h5
  clear hA0 hval0
  refine (walk a0 a1 a2 a3 len3 cap3 z3 a4 a5 W w0 w1 w2 w3 w4 w5).mono fun e W' ⟨he, bel⟩ => ?_
  subst he
  exact ⟨_, rfl, _, _, _, [], _, [], hW', trodAll_mk1 (shut_bool Try.underlying4 _), (trodAll_cons_mk (shut_int Try.underlying3 w0) (trodAll_cons_mk (shut_int Try.underlying3 w1) (trodAll_cons_mk (shut_int Try.underlying3 w2) (trodAll_cons_mk (Below.trod laidOut (by kernel_rfl) (of_decide_eq_true (by kernel_rfl)) k3 bel lt3) (trodAll_cons_mk (shut_int Try.underlying3 w4) (trodAll_cons_mk (shut_int Try.underlying3 w5) trodAll_mk0)))))), rfl, bel.frame _, fun h => by cases h⟩

theorem over : Rows.matCopiesRow.holds Try.pinned (OpenSpec.ofChange Rows.matCopiesSpec) :=
  OpenClaim.holds_of_wide 4 Try.f4 rfl rfl rfl rfl rfl rfl rfl ⟨rfl, rfl, rfl, rfl, rfl⟩ rfl rfl rfl rfl rfl (by kernel_rfl) Try.func4 (by kernel_rfl)
    (of_decide_eq_true (by kernel_rfl)) (by unfold Func.isWrapper; first | (rw [if_pos (by decide +kernel)]; kernel_rfl) | (rw [if_neg (by decide +kernel)]; exact ⟨rfl, rfl⟩))
    (fun os started H enc _ => lifted os started H enc)

/-- ████ THE STATEMENT ████ -/
theorem proved : Rows.MatCopiesSaid := over
#print axioms proved
end Go.Proofs.Ytokgfeeaoioegaa.matCopies
