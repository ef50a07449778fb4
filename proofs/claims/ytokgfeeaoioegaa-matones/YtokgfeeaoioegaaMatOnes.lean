/-
  The law MatOnes returns true at every input (any sizes), and leaves its arguments as they were. No conditions.
-/
import Derived.Test.YtokgfeeaoioegaaRows
import Derived.WalkKit
import Derived.ProofKit
import Derived.OpenShut
import Derived.Test.YtokgfeeaoioegaaGrQ
import Derived.Lib.SmallJoins
import Derived.Below
namespace Go.Proofs.Ytokgfeeaoioegaa.matOnes
open Go.ChangeShapes Go.WideShapes Go.ChangeAt Go.RowKit
open Go.Joins (open_agg2 shut_agg2)
set_option linter.unusedVariables false

theorem own : ownKnob Try.prog.godebug = none := by kernel_rfl

set_option linter.unusedSimpArgs false
set_option maxRecDepth 100000 in
set_option maxHeartbeats 8000000 in
theorem walk (a0 : Int) (a1 : Int) (w : World) (w0 : (Lit.int .i64 a0).wf = true) (w1 : (Lit.int .i64 a1).wf = true) :
    Calls Try.prog 5 #[.int .i64 a0, .int .i64 a1] w fun e w' => e = .returned (.bool true) ∧ Below w.heap.size w w' := by
  obtain ⟨r0, r1⟩ := bounds_i64 w0
  obtain ⟨c0, c1⟩ := bounds_i64 w1
  clear w0 w1
  go_enter Try.func5, Try.ntmps5
  go_wp2_with fail
  refine (lHead9 _).mono ?_
  rintro e w2 ⟨rfl, hb2⟩
  have BW : Hid (Below w.heap.size w w2) := hb2
  clear hb2
  by_cases h0 : a0 < 0
  · have hh := h0
    go_wp2_with fail
    refine (mNewBad _ _ _ (.inl (by omega))).mono ?_
    rintro e w1_ ⟨rfl, hb1_⟩
    replace BW : Hid (Below _ _ _) := bstep BW.out hb1_
    clear hb1_
    go_wp2
    go_ret
    exact ⟨ret_eq rfl, bmore BW.out _⟩
  · have g0 : decide (a0 < 0) = false := decide_eq_false h0
    by_cases h1 : a1 < 0
    · have hh := h1
      go_wp2_with fail
      refine (mNewBad _ _ _ (.inr (by omega))).mono ?_
      rintro e w1_ ⟨rfl, hb1_⟩
      replace BW : Hid (Below _ _ _) := bstep BW.out hb1_
      clear hb1_
      go_wp2
      go_ret
      exact ⟨ret_eq rfl, bmore BW.out _⟩
    · have g1 : decide (a1 < 0) = false := decide_eq_false h1
      by_cases h2 : 4096 < a0
      · have hh := h2
        go_wp2_with fail
        refine (mNewBad _ _ _ (.inl (by omega))).mono ?_
        rintro e w1_ ⟨rfl, hb1_⟩
        replace BW : Hid (Below _ _ _) := bstep BW.out hb1_
        clear hb1_
        go_wp2
        go_ret
        exact ⟨ret_eq rfl, bmore BW.out _⟩
      · have g2 : decide (4096 < a0) = false := decide_eq_false h2
        by_cases h3 : 4096 < a1
        · have hh := h3
          go_wp2_with fail
          refine (mNewBad _ _ _ (.inr (by omega))).mono ?_
          rintro e w1_ ⟨rfl, hb1_⟩
          replace BW : Hid (Below _ _ _) := bstep BW.out hb1_
          clear hb1_
          go_wp2
          go_ret
          exact ⟨ret_eq rfl, bmore BW.out _⟩
        · have g3 : decide (4096 < a1) = false := decide_eq_false h3
          have a0e := and_31_i a0
          have a1e := and_31_i a1
          obtain ⟨R, hR⟩ : ∃ R : Nat, a0 % 32 = (R : Int) := ⟨(a0 % 32).toNat, by omega⟩
          obtain ⟨C, hC⟩ : ∃ R : Nat, a1 % 32 = (R : Int) := ⟨(a1 % 32).toNat, by omega⟩
          rw [hR] at a0e
          rw [hC] at a1e
          have hR31 : R ≤ 31 := by omega
          have hC31 : C ≤ 31 := by omega
          have hRC0 : R * C ≤ 961 := Nat.mul_le_mul hR31 hC31
          have hRR0 : R * R ≤ 961 := Nat.mul_le_mul hR31 hR31
          obtain ⟨N, hN⟩ : ∃ N, R * C = N := ⟨_, rfl⟩
          obtain ⟨N2, hN2⟩ : ∃ N, R * R = N := ⟨_, rfl⟩
          rw [hN] at hRC0
          rw [hN2] at hRR0
          have T1 : Hid (Rgt (R : Int) (C : Int) (C : Int) N) := by rw [← hN]; exact tight R C (by omega) (by omega)
          have T2 : Hid (Rgt (R : Int) (R : Int) (R : Int) N2) := by rw [← hN2]; exact tight R R (by omega) (by omega)
          have HN : Hid (_ = _) := hN
          have HN2 : Hid (_ = _) := hN2
          clear hR hC hN hN2
          go_wp2_with fail
          refine (mNew R C _ (by omega) (by omega) (by rw [HN.out]; omega)).mono ?_
          rintro e w1_ ⟨rfl, _, hrow, hb_⟩
          rw [HN.out] at hrow ⊢
          obtain ⟨g0, hg0⟩ : ∃ g, g = w2.heap.size + 1 := ⟨_, rfl⟩
          rw [← hg0] at hrow ⊢
          clear hg0
          obtain ⟨F0, hF0⟩ : ∃ F : Nat → Int, F = fun j => (List.replicate N (0 : Int))[j]?.getD 0 := ⟨_, rfl⟩
          have hu0 := hrow.rowF List.length_replicate (by omega) (InW.zeros _) hF0
          have Z0 : Hid (∀ j, F0 j = 0) := by rw [hF0]; exact fun j => by show (List.replicate N (0 : Int))[j]?.getD 0 = 0; rw [List.getElem?_replicate]; split <;> rfl
          clear hrow hF0
          replace BW : Hid (Below _ _ _) := bstep BW.out hb_
          clear hb_
          have U0 : Hid (URow w1_ (some ⟨g0, 0, none⟩) N N F0) := hu0
          clear hu0
          go_wp2_with fail
          have m_ := MBox.made w1_ (R : Int) (C : Int) (C : Int) (.slice (some ⟨g0, 0, none⟩) N N)
          have b_ : Below w1_.heap.size w1_ (w1_.alloc (.cells #[.int .i64 (R : Int), .int .i64 (C : Int), .int .i64 (C : Int), .slice (some ⟨g0, 0, none⟩) N N] 25)) := (Below.refl _ _).alloc (Nat.le_refl _) _
          obtain ⟨k_M, hk_M⟩ : ∃ k, k = w1_.heap.size := ⟨_, rfl⟩
          have L_M : Hid (w.heap.size ≤ k_M) := by rw [hk_M]; exact BW.out.size
          rw [← hk_M] at m_ ⊢
          generalize (w1_.alloc (.cells #[.int .i64 (R : Int), .int .i64 (C : Int), .int .i64 (C : Int), .slice (some ⟨g0, 0, none⟩) N N] 25)) = w2_ at m_ b_ ⊢
          replace BW : Hid (Below _ _ _) := bstep BW.out b_
          replace U0 : Hid (URow _ _ _ _ _) := U0.out.below b_
          have M : Hid (MBox w2_ k_M (R : Int) (C : Int) (C : Int) (.slice (some ⟨g0, 0, none⟩) N N)) := m_
          clear m_ b_ hk_M
          refine (mOne R _ (by omega)).mono ?_
          rintro e w3_ ⟨g1, xs, rfl, _, hrow, hI, hb3_⟩
          rw [HN2.out]
          obtain ⟨F1, hF1⟩ : ∃ F : Nat → Int, F = fun j => xs[j]?.getD 0 := ⟨_, rfl⟩
          have hu1 := hrow.rowF (hI.1.trans HN2.out) (by omega) hI.2.1 hF1
          have E1 : Hid (∀ i k, i < R → k < R → F1 (i * R + k) = if i = k then 4607182418800017408 else 0) := fun i k hi hk => by
            rw [hF1]
            show xs[i * R + k]?.getD 0 = _
            rw [hI.2.2 i k hi hk]
            by_cases e : i = k
            · rw [if_pos ⟨e, hi⟩, if_pos e]
            · rw [if_neg (fun h => e h.1), if_neg e]
          clear hrow hI hF1
          replace BW : Hid (Below _ _ _) := bstep BW.out hb3_
          replace U0 : Hid (URow _ _ _ _ _) := U0.out.below hb3_
          replace M : Hid (MBox _ _ _ _ _ _) := M.out.below hb3_
          clear hb3_
          have U1 : Hid (URow w3_ (some ⟨g1, 0, none⟩) N2 N2 F1) := hu1
          clear hu1
          obtain ⟨M_0, M_1, M_2, M_3, M_4⟩ := M.out
          go_wp2_with fail
          have m_ := MBox.made w3_ (R : Int) (R : Int) (R : Int) (.slice (some ⟨g1, 0, none⟩) N2 N2)
          have b_ : Below w3_.heap.size w3_ (w3_.alloc (.cells #[.int .i64 (R : Int), .int .i64 (R : Int), .int .i64 (R : Int), .slice (some ⟨g1, 0, none⟩) N2 N2] 25)) := (Below.refl _ _).alloc (Nat.le_refl _) _
          obtain ⟨k_A, hk_A⟩ : ∃ k, k = w3_.heap.size := ⟨_, rfl⟩
          have L_A : Hid (w.heap.size ≤ k_A) := by rw [hk_A]; exact BW.out.size
          rw [← hk_A] at m_ ⊢
          clear M_0 M_1 M_2 M_3 M_4
          generalize (w3_.alloc (.cells #[.int .i64 (R : Int), .int .i64 (R : Int), .int .i64 (R : Int), .slice (some ⟨g1, 0, none⟩) N2 N2] 25)) = w4_ at m_ b_ ⊢
          replace BW : Hid (Below _ _ _) := bstep BW.out b_
          replace U0 : Hid (URow _ _ _ _ _) := U0.out.below b_
          replace M : Hid (MBox _ _ _ _ _ _) := M.out.below b_
          replace U1 : Hid (URow _ _ _ _ _) := U1.out.below b_
          have A : Hid (MBox w4_ k_A (R : Int) (R : Int) (R : Int) (.slice (some ⟨g1, 0, none⟩) N2 N2)) := m_
          clear m_ b_ hk_A
          obtain ⟨M_0, M_1, M_2, M_3, M_4⟩ := M.out
          obtain ⟨A_0, A_1, A_2, A_3, A_4⟩ := A.out
          refine (mCheckOk R C C _ _ _ _ T1.out (by omega)).mono ?_
          rintro e w5_ ⟨rfl, hb5_⟩
          clear M_0 M_1 M_2 M_3 M_4 A_0 A_1 A_2 A_3 A_4
          replace BW : Hid (Below _ _ _) := bstep BW.out hb5_
          replace U0 : Hid (URow _ _ _ _ _) := U0.out.below hb5_
          replace M : Hid (MBox _ _ _ _ _ _) := M.out.below hb5_
          replace U1 : Hid (URow _ _ _ _ _) := U1.out.below hb5_
          replace A : Hid (MBox _ _ _ _ _ _) := A.out.below hb5_
          clear hb5_
          obtain ⟨M_0, M_1, M_2, M_3, M_4⟩ := M.out
          obtain ⟨A_0, A_1, A_2, A_3, A_4⟩ := A.out
          go_wp2_with fail
          refine (mCheckOk R R R _ _ _ _ T2.out (by omega)).mono ?_
          rintro e w6_ ⟨rfl, hb6_⟩
          clear M_0 M_1 M_2 M_3 M_4 A_0 A_1 A_2 A_3 A_4
          replace BW : Hid (Below _ _ _) := bstep BW.out hb6_
          replace U0 : Hid (URow _ _ _ _ _) := U0.out.below hb6_
          replace M : Hid (MBox _ _ _ _ _ _) := M.out.below hb6_
          replace U1 : Hid (URow _ _ _ _ _) := U1.out.below hb6_
          replace A : Hid (MBox _ _ _ _ _ _) := A.out.below hb6_
          clear hb6_
          obtain ⟨M_0, M_1, M_2, M_3, M_4⟩ := M.out
          obtain ⟨A_0, A_1, A_2, A_3, A_4⟩ := A.out
          go_wp2_with fail
          refine (mFinOk R C C _ _ _ F0 _ T1.out U0.out (fun i k _ _ => by rw [Z0.out]; decide)).mono ?_
          rintro e w7_ ⟨rfl, hb7_⟩
          clear M_0 M_1 M_2 M_3 M_4 A_0 A_1 A_2 A_3 A_4
          replace BW : Hid (Below _ _ _) := bstep BW.out hb7_
          replace U0 : Hid (URow _ _ _ _ _) := U0.out.below hb7_
          replace M : Hid (MBox _ _ _ _ _ _) := M.out.below hb7_
          replace U1 : Hid (URow _ _ _ _ _) := U1.out.below hb7_
          replace A : Hid (MBox _ _ _ _ _ _) := A.out.below hb7_
          clear hb7_
          obtain ⟨M_0, M_1, M_2, M_3, M_4⟩ := M.out
          go_wp2_with fail
          clear M_0 M_1 M_2 M_3 M_4
          go_loopw [85] (fun i wr => ∃ n : Nat, i = .int .i64 (n : Int) ∧ n ≤ N ∧ Hid (Below w7_.heap.size w7_ wr)) (fun i _ => N - (intOf i).toNat)
          case atStart => exact ⟨0, rfl, Nat.zero_le _, Below.refl _ _⟩
          case round =>
            obtain ⟨n, rfl, hn_, BV8⟩ := hrel
            obtain ⟨w8_, rfl⟩ : ∃ x, x = wr := ⟨wr, rfl⟩
            replace BW : Hid (Below _ _ _) := bstep BW.out BV8.out
            replace U0 : Hid (URow _ _ _ _ _) := U0.out.below BV8.out
            replace M : Hid (MBox _ _ _ _ _ _) := M.out.below BV8.out
            replace U1 : Hid (URow _ _ _ _ _) := U1.out.below BV8.out
            replace A : Hid (MBox _ _ _ _ _ _) := A.out.below BV8.out
            by_cases hlt : (n : Int) < (N : Int)
            · skip
              obtain ⟨l_q, q⟩ := U0.out.cellg n (by omega)
              rw [Z0.out] at q
              obtain ⟨M_0, M_1, M_2, M_3, M_4⟩ := M.out
              go_wp2
              go_roundw
              case rel => exact ⟨n + 1, by go_num, by omega, BV8.out⟩
              case measure => simp [intOf]; omega
            · obtain rfl : N = n := by omega
              clear BV8
              go_wp2_with fail
              go_loopw [10] (fun i' wr => ∃ i : Nat, i' = .int .i64 (i : Int) ∧ i ≤ R ∧ Hid (Below w8_.heap.size w8_ wr)) (fun i' _ => R - (intOf i').toNat)
              case atStart => exact ⟨0, rfl, Nat.zero_le _, Below.refl _ _⟩
              case round =>
                obtain ⟨i, rfl, hi_, BV9⟩ := hrel
                obtain ⟨w9_, rfl⟩ : ∃ x, x = wr := ⟨wr, rfl⟩
                replace BW : Hid (Below _ _ _) := bstep BW.out BV9.out
                replace U0 : Hid (URow _ _ _ _ _) := U0.out.below BV9.out
                replace M : Hid (MBox _ _ _ _ _ _) := M.out.below BV9.out
                replace U1 : Hid (URow _ _ _ _ _) := U1.out.below BV9.out
                replace A : Hid (MBox _ _ _ _ _ _) := A.out.below BV9.out
                by_cases hlt : (i : Int) < (R : Int)
                · skip
                  go_wp2_with fail
                  go_loopw [11] (fun k' wr => ∃ k : Nat, k' = .int .i64 (k : Int) ∧ k ≤ R ∧ Hid (Below w9_.heap.size w9_ wr)) (fun k' _ => R - (intOf k').toNat)
                  case atStart => exact ⟨0, rfl, Nat.zero_le _, Below.refl _ _⟩
                  case round =>
                    obtain ⟨k, rfl, hk_, BV10⟩ := hrel
                    obtain ⟨w10_, rfl⟩ : ∃ x, x = wr := ⟨wr, rfl⟩
                    replace BW : Hid (Below _ _ _) := bstep BW.out BV10.out
                    replace U0 : Hid (URow _ _ _ _ _) := U0.out.below BV10.out
                    replace M : Hid (MBox _ _ _ _ _ _) := M.out.below BV10.out
                    replace U1 : Hid (URow _ _ _ _ _) := U1.out.below BV10.out
                    replace A : Hid (MBox _ _ _ _ _ _) := A.out.below BV10.out
                    replace BV9 : Hid (Below _ _ _) := bstep BV9.out BV10.out
                    by_cases hlt2 : (k : Int) < (R : Int)
                    · have EV := E1.out i k (by omega) (by omega)
                      by_cases hik : i = k
                      · skip
                        subst hik
                        rw [if_pos rfl] at EV
                        have EV2 : Hid (_ = _) := EV
                        clear EV
                        have hbe : ((i : Int) == (i : Int)) = true := by simp
                        obtain ⟨A_0, A_1, A_2, A_3, A_4⟩ := A.out
                        go_wp2_with fail
                        refine (mAtN R R R _ _ _ F1 i i _ T2.out U1.out (by omega) (by omega)).mono ?_
                        rintro e w11_ ⟨rfl, hb11_⟩
                        rw [EV2.out]
                        clear A_0 A_1 A_2 A_3 A_4
                        replace BW : Hid (Below _ _ _) := bstep BW.out hb11_
                        replace U0 : Hid (URow _ _ _ _ _) := U0.out.below hb11_
                        replace M : Hid (MBox _ _ _ _ _ _) := M.out.below hb11_
                        replace U1 : Hid (URow _ _ _ _ _) := U1.out.below hb11_
                        replace A : Hid (MBox _ _ _ _ _ _) := A.out.below hb11_
                        replace BV9 : Hid (Below _ _ _) := bstep BV9.out hb11_
                        replace BV10 : Hid (Below _ _ _) := bstep BV10.out hb11_
                        clear hb11_
                        go_wp2
                        go_roundw
                        case rel => exact ⟨i + 1, by go_num, by omega, BV10.out⟩
                        case measure => simp [intOf]; omega
                      · skip
                        rw [if_neg hik] at EV
                        have EV2 : Hid (_ = _) := EV
                        clear EV
                        have hne : ¬ (i : Int) = (k : Int) := by omega
                        have hbe : ((i : Int) == (k : Int)) = false := by rw [beq_eq_false_iff_ne]; exact hne
                        obtain ⟨A_0, A_1, A_2, A_3, A_4⟩ := A.out
                        go_wp2_with fail
                        refine (mAtN R R R _ _ _ F1 i k _ T2.out U1.out (by omega) (by omega)).mono ?_
                        rintro e w11_ ⟨rfl, hb11_⟩
                        rw [EV2.out]
                        clear A_0 A_1 A_2 A_3 A_4
                        replace BW : Hid (Below _ _ _) := bstep BW.out hb11_
                        replace U0 : Hid (URow _ _ _ _ _) := U0.out.below hb11_
                        replace M : Hid (MBox _ _ _ _ _ _) := M.out.below hb11_
                        replace U1 : Hid (URow _ _ _ _ _) := U1.out.below hb11_
                        replace A : Hid (MBox _ _ _ _ _ _) := A.out.below hb11_
                        replace BV9 : Hid (Below _ _ _) := bstep BV9.out hb11_
                        replace BV10 : Hid (Below _ _ _) := bstep BV10.out hb11_
                        clear hb11_
                        go_wp2
                        go_roundw
                        case rel => exact ⟨k + 1, by go_num, by omega, BV10.out⟩
                        case measure => simp [intOf]; omega
                    · obtain rfl : R = k := by omega
                      go_wp2
                      go_roundw
                      case rel => exact ⟨i + 1, by go_num, by omega, BV9.out⟩
                      case measure => simp [intOf]; omega
                · obtain rfl : R = i := by omega
                  clear BV9
                  have ZB0 : Hid (0 ≤ w9_.heap.size) := Nat.zero_le _
                  obtain ⟨B0, hB0⟩ : ∃ B : Nat, B = 0 := ⟨_, rfl⟩
                  rw [← hB0] at ZB0
                  clear hB0
                  go_wp2_with fail
                  refine (dOf 0 _ (by decide) (by decide)).mono ?_
                  rintro e w10_ ⟨n_v, rfl, ht_, hb_⟩
                  obtain ⟨n_n, n_a, n_m, n_c, n_p, rfl, ht2_⟩ := ht_.numform
                  replace ht2_ := ht2_.base (b' := B0) ZB0.out
                  clear ht_
                  replace BW : Hid (Below _ _ _) := bstep BW.out hb_
                  replace U0 : Hid (URow _ _ _ _ _) := U0.out.below hb_
                  replace M : Hid (MBox _ _ _ _ _ _) := M.out.below hb_
                  replace U1 : Hid (URow _ _ _ _ _) := U1.out.below hb_
                  replace A : Hid (MBox _ _ _ _ _ _) := A.out.below hb_
                  replace ZB0 : Hid (_ ≤ _) := Nat.le_trans ZB0.out (Below.size hb_)
                  clear hb_
                  go_upto_region 30 with fail
                  have mB_ := BoxF.made w10_ (.bool n_n) (.slice n_a n_m n_c) (.int .i64 n_p) (.slice none 0 0) 44
                  have tB_ := ht2_.alloc (.cells #[.bool n_n, .slice n_a n_m n_c, .int .i64 n_p, .slice none 0 0] 44)
                  have b_ := bmore (Below.refl w10_.heap.size w10_) (.cells #[.bool n_n, .slice n_a n_m n_c, .int .i64 n_p, .slice none 0 0] 44)
                  clear ht2_
                  generalize (w10_.alloc (.cells #[.bool n_n, .slice n_a n_m n_c, .int .i64 n_p, .slice none 0 0] 44)) = w11_ at mB_ b_ tB_ ⊢
                  obtain ⟨k_n, hk_n⟩ : ∃ k, k = w10_.heap.size := ⟨_, rfl⟩
                  rw [← hk_n] at mB_ ⊢
                  replace BW : Hid (Below _ _ _) := bstep BW.out b_
                  replace U0 : Hid (URow _ _ _ _ _) := U0.out.below b_
                  replace M : Hid (MBox _ _ _ _ _ _) := M.out.below b_
                  replace U1 : Hid (URow _ _ _ _ _) := U1.out.below b_
                  replace A : Hid (MBox _ _ _ _ _ _) := A.out.below b_
                  replace ZB0 : Hid (_ ≤ _) := Nat.le_trans ZB0.out (Below.size b_)
                  have b_n : Hid (BoxF w11_ k_n (.bool n_n) (.slice n_a n_m n_c) (.int .i64 n_p) (.slice none 0 0)) := mB_
                  have t_n : Hid (Tell w11_ B0 (.agg #[.bool n_n, .slice n_a n_m n_c, .int .i64 n_p, .slice none 0 0]) 17 17 (xv 0)) := tB_
                  clear mB_ b_ tB_ hk_n
                  have S1 : Hid (decide (sumQ (flat F1 R R) (R * R) = (R : Int) * pw (34 - 0)) = true) := by
                    refine decide_eq_true ?_
                    refine sumQ_one (flat F1 R R) R R (pw 34) (Nat.le_refl _) (fun i k hi hk => ?_)
                    rw [flat_at _ _ _ _ _ hk, E1.out i k hi hk]
                    by_cases e : i = k
                    · rw [if_pos e, if_pos e]
                      exact xv_one1
                    · rw [if_neg e, if_neg e]
                      exact xv_nil
                  have S2 : Hid (decide (sumQ (flat F0 C C) (R * C) = xv 0 * pw (34 - 17)) = true) := by
                    refine decide_eq_true ?_
                    rw [sumQ_zero (flat F0 C C) _ (fun i _ => Z0.out _)]
                    rfl
                  obtain ⟨⟨b_n_0, b_n_1, b_n_2, b_n_3⟩, ⟨b_n_5, b_n_6, b_n_7, b_n_8⟩, b_n_4⟩ := b_n.out
                  obtain ⟨A_0, A_1, A_2, A_3, A_4⟩ := A.out
                  obtain ⟨M_0, M_1, M_2, M_3, M_4⟩ := M.out
                  go_wp2_with fail
                  clear b_n_0 b_n_1 b_n_2 b_n_3 b_n_4 b_n_5 b_n_6 b_n_7 b_n_8 A_0 A_1 A_2 A_3 A_4 M_0 M_1 M_2 M_3 M_4
                  have ct : Cnt 1 := Cnt.mk _
                  have HBa : Hid (Below w11_.heap.size w11_ w11_) := Below.refl _ _
                  go_region_held3 (fun w' => (w'.cell? ⟨k_A, 0, none⟩ = some (.int .i64 (R : Int)) ∧ w'.cell? ⟨k_A, 1, none⟩ = some (.int .i64 (R : Int)) ∧ w'.cell? ⟨k_A, 2, none⟩ = some (.int .i64 (R : Int)) ∧ w'.cell? ⟨k_A, 3, none⟩ = some (.slice (some ⟨g1, 0, none⟩) N2 N2)) ∧ (w'.cell? ⟨k_M, 0, none⟩ = some (.int .i64 (R : Int)) ∧ w'.cell? ⟨k_M, 1, none⟩ = some (.int .i64 (C : Int)) ∧ w'.cell? ⟨k_M, 2, none⟩ = some (.int .i64 (C : Int)) ∧ w'.cell? ⟨k_M, 3, none⟩ = some (.slice (some ⟨g0, 0, none⟩) N N)) ∧ (w'.cell? ⟨k_n, 0, none⟩ = some (.bool n_n) ∧ w'.cell? ⟨k_n, 1, none⟩ = some (.slice n_a n_m n_c) ∧ w'.cell? ⟨k_n, 2, none⟩ = some (.int .i64 n_p) ∧ w'.cell? ⟨k_n, 3, none⟩ = some (.slice none 0 0))) (exact ⟨(A.out.below (by with_reducible repeat (first | (refine Below.drew ?_) | (refine bmore ?_ _) | exact HBa.out | exact Below.refl _ _))).cells, (M.out.below (by with_reducible repeat (first | (refine Below.drew ?_) | (refine bmore ?_ _) | exact HBa.out | exact Below.refl _ _))).cells, (b_n.out.below (by with_reducible repeat (first | (refine Below.drew ?_) | (refine bmore ?_ _) | exact HBa.out | exact Below.refl _ _))).cells⟩) (first | (have ck : Cnt 1 := ct; go_at_call 28; refine (mSquare R R R _ _ _ F1 _ T2.out (U1.out.below (by with_reducible repeat (first | (refine Below.drew ?_) | (refine bmore ?_ _) | exact HBa.out | exact Below.refl _ _))) (by rw [HN2.out]; omega)).mono ?_; rintro e Wq0_ ⟨r1x0_v, rfl, ht_, hb_⟩; obtain ⟨r1x0_n, r1x0_a, r1x0_m, r1x0_c, r1x0_p, rfl, ht2_⟩ := ht_.numform; clear ht_; have hbt_ : Below w11_.heap.size w11_ Wq0_ := bstep (by with_reducible repeat (first | (refine Below.drew ?_) | (refine bmore ?_ _) | exact (Below.refl _ _) | exact Below.refl _ _)) hb_; have t_r1x0 : Hid (Tell Wq0_ B0 (.agg #[.bool r1x0_n, .slice r1x0_a r1x0_m r1x0_c, .int .i64 r1x0_p, .slice none 0 0]) 34 (34 + (R * R : Nat)) (sumQ (flat F1 R R) (R * R))) := ht2_.base (Nat.le_trans ZB0.out (Below.size (B := w11_.heap.size) (by with_reducible repeat (first | (refine Below.drew ?_) | (refine bmore ?_ _) | exact HBa.out | exact Below.refl _ _)))); clear ht2_; replace HBa : Hid (Below w11_.heap.size w11_ Wq0_) := bstep HBa.out hbt_; replace ct : Cnt 2 := Cnt.mk _; clear hb_ hbt_ ck) | (have ck : Cnt 2 := ct; go_at_call 30; refine (dInt (R : Int) _ (by omega) (by omega)).mono ?_; rintro e Wq1_ ⟨r1x1_v, rfl, ht_, hb_⟩; obtain ⟨r1x1_n, r1x1_a, r1x1_m, r1x1_c, r1x1_p, rfl, ht2_⟩ := ht_.numform; clear ht_; have hbt_ : Below Wq0_.heap.size Wq0_ Wq1_ := bstep (by with_reducible repeat (first | (refine Below.drew ?_) | (refine bmore ?_ _) | exact (Below.refl _ _) | exact Below.refl _ _)) hb_; have t_r1x1 : Hid (Tell Wq1_ B0 (.agg #[.bool r1x1_n, .slice r1x1_a r1x1_m r1x1_c, .int .i64 r1x1_p, .slice none 0 0]) 0 2 ((R : Int))) := ht2_.base (Nat.le_trans ZB0.out (Below.size (B := w11_.heap.size) (by with_reducible repeat (first | (refine Below.drew ?_) | (refine bmore ?_ _) | exact HBa.out | exact Below.refl _ _)))); clear ht2_; replace t_r1x0 : Hid (Tell _ _ _ _ _ _) := t_r1x0.out.below hbt_; replace HBa : Hid (Below w11_.heap.size w11_ Wq1_) := bstep HBa.out hbt_; replace ct : Cnt 3 := Cnt.mk _; clear hb_ hbt_ ck) | (have ck : Cnt 3 := ct; go_at_call 29; refine (dSame _ _ _ B0 34 (34 + (R * R : Nat)) _ _ (t_r1x0.out.below (by with_reducible repeat (first | (refine Below.drew ?_) | (refine bmore ?_ _) | exact (Below.refl _ _) | exact Below.refl _ _))) ((t_r1x1.out.below (by with_reducible repeat (first | (refine Below.drew ?_) | (refine bmore ?_ _) | exact (Below.refl _ _) | exact Below.refl _ _))).up 34 (34 + (R * R : Nat)) (by omega) (by omega)) (by omega) (by rw [HN2.out]; omega)).mono ?_; rintro e Wq2_ ⟨rfl, hb_⟩; rw [S1.out]; have hbt_ : Below Wq1_.heap.size Wq1_ Wq2_ := bstep (by with_reducible repeat (first | (refine Below.drew ?_) | (refine bmore ?_ _) | exact (Below.refl _ _) | exact Below.refl _ _)) hb_; replace t_r1x0 : Hid (Tell _ _ _ _ _ _) := t_r1x0.out.below hbt_; replace t_r1x1 : Hid (Tell _ _ _ _ _ _) := t_r1x1.out.below hbt_; replace HBa : Hid (Below w11_.heap.size w11_ Wq2_) := bstep HBa.out hbt_; replace ct : Cnt 4 := Cnt.mk _; clear hb_ hbt_ ck) | (have ck : Cnt 4 := ct; go_at_call 28; refine (mSquare R C C _ _ _ F0 _ T1.out (U0.out.below (by with_reducible repeat (first | (refine Below.drew ?_) | (refine bmore ?_ _) | exact HBa.out | exact Below.refl _ _))) (by rw [HN.out]; omega)).mono ?_; rintro e Wq3_ ⟨r1x3_v, rfl, ht_, hb_⟩; obtain ⟨r1x3_n, r1x3_a, r1x3_m, r1x3_c, r1x3_p, rfl, ht2_⟩ := ht_.numform; clear ht_; have hbt_ : Below Wq2_.heap.size Wq2_ Wq3_ := bstep (by with_reducible repeat (first | (refine Below.drew ?_) | (refine bmore ?_ _) | exact (Below.refl _ _) | exact Below.refl _ _)) hb_; have t_r1x3 : Hid (Tell Wq3_ B0 (.agg #[.bool r1x3_n, .slice r1x3_a r1x3_m r1x3_c, .int .i64 r1x3_p, .slice none 0 0]) 34 (34 + (R * C : Nat)) (sumQ (flat F0 C C) (R * C))) := ht2_.base (Nat.le_trans ZB0.out (Below.size (B := w11_.heap.size) (by with_reducible repeat (first | (refine Below.drew ?_) | (refine bmore ?_ _) | exact HBa.out | exact Below.refl _ _)))); clear ht2_; replace t_r1x0 : Hid (Tell _ _ _ _ _ _) := t_r1x0.out.below hbt_; replace t_r1x1 : Hid (Tell _ _ _ _ _ _) := t_r1x1.out.below hbt_; replace HBa : Hid (Below w11_.heap.size w11_ Wq3_) := bstep HBa.out hbt_; replace ct : Cnt 5 := Cnt.mk _; clear hb_ hbt_ ck) | (have ck : Cnt 5 := ct; go_at_call 29; refine (dSame _ _ _ B0 34 (34 + (R * C : Nat)) _ _ (t_r1x3.out.below (by with_reducible repeat (first | (refine Below.drew ?_) | (refine bmore ?_ _) | exact (Below.refl _ _) | exact Below.refl _ _))) ((t_n.out.below (by with_reducible repeat (first | (refine Below.drew ?_) | (refine bmore ?_ _) | exact HBa.out | exact Below.refl _ _))).up 34 (34 + (R * C : Nat)) (by omega) (by omega)) (by omega) (by rw [HN.out]; omega)).mono ?_; rintro e Wq4_ ⟨rfl, hb_⟩; rw [S2.out]; have hbt_ : Below Wq3_.heap.size Wq3_ Wq4_ := bstep (by with_reducible repeat (first | (refine Below.drew ?_) | (refine bmore ?_ _) | exact (Below.refl _ _) | exact Below.refl _ _)) hb_; replace t_r1x0 : Hid (Tell _ _ _ _ _ _) := t_r1x0.out.below hbt_; replace t_r1x1 : Hid (Tell _ _ _ _ _ _) := t_r1x1.out.below hbt_; replace t_r1x3 : Hid (Tell _ _ _ _ _ _) := t_r1x3.out.below hbt_; replace HBa : Hid (Below w11_.heap.size w11_ Wq4_) := bstep HBa.out hbt_; replace ct : Cnt 6 := Cnt.mk _; clear hb_ hbt_ ck))
                  replace BW : Hid (Below _ _ _) := bstep BW.out HBa.out
                  replace U0 : Hid (URow _ _ _ _ _) := U0.out.below HBa.out
                  replace M : Hid (MBox _ _ _ _ _ _) := M.out.below HBa.out
                  replace U1 : Hid (URow _ _ _ _ _) := U1.out.below HBa.out
                  replace A : Hid (MBox _ _ _ _ _ _) := A.out.below HBa.out
                  replace ZB0 : Hid (_ ≤ _) := Nat.le_trans ZB0.out (Below.size HBa.out)
                  replace b_n : Hid (BoxF _ _ _ _ _ _) := b_n.out.below HBa.out
                  replace t_n : Hid (Tell _ _ _ _ _ _) := t_n.out.below HBa.out
                  clear HBa ct t_r1x0 t_r1x1 t_r1x3
                  go_wp2
                  go_ret
                  exact ⟨ret_eq rfl, BW.out⟩

/-! ### THE ROW's STEP -/
set_option maxRecDepth 100000 in
theorem lifted (os : Os) (started : os.Started) (H : Type) (enc : TypeId × Value → H) :
    ReturnsInHanded {} Try.checked os 5 .any (Rows.matOnesSpec.pre6 enc Try.prog Try.f5 Rows.matOnesRow.domain false) (Rows.matOnesSpec.post enc Try.prog Try.f5 false true false false) := by
  refine returnsInHanded_of_change (C := Try.checked) own started (by kernel_rfl) Try.func5
    (ChangeSpec.witness6 (enc := enc) (C := Try.checked) false ⟨#[], #[.int .i64 0, .int .i64 0], []⟩ 8 (by kernel_rfl) (by kernel_rfl) (by kernel_rfl) (by kernel_rfl)) ?_
  intro W base args ds gs before hval0 hW hcnd _
  have hval : ∀ (j : Nat) t v, Try.f5.params[j]? = some t → args[j]? = some v → Value.okWide Try.prog W .any base t v := hval0
  have hW' := hW
  obtain ⟨p, q, hA0, hV, rfl, hfz, hnd⟩ := hW
  have hA : DataW.TrodAll enc Try.prog W 0 (fun _ => true) true Try.f5.params.toList args.toList ds p := hA0
  rw [Try.params5] at hA hval
  obtain ⟨v0, vs0, d0, ds0, p0, q0, hargs, rfl, rfl, h0, r0⟩ := trodAll_cons hA
  obtain ⟨v1, vs1, d1, ds1, p1, q1, rfl, rfl, rfl, h1, r1⟩ := trodAll_cons r0
  obtain ⟨rfl, rfl, rfl⟩ := trodAll_nil r1
  obtain rfl : args = #[v0, v1] := by cases args; simp_all
  obtain ⟨rfl, rfl⟩ := trodVars_none hV
  obtain ⟨a0, rfl, rfl, rfl, w0⟩ := open_int Try.underlying3 (hval 0 3 v0 rfl rfl) h0
  obtain ⟨a1, rfl, rfl, rfl, w1⟩ := open_int Try.underlying3 (hval 1 3 v1 rfl rfl) h1
  clear hA0 hval0
  refine (walk a0 a1 W w0 w1).mono fun e W' ⟨he, bel⟩ => ?_
  subst he
  exact ⟨_, rfl, _, _, _, [], _, [], hW', trodAll_mk1 (shut_bool Try.underlying4 _), (trodAll_cons_mk (shut_int Try.underlying3 w0) (trodAll_cons_mk (shut_int Try.underlying3 w1) trodAll_mk0)), rfl, bel.frame _, fun h => by cases h⟩

theorem over : Rows.matOnesRow.holds Try.pinned (OpenSpec.ofChange Rows.matOnesSpec) :=
  OpenClaim.holds_of_wide 5 Try.f5 rfl rfl rfl rfl rfl rfl rfl ⟨rfl, rfl, rfl, rfl, rfl⟩ rfl rfl rfl rfl rfl (by kernel_rfl) Try.func5 (by kernel_rfl)
    (of_decide_eq_true (by kernel_rfl)) (by unfold Func.isWrapper; first | (rw [if_pos (by decide +kernel)]; kernel_rfl) | (rw [if_neg (by decide +kernel)]; exact ⟨rfl, rfl⟩))
    (fun os started H enc _ => lifted os started H enc)

/-- THE STATEMENT -/
theorem proved : Rows.MatOnesSaid :=
  over
#print axioms proved
end Go.Proofs.Ytokgfeeaoioegaa.matOnes
