/-
  The law MatChecks returns true at every input (any sizes, any stride, any place), and leaves its arguments as they were. No conditions.
-/
import Derived.Test.YtokgfeeaoioegaaRows
import Derived.WalkKit
import Derived.ProofKit
import Derived.OpenShut
import Derived.Test.YtokgfeeaoioegaaGrK
import Derived.Lib.SmallJoins
import Derived.Below
namespace Go.Proofs.Ytokgfeeaoioegaa.matChecks
open Go.ChangeShapes Go.WideShapes Go.ChangeAt Go.RowKit
open Go.Joins (open_agg2 shut_agg2)
set_option linter.unusedVariables false

theorem own : ownKnob Try.prog.godebug = none := by kernel_rfl

set_option maxRecDepth 100000 in
set_option maxHeartbeats 8000000 in
theorem walk (a0 : Int) (a1 : Int) (a2 : Int) (a3 : Int) (a4 : Int) (a5 : Int) (w : World) (w0 : (Lit.int .i64 a0).wf = true) (w1 : (Lit.int .i64 a1).wf = true) (w2 : (Lit.int .i64 a2).wf = true) (w3 : (Lit.int .i64 a3).wf = true) (w4 : (Lit.int .i64 a4).wf = true) (w5 : (Lit.int .i64 a5).wf = true) :
    Calls Try.prog 3 #[.int .i64 a0, .int .i64 a1, .int .i64 a2, .int .i64 a3, .int .i64 a4, .int .i64 a5] w fun e w' => e = .returned (.bool true) ∧ Below w.heap.size w w' := by
  obtain ⟨r0, r1⟩ := bounds_i64 w0
  obtain ⟨c0, c1⟩ := bounds_i64 w1
  obtain ⟨s0, s1⟩ := bounds_i64 w2
  obtain ⟨i0, i1⟩ := bounds_i64 w4
  obtain ⟨k0, k1⟩ := bounds_i64 w5
  clear w0 w1 w2 w3 w4 w5
  have hand := and_255_i a3
  obtain ⟨N, hN⟩ : ∃ N : Nat, a3 % 256 = (N : Int) := ⟨(a3 % 256).toNat, by omega⟩
  have hN255 : N ≤ 255 := by omega
  rw [hN] at hand
  clear hN
  have mk := mk_run N (by omega)
  obtain ⟨O, hO⟩ : ∃ O, O = ((List.replicate N (0 : Int)).map (Value.int .u64)).toArray := ⟨_, rfl⟩
  rw [← hO] at mk
  have HO : Hid (_ = _) := hO
  clear hO
  go_enter Try.func3, Try.ntmps3
  go_wp2_with fail
  refine (lHead9 _).mono ?_
  rintro e w1 ⟨rfl, hb1⟩
  have B1 : Hid (Below w.heap.size w w1) := hb1
  have z1 := hb1.size
  clear hb1
  go_wp2
  have bV : Below w1.heap.size w1 ((w1.alloc (.cells O 26)).alloc (.cells #[.int .i64 a0, .int .i64 a1, .int .i64 a2, .slice (some ⟨w1.heap.size, 0, none⟩) N N] 25)) := ((Below.refl _ _).alloc (Nat.le_refl _) _).alloc (by simp) _
  have mV : MBox ((w1.alloc (.cells O 26)).alloc (.cells #[.int .i64 a0, .int .i64 a1, .int .i64 a2, .slice (some ⟨w1.heap.size, 0, none⟩) N N] 25)) (w1.heap.size + 1) a0 a1 a2 (.slice (some ⟨w1.heap.size, 0, none⟩) N N) := by
    have := MBox.made (w1.alloc (.cells O 26)) a0 a1 a2 (.slice (some ⟨w1.heap.size, 0, none⟩) N N)
    simp only [World.size_alloc] at this
    exact this
  have rV : RowU ((w1.alloc (.cells O 26)).alloc (.cells #[.int .i64 a0, .int .i64 a1, .int .i64 a2, .slice (some ⟨w1.heap.size, 0, none⟩) N N] 25)) w1.heap.size (List.replicate N 0) := by
    have hr : RowU (w1.alloc (.cells O 26)) w1.heap.size (List.replicate N 0) := by
      unfold RowU
      rw [HO.out]
      exact heap_alloc_new w1 _
    exact hr.below ((Below.refl _ _).alloc (Nat.le_refl _) _)
  generalize ((w1.alloc (.cells O 26)).alloc (.cells #[.int .i64 a0, .int .i64 a1, .int .i64 a2, .slice (some ⟨w1.heap.size, 0, none⟩) N N] 25)) = V at bV mV rV ⊢
  obtain ⟨g, hg⟩ : ∃ g, g = w1.heap.size := ⟨_, rfl⟩
  rw [← hg] at bV mV rV ⊢
  have MV : Hid (MBox V (g + 1) a0 a1 a2 (.slice (some ⟨g, 0, none⟩) N N)) := mV
  have RV : Hid (RowU V g (List.replicate N 0)) := rV
  have BV : Hid (Below w.heap.size w V) := bstep B1.out (by rw [← hg]; exact bV)
  have HG : Hid (w.heap.size ≤ g) := by show _ ≤ _; omega
  clear bV mV rV hg z1
  go_loopw [34] (fun i wr => ∃ (j : Nat) (xs : List Int), i = .int .i64 (j : Int) ∧ j ≤ N ∧ Hid (MBox wr (g + 1) a0 a1 a2 (.slice (some ⟨g, 0, none⟩) N N)) ∧ Hid (RowU wr g xs) ∧ Hid (xs.length = N) ∧ Hid (InW xs) ∧ Hid (∀ q, q < j → xs[q]?.getD 0 = ((q + 5 : Nat) : Int)) ∧ Hid (Below w.heap.size w wr)) (fun i _ => N - (intOf i).toNat)
  case atStart => exact ⟨0, _, rfl, Nat.zero_le _, MV, RV, List.length_replicate, InW.zeros _, fun q h => absurd h (Nat.not_lt_zero q), BV⟩
  case round =>
    clear MV RV BV
    obtain ⟨j, xs, rfl, hj, M, R, L, I, E, B⟩ := hrel
    obtain ⟨p0, p1, p2, p3, p4⟩ := M.out
    by_cases hlt : (j : Int) < (N : Int)
    · have x1 := R.out.cell j (by have := L.out; omega)
      have x2 := R.out.frozen j
      go_wp2
      go_roundw
      case rel =>
        refine ⟨j + 1, xs.set j ((j : Int) + 5), by go_num, by omega, M.out.set (p := ⟨g, j, none⟩) (by show g ≠ g + 1; omega) _, R.out.set j _, ?_, I.out.set _ _ (by omega) (by omega), ?_, B.out.setCell (p := ⟨g, j, none⟩) HG.out _⟩
        · show _ = _
          rw [List.length_set]; exact L.out
        · intro q hq
          rw [List.getElem?_set]
          by_cases e : j = q
          · subst e
            rw [if_pos rfl, if_pos (by have := L.out; omega)]
            show (j : Int) + 5 = _
            omega
          · rw [if_neg e]
            exact E.out q (by omega)
      case measure => simp [intOf]; omega
    · obtain rfl : j = N := by omega
      by_cases h0 : (0 : Int) ≤ a0
      · have d1 : decide ((0 : Int) ≤ a0) = true := decide_eq_true (by omega)
        by_cases h1 : a0 ≤ 4096
        · have d2 : decide (a0 ≤ 4096) = true := decide_eq_true (by omega)
          by_cases h2 : (0 : Int) ≤ a1
          · have d3 : decide ((0 : Int) ≤ a1) = true := decide_eq_true (by omega)
            by_cases h3 : a1 ≤ 4096
            · have d4 : decide (a1 ≤ 4096) = true := decide_eq_true (by omega)
              by_cases h4 : a1 ≤ a2
              · have d5 : decide (a1 ≤ a2) = true := decide_eq_true (by omega)
                by_cases h5 : a2 ≤ 1099511627776
                · have d6 : decide (a2 ≤ 1099511627776) = true := decide_eq_true (by omega)
                  by_cases h6 : 0 < a0 ∧ 0 < a1
                  · obtain ⟨ra, ca⟩ := h6
                    have e1 : decide ((0 : Int) < a0) = true := decide_eq_true ra
                    have e2 : decide ((0 : Int) < a1) = true := decide_eq_true ca
                    obtain ⟨m0, m1⟩ := mul_rng (a0 - 1) a2 (by omega) (by omega) (by omega) (by omega)
                    obtain ⟨P, hP⟩ : ∃ P, (a0 - 1) * a2 = P := ⟨_, rfl⟩
                    have hw : IntKind.i64.wrap ((a0 - 1) * a2) = P := by rw [IntKind.wrap_i64, hP]; omega
                    rw [hP] at m0 m1
                    have HP : Hid (_ = _) := hP
                    clear hP
                    by_cases h7 : P ≤ (j : Int) - a1
                    · have e3 : decide (P ≤ (j : Int) - a1) = true := decide_eq_true h7
                      have HR : Hid (Rgt a0 a1 a2 j) := ⟨h0, h1, h2, h3, h4, h5, .inr (.inr (by rw [HP.out]; omega))⟩
                      go_wp2_with fail
                      refine (mCheck _ _ _ _ _ _ _ (by omega) (by omega)).mono ?_
                      rintro e w2 ⟨hh, hb2⟩
                      obtain rfl : e = .returned (.int .i64 0) := by
                        rcases hh with ⟨h, _⟩ | ⟨_, hN⟩
                        · exact h
                        · exact absurd HR.out hN
                      clear hh
                      have M2 : Hid (MBox _ _ _ _ _ _) := M.out.below hb2
                      have R2 : Hid (RowU _ _ _) := R.out.below hb2
                      have B2 : Hid (Below w.heap.size w w2) := bstep B.out hb2
                      obtain ⟨q0, q1, q2, q3, q4⟩ := M2.out
                      clear hb2 p0 p1 p2 p3 p4 M R B
                      by_cases o1 : a4 < 0
                      · have f1 : decide (a4 < 0) = true := decide_eq_true o1
                        have hout : ¬ (0 ≤ a4 ∧ a4 < a0 ∧ 0 ≤ a5 ∧ a5 < a1) := by omega
                        go_wp2_with fail
                        have HO2 : Hid (¬ (0 ≤ a4 ∧ a4 < a0 ∧ 0 ≤ a5 ∧ a5 < a1)) := hout
                        clear hout
                        refine (mSetNo _ _ _ _ _ _ _ _ _ _ HR.out (by omega) HO2.out).mono ?_
                        rintro e w3 ⟨rfl, hb3⟩
                        have M3 : Hid (MBox _ _ _ _ _ _) := M2.out.below hb3
                        have R3 : Hid (RowU _ _ _) := R2.out.below hb3
                        have B3 : Hid (Below w.heap.size w w3) := bstep B2.out hb3
                        obtain ⟨t0, t1, t2, t3, t4⟩ := M3.out
                        clear hb3 q0 q1 q2 q3 q4 M2 R2 B2
                        go_wp2
                        go_loopw [131] (fun i wr => ∃ q : Nat, i = .int .i64 (q : Int) ∧ q ≤ j ∧ wr = w3) (fun i _ => j - (intOf i).toNat)
                        case atStart => exact ⟨0, rfl, Nat.zero_le _, rfl⟩
                        case round =>
                          obtain ⟨q, rfl, hq, rfl⟩ := hrel
                          by_cases hlt2 : (q : Int) < (j : Int)
                          · have x1 := R3.out.cell q (by have := L.out; omega)
                            rw [E.out q (by omega), show ((q + 5 : Nat) : Int) = (q : Int) + 5 by omega] at x1
                            go_wp2
                            go_roundw
                            case rel => exact ⟨q + 1, by go_num, by omega, by first | rfl | trivial⟩
                            case measure => simp [intOf]; omega
                          · obtain rfl : q = j := by omega
                            go_wp2_with fail
                            refine (mAtNo _ _ _ _ _ _ _ _ _ HR.out (by omega) HO2.out).mono ?_
                            rintro e w4 ⟨rfl, hb4⟩
                            have B4 : Hid (Below w.heap.size w w4) := bstep B3.out hb4
                            clear hb4
                            go_wp2
                            go_ret
                            exact ⟨ret_eq rfl, B4.out⟩
                      · have f1 : decide (a4 < 0) = false := decide_eq_false o1
                        by_cases o2 : a0 ≤ a4
                        · have f2 : decide (a0 ≤ a4) = true := decide_eq_true o2
                          have hout : ¬ (0 ≤ a4 ∧ a4 < a0 ∧ 0 ≤ a5 ∧ a5 < a1) := by omega
                          go_wp2_with fail
                          have HO2 : Hid (¬ (0 ≤ a4 ∧ a4 < a0 ∧ 0 ≤ a5 ∧ a5 < a1)) := hout
                          clear hout
                          refine (mSetNo _ _ _ _ _ _ _ _ _ _ HR.out (by omega) HO2.out).mono ?_
                          rintro e w3 ⟨rfl, hb3⟩
                          have M3 : Hid (MBox _ _ _ _ _ _) := M2.out.below hb3
                          have R3 : Hid (RowU _ _ _) := R2.out.below hb3
                          have B3 : Hid (Below w.heap.size w w3) := bstep B2.out hb3
                          obtain ⟨t0, t1, t2, t3, t4⟩ := M3.out
                          clear hb3 q0 q1 q2 q3 q4 M2 R2 B2
                          go_wp2
                          go_loopw [131] (fun i wr => ∃ q : Nat, i = .int .i64 (q : Int) ∧ q ≤ j ∧ wr = w3) (fun i _ => j - (intOf i).toNat)
                          case atStart => exact ⟨0, rfl, Nat.zero_le _, rfl⟩
                          case round =>
                            obtain ⟨q, rfl, hq, rfl⟩ := hrel
                            by_cases hlt2 : (q : Int) < (j : Int)
                            · have x1 := R3.out.cell q (by have := L.out; omega)
                              rw [E.out q (by omega), show ((q + 5 : Nat) : Int) = (q : Int) + 5 by omega] at x1
                              go_wp2
                              go_roundw
                              case rel => exact ⟨q + 1, by go_num, by omega, by first | rfl | trivial⟩
                              case measure => simp [intOf]; omega
                            · obtain rfl : q = j := by omega
                              go_wp2_with fail
                              refine (mAtNo _ _ _ _ _ _ _ _ _ HR.out (by omega) HO2.out).mono ?_
                              rintro e w4 ⟨rfl, hb4⟩
                              have B4 : Hid (Below w.heap.size w w4) := bstep B3.out hb4
                              clear hb4
                              go_wp2
                              go_ret
                              exact ⟨ret_eq rfl, B4.out⟩
                        · have f2 : decide (a0 ≤ a4) = false := decide_eq_false o2
                          by_cases o3 : a5 < 0
                          · have f3 : decide (a5 < 0) = true := decide_eq_true o3
                            have hout : ¬ (0 ≤ a4 ∧ a4 < a0 ∧ 0 ≤ a5 ∧ a5 < a1) := by omega
                            go_wp2_with fail
                            have HO2 : Hid (¬ (0 ≤ a4 ∧ a4 < a0 ∧ 0 ≤ a5 ∧ a5 < a1)) := hout
                            clear hout
                            refine (mSetNo _ _ _ _ _ _ _ _ _ _ HR.out (by omega) HO2.out).mono ?_
                            rintro e w3 ⟨rfl, hb3⟩
                            have M3 : Hid (MBox _ _ _ _ _ _) := M2.out.below hb3
                            have R3 : Hid (RowU _ _ _) := R2.out.below hb3
                            have B3 : Hid (Below w.heap.size w w3) := bstep B2.out hb3
                            obtain ⟨t0, t1, t2, t3, t4⟩ := M3.out
                            clear hb3 q0 q1 q2 q3 q4 M2 R2 B2
                            go_wp2
                            go_loopw [131] (fun i wr => ∃ q : Nat, i = .int .i64 (q : Int) ∧ q ≤ j ∧ wr = w3) (fun i _ => j - (intOf i).toNat)
                            case atStart => exact ⟨0, rfl, Nat.zero_le _, rfl⟩
                            case round =>
                              obtain ⟨q, rfl, hq, rfl⟩ := hrel
                              by_cases hlt2 : (q : Int) < (j : Int)
                              · have x1 := R3.out.cell q (by have := L.out; omega)
                                rw [E.out q (by omega), show ((q + 5 : Nat) : Int) = (q : Int) + 5 by omega] at x1
                                go_wp2
                                go_roundw
                                case rel => exact ⟨q + 1, by go_num, by omega, by first | rfl | trivial⟩
                                case measure => simp [intOf]; omega
                              · obtain rfl : q = j := by omega
                                go_wp2_with fail
                                refine (mAtNo _ _ _ _ _ _ _ _ _ HR.out (by omega) HO2.out).mono ?_
                                rintro e w4 ⟨rfl, hb4⟩
                                have B4 : Hid (Below w.heap.size w w4) := bstep B3.out hb4
                                clear hb4
                                go_wp2
                                go_ret
                                exact ⟨ret_eq rfl, B4.out⟩
                          · have f3 : decide (a5 < 0) = false := decide_eq_false o3
                            by_cases o4 : a1 ≤ a5
                            · have f4 : decide (a1 ≤ a5) = true := decide_eq_true o4
                              have hout : ¬ (0 ≤ a4 ∧ a4 < a0 ∧ 0 ≤ a5 ∧ a5 < a1) := by omega
                              go_wp2_with fail
                              have HO2 : Hid (¬ (0 ≤ a4 ∧ a4 < a0 ∧ 0 ≤ a5 ∧ a5 < a1)) := hout
                              clear hout
                              refine (mSetNo _ _ _ _ _ _ _ _ _ _ HR.out (by omega) HO2.out).mono ?_
                              rintro e w3 ⟨rfl, hb3⟩
                              have M3 : Hid (MBox _ _ _ _ _ _) := M2.out.below hb3
                              have R3 : Hid (RowU _ _ _) := R2.out.below hb3
                              have B3 : Hid (Below w.heap.size w w3) := bstep B2.out hb3
                              obtain ⟨t0, t1, t2, t3, t4⟩ := M3.out
                              clear hb3 q0 q1 q2 q3 q4 M2 R2 B2
                              go_wp2
                              go_loopw [131] (fun i wr => ∃ q : Nat, i = .int .i64 (q : Int) ∧ q ≤ j ∧ wr = w3) (fun i _ => j - (intOf i).toNat)
                              case atStart => exact ⟨0, rfl, Nat.zero_le _, rfl⟩
                              case round =>
                                obtain ⟨q, rfl, hq, rfl⟩ := hrel
                                by_cases hlt2 : (q : Int) < (j : Int)
                                · have x1 := R3.out.cell q (by have := L.out; omega)
                                  rw [E.out q (by omega), show ((q + 5 : Nat) : Int) = (q : Int) + 5 by omega] at x1
                                  go_wp2
                                  go_roundw
                                  case rel => exact ⟨q + 1, by go_num, by omega, by first | rfl | trivial⟩
                                  case measure => simp [intOf]; omega
                                · obtain rfl : q = j := by omega
                                  go_wp2_with fail
                                  refine (mAtNo _ _ _ _ _ _ _ _ _ HR.out (by omega) HO2.out).mono ?_
                                  rintro e w4 ⟨rfl, hb4⟩
                                  have B4 : Hid (Below w.heap.size w w4) := bstep B3.out hb4
                                  clear hb4
                                  go_wp2
                                  go_ret
                                  exact ⟨ret_eq rfl, B4.out⟩
                            · have f4 : decide (a1 ≤ a5) = false := decide_eq_false o4
                              have hin : Hid (0 ≤ a4 ∧ a4 < a0 ∧ 0 ≤ a5 ∧ a5 < a1) := ⟨by omega, by omega, by omega, by omega⟩
                              obtain ⟨u0, u1, u2⟩ := HR.out.at a4 a5 (by omega) (by omega) (by omega) (by omega)
                              obtain ⟨Q, hQ⟩ : ∃ Q : Nat, a4 * a2 + a5 = (Q : Int) := ⟨(a4 * a2 + a5).toNat, by omega⟩
                              obtain ⟨A, hA⟩ : ∃ A, a4 * a2 = A := ⟨_, rfl⟩
                              have hw1 : IntKind.i64.wrap (a4 * a2) = A := by rw [IntKind.wrap_i64, hA]; omega
                              have HQ : Hid ((a4 * a2 + a5).toNat = Q) := by show _ = _; omega
                              rw [hA] at u0 u1 u2 hQ
                              have hw2 : IntKind.i64.wrap (A + a5) = (Q : Int) := by rw [IntKind.wrap_i64, hQ]; omega
                              have hQj : (Q : Int) < (j : Int) := by omega
                              clear hA hQ
                              have U2 : Hid (URow w2 (some ⟨g, 0, none⟩) j j (fun q : Nat => xs[q]?.getD 0)) := by
                                have := R2.out.row (by have := L.out; omega) (fun q => I.out.get q)
                                rw [L.out] at this
                                exact this
                              have EQ : Hid (xs[Q]?.getD 0 = (Q : Int) + 5) := by
                                have := E.out Q (by omega)
                                show _ = _
                                omega
                              go_wp2_with fail
                              refine (mAt _ _ _ _ _ _ (fun q : Nat => xs[q]?.getD 0) _ _ _ HR.out U2.out hin.out).mono ?_
                              rintro e w3 ⟨rfl, hb3⟩
                              simp only [HQ.out, EQ.out]
                              have M3 : Hid (MBox _ _ _ _ _ _) := M2.out.below hb3
                              have R3 : Hid (RowU _ _ _) := R2.out.below hb3
                              have B3 : Hid (Below w.heap.size w w3) := bstep B2.out hb3
                              obtain ⟨t0, t1, t2, t3, t4⟩ := M3.out
                              clear hb3 q0 q1 q2 q3 q4 M2 R2 B2 U2
                              go_wp2_with fail
                              refine (mSet _ _ _ _ _ _ xs _ _ _ _ HR.out R3.out L.out (Nat.le_refl _) (by omega) hin.out).mono ?_
                              rintro e w4 ⟨rfl, hR4, hB4⟩
                              rw [HQ.out] at hR4
                              have M4 : Hid (MBox _ _ _ _ _ _) := M3.out.bes hB4 (ne_some (by omega))
                              have R4 : Hid (RowU w4 g (xs.set Q 3)) := hR4
                              have B4 : Hid (Below w.heap.size w w4) := B3.out.trans (hB4.below _ B3.out.size (fun k e => by injection e with e; have := HG.out; omega))
                              have L4 : Hid ((xs.set Q 3).length = j) := by show _ = _; rw [List.length_set]; exact L.out
                              have V4 : Hid ((xs.set Q 3)[Q]?.getD 0 = 3) := by
                                show _ = _
                                rw [List.getElem?_set, if_pos rfl, if_pos (by have := L.out; omega)]
                                rfl
                              obtain ⟨v0, v1, v2, v3, v4⟩ := M4.out
                              have U4 : Hid (URow w4 (some ⟨g, 0, none⟩) j j (fun q : Nat => (xs.set Q 3)[q]?.getD 0)) := by
                                have := R4.out.row (by have := L4.out; omega) (fun q => (I.out.set Q 3 (by decide) (by decide)).get q)
                                rw [L4.out] at this
                                exact this
                              clear hR4 hB4 t0 t1 t2 t3 t4 M3 R3 B3
                              go_wp2_with fail
                              refine (mAt _ _ _ _ _ _ (fun q : Nat => (xs.set Q 3)[q]?.getD 0) _ _ _ HR.out U4.out hin.out).mono ?_
                              rintro e w5 ⟨rfl, hb5⟩
                              simp only [HQ.out, V4.out]
                              obtain ⟨y0, y1, y2, y3, y4⟩ := M4.out.below hb5
                              have x5 := (R4.out.below hb5).cell Q (by have := L4.out; omega)
                              rw [V4.out] at x5
                              have B5 : Hid (Below w.heap.size w w5) := bstep B4.out hb5
                              clear hb5 v0 v1 v2 v3 v4
                              go_wp2
                              go_ret
                              exact ⟨ret_eq rfl, B5.out⟩
                    · have e3 : decide (P ≤ (j : Int) - a1) = false := decide_eq_false h7
                      have HN : Hid (¬ Rgt a0 a1 a2 j) := fun h => by obtain ⟨h1, h2, h3, h4, h5, h6, h7⟩ := h; rw [HP.out] at h7; omega
                      go_wp2_with fail
                      refine (mCheck _ _ _ _ _ _ _ (by omega) (by omega)).mono ?_
                      rintro e w2 ⟨⟨_, hR⟩ | ⟨rfl, _⟩, hb2⟩
                      · exact absurd hR HN.out
                      · obtain ⟨q0, q1, q2, q3, q4⟩ := M.out.below hb2
                        have B2 : Hid (Below w.heap.size w w2) := bstep B.out hb2
                        clear hb2 p0 p1 p2 p3 p4
                        go_wp2_with fail
                        refine (mCutBad _ _ _ _ _ _ _ _ _ _ _ (by omega) (by omega) HN.out).mono ?_
                        rintro e w3 ⟨rfl, hb3⟩
                        have B3 : Hid (Below w.heap.size w w3) := bstep B2.out hb3
                        have hz3 := B3.out.size
                        clear hb3
                        go_wp2
                        go_ret
                        exact ⟨ret_eq rfl, B3.out.alloc (by omega) _⟩
                  · have HR : Hid (Rgt a0 a1 a2 j) := ⟨h0, h1, h2, h3, h4, h5, by omega⟩
                    by_cases ha : 0 < a0
                    · have e1 : decide ((0 : Int) < a0) = true := decide_eq_true ha
                      have e2 : decide ((0 : Int) < a1) = false := decide_eq_false (by omega)
                      go_wp2_with fail
                      refine (mCheck _ _ _ _ _ _ _ (by omega) (by omega)).mono ?_
                      rintro e w2 ⟨hh, hb2⟩
                      obtain rfl : e = .returned (.int .i64 0) := by
                        rcases hh with ⟨h, _⟩ | ⟨_, hN⟩
                        · exact h
                        · exact absurd HR.out hN
                      clear hh
                      have M2 : Hid (MBox _ _ _ _ _ _) := M.out.below hb2
                      have R2 : Hid (RowU _ _ _) := R.out.below hb2
                      have B2 : Hid (Below w.heap.size w w2) := bstep B.out hb2
                      obtain ⟨q0, q1, q2, q3, q4⟩ := M2.out
                      clear hb2 p0 p1 p2 p3 p4 M R B
                      have hout : ¬ (0 ≤ a4 ∧ a4 < a0 ∧ 0 ≤ a5 ∧ a5 < a1) := by omega
                      by_cases o1 : a4 < 0
                      · have f1 : decide (a4 < 0) = true := decide_eq_true o1
                        go_wp2_with fail
                        have HO2 : Hid (¬ (0 ≤ a4 ∧ a4 < a0 ∧ 0 ≤ a5 ∧ a5 < a1)) := hout
                        clear hout
                        refine (mSetNo _ _ _ _ _ _ _ _ _ _ HR.out (by omega) HO2.out).mono ?_
                        rintro e w3 ⟨rfl, hb3⟩
                        have M3 : Hid (MBox _ _ _ _ _ _) := M2.out.below hb3
                        have R3 : Hid (RowU _ _ _) := R2.out.below hb3
                        have B3 : Hid (Below w.heap.size w w3) := bstep B2.out hb3
                        obtain ⟨t0, t1, t2, t3, t4⟩ := M3.out
                        clear hb3 q0 q1 q2 q3 q4 M2 R2 B2
                        go_wp2
                        go_loopw [131] (fun i wr => ∃ q : Nat, i = .int .i64 (q : Int) ∧ q ≤ j ∧ wr = w3) (fun i _ => j - (intOf i).toNat)
                        case atStart => exact ⟨0, rfl, Nat.zero_le _, rfl⟩
                        case round =>
                          obtain ⟨q, rfl, hq, rfl⟩ := hrel
                          by_cases hlt2 : (q : Int) < (j : Int)
                          · have x1 := R3.out.cell q (by have := L.out; omega)
                            rw [E.out q (by omega), show ((q + 5 : Nat) : Int) = (q : Int) + 5 by omega] at x1
                            go_wp2
                            go_roundw
                            case rel => exact ⟨q + 1, by go_num, by omega, by first | rfl | trivial⟩
                            case measure => simp [intOf]; omega
                          · obtain rfl : q = j := by omega
                            go_wp2_with fail
                            refine (mAtNo _ _ _ _ _ _ _ _ _ HR.out (by omega) HO2.out).mono ?_
                            rintro e w4 ⟨rfl, hb4⟩
                            have B4 : Hid (Below w.heap.size w w4) := bstep B3.out hb4
                            clear hb4
                            go_wp2
                            go_ret
                            exact ⟨ret_eq rfl, B4.out⟩
                      · have f1 : decide (a4 < 0) = false := decide_eq_false o1
                        by_cases o2 : a0 ≤ a4
                        · have f2 : decide (a0 ≤ a4) = true := decide_eq_true o2
                          go_wp2_with fail
                          have HO2 : Hid (¬ (0 ≤ a4 ∧ a4 < a0 ∧ 0 ≤ a5 ∧ a5 < a1)) := hout
                          clear hout
                          refine (mSetNo _ _ _ _ _ _ _ _ _ _ HR.out (by omega) HO2.out).mono ?_
                          rintro e w3 ⟨rfl, hb3⟩
                          have M3 : Hid (MBox _ _ _ _ _ _) := M2.out.below hb3
                          have R3 : Hid (RowU _ _ _) := R2.out.below hb3
                          have B3 : Hid (Below w.heap.size w w3) := bstep B2.out hb3
                          obtain ⟨t0, t1, t2, t3, t4⟩ := M3.out
                          clear hb3 q0 q1 q2 q3 q4 M2 R2 B2
                          go_wp2
                          go_loopw [131] (fun i wr => ∃ q : Nat, i = .int .i64 (q : Int) ∧ q ≤ j ∧ wr = w3) (fun i _ => j - (intOf i).toNat)
                          case atStart => exact ⟨0, rfl, Nat.zero_le _, rfl⟩
                          case round =>
                            obtain ⟨q, rfl, hq, rfl⟩ := hrel
                            by_cases hlt2 : (q : Int) < (j : Int)
                            · have x1 := R3.out.cell q (by have := L.out; omega)
                              rw [E.out q (by omega), show ((q + 5 : Nat) : Int) = (q : Int) + 5 by omega] at x1
                              go_wp2
                              go_roundw
                              case rel => exact ⟨q + 1, by go_num, by omega, by first | rfl | trivial⟩
                              case measure => simp [intOf]; omega
                            · obtain rfl : q = j := by omega
                              go_wp2_with fail
                              refine (mAtNo _ _ _ _ _ _ _ _ _ HR.out (by omega) HO2.out).mono ?_
                              rintro e w4 ⟨rfl, hb4⟩
                              have B4 : Hid (Below w.heap.size w w4) := bstep B3.out hb4
                              clear hb4
                              go_wp2
                              go_ret
                              exact ⟨ret_eq rfl, B4.out⟩
                        · have f2 : decide (a0 ≤ a4) = false := decide_eq_false o2
                          by_cases o3 : a5 < 0
                          · have f3 : decide (a5 < 0) = true := decide_eq_true o3
                            go_wp2_with fail
                            have HO2 : Hid (¬ (0 ≤ a4 ∧ a4 < a0 ∧ 0 ≤ a5 ∧ a5 < a1)) := hout
                            clear hout
                            refine (mSetNo _ _ _ _ _ _ _ _ _ _ HR.out (by omega) HO2.out).mono ?_
                            rintro e w3 ⟨rfl, hb3⟩
                            have M3 : Hid (MBox _ _ _ _ _ _) := M2.out.below hb3
                            have R3 : Hid (RowU _ _ _) := R2.out.below hb3
                            have B3 : Hid (Below w.heap.size w w3) := bstep B2.out hb3
                            obtain ⟨t0, t1, t2, t3, t4⟩ := M3.out
                            clear hb3 q0 q1 q2 q3 q4 M2 R2 B2
                            go_wp2
                            go_loopw [131] (fun i wr => ∃ q : Nat, i = .int .i64 (q : Int) ∧ q ≤ j ∧ wr = w3) (fun i _ => j - (intOf i).toNat)
                            case atStart => exact ⟨0, rfl, Nat.zero_le _, rfl⟩
                            case round =>
                              obtain ⟨q, rfl, hq, rfl⟩ := hrel
                              by_cases hlt2 : (q : Int) < (j : Int)
                              · have x1 := R3.out.cell q (by have := L.out; omega)
                                rw [E.out q (by omega), show ((q + 5 : Nat) : Int) = (q : Int) + 5 by omega] at x1
                                go_wp2
                                go_roundw
                                case rel => exact ⟨q + 1, by go_num, by omega, by first | rfl | trivial⟩
                                case measure => simp [intOf]; omega
                              · obtain rfl : q = j := by omega
                                go_wp2_with fail
                                refine (mAtNo _ _ _ _ _ _ _ _ _ HR.out (by omega) HO2.out).mono ?_
                                rintro e w4 ⟨rfl, hb4⟩
                                have B4 : Hid (Below w.heap.size w w4) := bstep B3.out hb4
                                clear hb4
                                go_wp2
                                go_ret
                                exact ⟨ret_eq rfl, B4.out⟩
                          · have f3 : decide (a5 < 0) = false := decide_eq_false o3
                            have f4 : decide (a1 ≤ a5) = true := decide_eq_true (by omega)
                            go_wp2_with fail
                            have HO2 : Hid (¬ (0 ≤ a4 ∧ a4 < a0 ∧ 0 ≤ a5 ∧ a5 < a1)) := hout
                            clear hout
                            refine (mSetNo _ _ _ _ _ _ _ _ _ _ HR.out (by omega) HO2.out).mono ?_
                            rintro e w3 ⟨rfl, hb3⟩
                            have M3 : Hid (MBox _ _ _ _ _ _) := M2.out.below hb3
                            have R3 : Hid (RowU _ _ _) := R2.out.below hb3
                            have B3 : Hid (Below w.heap.size w w3) := bstep B2.out hb3
                            obtain ⟨t0, t1, t2, t3, t4⟩ := M3.out
                            clear hb3 q0 q1 q2 q3 q4 M2 R2 B2
                            go_wp2
                            go_loopw [131] (fun i wr => ∃ q : Nat, i = .int .i64 (q : Int) ∧ q ≤ j ∧ wr = w3) (fun i _ => j - (intOf i).toNat)
                            case atStart => exact ⟨0, rfl, Nat.zero_le _, rfl⟩
                            case round =>
                              obtain ⟨q, rfl, hq, rfl⟩ := hrel
                              by_cases hlt2 : (q : Int) < (j : Int)
                              · have x1 := R3.out.cell q (by have := L.out; omega)
                                rw [E.out q (by omega), show ((q + 5 : Nat) : Int) = (q : Int) + 5 by omega] at x1
                                go_wp2
                                go_roundw
                                case rel => exact ⟨q + 1, by go_num, by omega, by first | rfl | trivial⟩
                                case measure => simp [intOf]; omega
                              · obtain rfl : q = j := by omega
                                go_wp2_with fail
                                refine (mAtNo _ _ _ _ _ _ _ _ _ HR.out (by omega) HO2.out).mono ?_
                                rintro e w4 ⟨rfl, hb4⟩
                                have B4 : Hid (Below w.heap.size w w4) := bstep B3.out hb4
                                clear hb4
                                go_wp2
                                go_ret
                                exact ⟨ret_eq rfl, B4.out⟩
                    · have e1 : decide ((0 : Int) < a0) = false := decide_eq_false ha
                      go_wp2_with fail
                      refine (mCheck _ _ _ _ _ _ _ (by omega) (by omega)).mono ?_
                      rintro e w2 ⟨hh, hb2⟩
                      obtain rfl : e = .returned (.int .i64 0) := by
                        rcases hh with ⟨h, _⟩ | ⟨_, hN⟩
                        · exact h
                        · exact absurd HR.out hN
                      clear hh
                      have M2 : Hid (MBox _ _ _ _ _ _) := M.out.below hb2
                      have R2 : Hid (RowU _ _ _) := R.out.below hb2
                      have B2 : Hid (Below w.heap.size w w2) := bstep B.out hb2
                      obtain ⟨q0, q1, q2, q3, q4⟩ := M2.out
                      clear hb2 p0 p1 p2 p3 p4 M R B
                      have hout : ¬ (0 ≤ a4 ∧ a4 < a0 ∧ 0 ≤ a5 ∧ a5 < a1) := by omega
                      by_cases o1 : a4 < 0
                      · have f1 : decide (a4 < 0) = true := decide_eq_true o1
                        go_wp2_with fail
                        have HO2 : Hid (¬ (0 ≤ a4 ∧ a4 < a0 ∧ 0 ≤ a5 ∧ a5 < a1)) := hout
                        clear hout
                        refine (mSetNo _ _ _ _ _ _ _ _ _ _ HR.out (by omega) HO2.out).mono ?_
                        rintro e w3 ⟨rfl, hb3⟩
                        have M3 : Hid (MBox _ _ _ _ _ _) := M2.out.below hb3
                        have R3 : Hid (RowU _ _ _) := R2.out.below hb3
                        have B3 : Hid (Below w.heap.size w w3) := bstep B2.out hb3
                        obtain ⟨t0, t1, t2, t3, t4⟩ := M3.out
                        clear hb3 q0 q1 q2 q3 q4 M2 R2 B2
                        go_wp2
                        go_loopw [131] (fun i wr => ∃ q : Nat, i = .int .i64 (q : Int) ∧ q ≤ j ∧ wr = w3) (fun i _ => j - (intOf i).toNat)
                        case atStart => exact ⟨0, rfl, Nat.zero_le _, rfl⟩
                        case round =>
                          obtain ⟨q, rfl, hq, rfl⟩ := hrel
                          by_cases hlt2 : (q : Int) < (j : Int)
                          · have x1 := R3.out.cell q (by have := L.out; omega)
                            rw [E.out q (by omega), show ((q + 5 : Nat) : Int) = (q : Int) + 5 by omega] at x1
                            go_wp2
                            go_roundw
                            case rel => exact ⟨q + 1, by go_num, by omega, by first | rfl | trivial⟩
                            case measure => simp [intOf]; omega
                          · obtain rfl : q = j := by omega
                            go_wp2_with fail
                            refine (mAtNo _ _ _ _ _ _ _ _ _ HR.out (by omega) HO2.out).mono ?_
                            rintro e w4 ⟨rfl, hb4⟩
                            have B4 : Hid (Below w.heap.size w w4) := bstep B3.out hb4
                            clear hb4
                            go_wp2
                            go_ret
                            exact ⟨ret_eq rfl, B4.out⟩
                      · have f1 : decide (a4 < 0) = false := decide_eq_false o1
                        by_cases o2 : a0 ≤ a4
                        · have f2 : decide (a0 ≤ a4) = true := decide_eq_true o2
                          go_wp2_with fail
                          have HO2 : Hid (¬ (0 ≤ a4 ∧ a4 < a0 ∧ 0 ≤ a5 ∧ a5 < a1)) := hout
                          clear hout
                          refine (mSetNo _ _ _ _ _ _ _ _ _ _ HR.out (by omega) HO2.out).mono ?_
                          rintro e w3 ⟨rfl, hb3⟩
                          have M3 : Hid (MBox _ _ _ _ _ _) := M2.out.below hb3
                          have R3 : Hid (RowU _ _ _) := R2.out.below hb3
                          have B3 : Hid (Below w.heap.size w w3) := bstep B2.out hb3
                          obtain ⟨t0, t1, t2, t3, t4⟩ := M3.out
                          clear hb3 q0 q1 q2 q3 q4 M2 R2 B2
                          go_wp2
                          go_loopw [131] (fun i wr => ∃ q : Nat, i = .int .i64 (q : Int) ∧ q ≤ j ∧ wr = w3) (fun i _ => j - (intOf i).toNat)
                          case atStart => exact ⟨0, rfl, Nat.zero_le _, rfl⟩
                          case round =>
                            obtain ⟨q, rfl, hq, rfl⟩ := hrel
                            by_cases hlt2 : (q : Int) < (j : Int)
                            · have x1 := R3.out.cell q (by have := L.out; omega)
                              rw [E.out q (by omega), show ((q + 5 : Nat) : Int) = (q : Int) + 5 by omega] at x1
                              go_wp2
                              go_roundw
                              case rel => exact ⟨q + 1, by go_num, by omega, by first | rfl | trivial⟩
                              case measure => simp [intOf]; omega
                            · obtain rfl : q = j := by omega
                              go_wp2_with fail
                              refine (mAtNo _ _ _ _ _ _ _ _ _ HR.out (by omega) HO2.out).mono ?_
                              rintro e w4 ⟨rfl, hb4⟩
                              have B4 : Hid (Below w.heap.size w w4) := bstep B3.out hb4
                              clear hb4
                              go_wp2
                              go_ret
                              exact ⟨ret_eq rfl, B4.out⟩
                        · exact absurd h0 (by omega)
                · have d6 : decide (a2 ≤ 1099511627776) = false := decide_eq_false (by omega)
                  have HN : Hid (¬ Rgt a0 a1 a2 j) := fun h => by obtain ⟨h1, h2, h3, h4, h5, h6, h7⟩ := h; omega
                  go_wp2_with fail
                  refine (mCheck _ _ _ _ _ _ _ (by omega) (by omega)).mono ?_
                  rintro e w2 ⟨⟨_, hR⟩ | ⟨rfl, _⟩, hb2⟩
                  · exact absurd hR HN.out
                  · obtain ⟨q0, q1, q2, q3, q4⟩ := M.out.below hb2
                    have B2 : Hid (Below w.heap.size w w2) := bstep B.out hb2
                    clear hb2 p0 p1 p2 p3 p4
                    go_wp2_with fail
                    refine (mCutBad _ _ _ _ _ _ _ _ _ _ _ (by omega) (by omega) HN.out).mono ?_
                    rintro e w3 ⟨rfl, hb3⟩
                    have B3 : Hid (Below w.heap.size w w3) := bstep B2.out hb3
                    have hz3 := B3.out.size
                    clear hb3
                    go_wp2
                    go_ret
                    exact ⟨ret_eq rfl, B3.out.alloc (by omega) _⟩
              · have d5 : decide (a1 ≤ a2) = false := decide_eq_false (by omega)
                have HN : Hid (¬ Rgt a0 a1 a2 j) := fun h => by obtain ⟨h1, h2, h3, h4, h5, h6, h7⟩ := h; omega
                go_wp2_with fail
                refine (mCheck _ _ _ _ _ _ _ (by omega) (by omega)).mono ?_
                rintro e w2 ⟨⟨_, hR⟩ | ⟨rfl, _⟩, hb2⟩
                · exact absurd hR HN.out
                · obtain ⟨q0, q1, q2, q3, q4⟩ := M.out.below hb2
                  have B2 : Hid (Below w.heap.size w w2) := bstep B.out hb2
                  clear hb2 p0 p1 p2 p3 p4
                  go_wp2_with fail
                  refine (mCutBad _ _ _ _ _ _ _ _ _ _ _ (by omega) (by omega) HN.out).mono ?_
                  rintro e w3 ⟨rfl, hb3⟩
                  have B3 : Hid (Below w.heap.size w w3) := bstep B2.out hb3
                  have hz3 := B3.out.size
                  clear hb3
                  go_wp2
                  go_ret
                  exact ⟨ret_eq rfl, B3.out.alloc (by omega) _⟩
            · have d4 : decide (a1 ≤ 4096) = false := decide_eq_false (by omega)
              have HN : Hid (¬ Rgt a0 a1 a2 j) := fun h => by obtain ⟨h1, h2, h3, h4, h5, h6, h7⟩ := h; omega
              go_wp2_with fail
              refine (mCheck _ _ _ _ _ _ _ (by omega) (by omega)).mono ?_
              rintro e w2 ⟨⟨_, hR⟩ | ⟨rfl, _⟩, hb2⟩
              · exact absurd hR HN.out
              · obtain ⟨q0, q1, q2, q3, q4⟩ := M.out.below hb2
                have B2 : Hid (Below w.heap.size w w2) := bstep B.out hb2
                clear hb2 p0 p1 p2 p3 p4
                go_wp2_with fail
                refine (mCutBad _ _ _ _ _ _ _ _ _ _ _ (by omega) (by omega) HN.out).mono ?_
                rintro e w3 ⟨rfl, hb3⟩
                have B3 : Hid (Below w.heap.size w w3) := bstep B2.out hb3
                have hz3 := B3.out.size
                clear hb3
                go_wp2
                go_ret
                exact ⟨ret_eq rfl, B3.out.alloc (by omega) _⟩
          · have d3 : decide ((0 : Int) ≤ a1) = false := decide_eq_false (by omega)
            have HN : Hid (¬ Rgt a0 a1 a2 j) := fun h => by obtain ⟨h1, h2, h3, h4, h5, h6, h7⟩ := h; omega
            go_wp2_with fail
            refine (mCheck _ _ _ _ _ _ _ (by omega) (by omega)).mono ?_
            rintro e w2 ⟨⟨_, hR⟩ | ⟨rfl, _⟩, hb2⟩
            · exact absurd hR HN.out
            · obtain ⟨q0, q1, q2, q3, q4⟩ := M.out.below hb2
              have B2 : Hid (Below w.heap.size w w2) := bstep B.out hb2
              clear hb2 p0 p1 p2 p3 p4
              go_wp2_with fail
              refine (mCutBad _ _ _ _ _ _ _ _ _ _ _ (by omega) (by omega) HN.out).mono ?_
              rintro e w3 ⟨rfl, hb3⟩
              have B3 : Hid (Below w.heap.size w w3) := bstep B2.out hb3
              have hz3 := B3.out.size
              clear hb3
              go_wp2
              go_ret
              exact ⟨ret_eq rfl, B3.out.alloc (by omega) _⟩
        · have d2 : decide (a0 ≤ 4096) = false := decide_eq_false (by omega)
          have HN : Hid (¬ Rgt a0 a1 a2 j) := fun h => by obtain ⟨h1, h2, h3, h4, h5, h6, h7⟩ := h; omega
          go_wp2_with fail
          refine (mCheck _ _ _ _ _ _ _ (by omega) (by omega)).mono ?_
          rintro e w2 ⟨⟨_, hR⟩ | ⟨rfl, _⟩, hb2⟩
          · exact absurd hR HN.out
          · obtain ⟨q0, q1, q2, q3, q4⟩ := M.out.below hb2
            have B2 : Hid (Below w.heap.size w w2) := bstep B.out hb2
            clear hb2 p0 p1 p2 p3 p4
            go_wp2_with fail
            refine (mCutBad _ _ _ _ _ _ _ _ _ _ _ (by omega) (by omega) HN.out).mono ?_
            rintro e w3 ⟨rfl, hb3⟩
            have B3 : Hid (Below w.heap.size w w3) := bstep B2.out hb3
            have hz3 := B3.out.size
            clear hb3
            go_wp2
            go_ret
            exact ⟨ret_eq rfl, B3.out.alloc (by omega) _⟩
      · have d1 : decide ((0 : Int) ≤ a0) = false := decide_eq_false (by omega)
        have HN : Hid (¬ Rgt a0 a1 a2 j) := fun h => by obtain ⟨h1, h2, h3, h4, h5, h6, h7⟩ := h; omega
        go_wp2_with fail
        refine (mCheck _ _ _ _ _ _ _ (by omega) (by omega)).mono ?_
        rintro e w2 ⟨⟨_, hR⟩ | ⟨rfl, _⟩, hb2⟩
        · exact absurd hR HN.out
        · obtain ⟨q0, q1, q2, q3, q4⟩ := M.out.below hb2
          have B2 : Hid (Below w.heap.size w w2) := bstep B.out hb2
          clear hb2 p0 p1 p2 p3 p4
          go_wp2_with fail
          refine (mCutBad _ _ _ _ _ _ _ _ _ _ _ (by omega) (by omega) HN.out).mono ?_
          rintro e w3 ⟨rfl, hb3⟩
          have B3 : Hid (Below w.heap.size w w3) := bstep B2.out hb3
          have hz3 := B3.out.size
          clear hb3
          go_wp2
          go_ret
          exact ⟨ret_eq rfl, B3.out.alloc (by omega) _⟩

/-! ### THE ROW's STEP -/
set_option maxRecDepth 100000 in
theorem lifted (os : Os) (started : os.Started) (H : Type) (enc : TypeId × Value → H) :
    ReturnsInHanded {} Try.checked os 3 .any (Rows.matChecksSpec.pre6 enc Try.prog Try.f3 Rows.matChecksRow.domain false) (Rows.matChecksSpec.post enc Try.prog Try.f3 false true false false) := by
  refine returnsInHanded_of_change (C := Try.checked) own started (by kernel_rfl) Try.func3
    (ChangeSpec.witness6 (enc := enc) (C := Try.checked) false ⟨#[], #[.int .i64 0, .int .i64 0, .int .i64 0, .int .i64 0, .int .i64 0, .int .i64 0], []⟩ 8 (by kernel_rfl) (by kernel_rfl) (by kernel_rfl) (by kernel_rfl)) ?_
  intro W base args ds gs before hval0 hW hcnd _
  have hval : ∀ (j : Nat) t v, Try.f3.params[j]? = some t → args[j]? = some v → Value.okWide Try.prog W .any base t v := hval0
  have hW' := hW
  obtain ⟨p, q, hA0, hV, rfl, hfz, hnd⟩ := hW
  have hA : DataW.TrodAll enc Try.prog W 0 (fun _ => true) true Try.f3.params.toList args.toList ds p := hA0
  rw [Try.params3] at hA hval
  obtain ⟨v0, vs0, d0, ds0, p0, q0, hargs, rfl, rfl, h0, r0⟩ := trodAll_cons hA
  obtain ⟨v1, vs1, d1, ds1, p1, q1, rfl, rfl, rfl, h1, r1⟩ := trodAll_cons r0
  obtain ⟨v2, vs2, d2, ds2, p2, q2, rfl, rfl, rfl, h2, r2⟩ := trodAll_cons r1
  obtain ⟨v3, vs3, d3, ds3, p3, q3, rfl, rfl, rfl, h3, r3⟩ := trodAll_cons r2
  obtain ⟨v4, vs4, d4, ds4, p4, q4, rfl, rfl, rfl, h4, r4⟩ := trodAll_cons r3
  obtain ⟨v5, vs5, d5, ds5, p5, q5, rfl, rfl, rfl, h5, r5⟩ := trodAll_cons r4
  obtain ⟨rfl, rfl, rfl⟩ := trodAll_nil r5
  obtain rfl : args = #[v0, v1, v2, v3, v4, v5] := by cases args; simp_all
  obtain ⟨rfl, rfl⟩ := trodVars_none hV
  obtain ⟨a0, rfl, rfl, rfl, w0⟩ := open_int Try.underlying3 (hval 0 3 v0 rfl rfl) h0
  obtain ⟨a1, rfl, rfl, rfl, w1⟩ := open_int Try.underlying3 (hval 1 3 v1 rfl rfl) h1
  obtain ⟨a2, rfl, rfl, rfl, w2⟩ := open_int Try.underlying3 (hval 2 3 v2 rfl rfl) h2
  obtain ⟨a3, rfl, rfl, rfl, w3⟩ := open_int Try.underlying3 (hval 3 3 v3 rfl rfl) h3
  obtain ⟨a4, rfl, rfl, rfl, w4⟩ := open_int Try.underlying3 (hval 4 3 v4 rfl rfl) h4
  obtain ⟨a5, rfl, rfl, rfl, w5⟩ := open_int Try.underlying3 (hval 5 3 v5 rfl rfl) h5
  clear hA0 hval0
  refine (walk a0 a1 a2 a3 a4 a5 W w0 w1 w2 w3 w4 w5).mono fun e W' ⟨he, bel⟩ => ?_
  subst he
  exact ⟨_, rfl, _, _, _, [], _, [], hW', trodAll_mk1 (shut_bool Try.underlying4 _), (trodAll_cons_mk (shut_int Try.underlying3 w0) (trodAll_cons_mk (shut_int Try.underlying3 w1) (trodAll_cons_mk (shut_int Try.underlying3 w2) (trodAll_cons_mk (shut_int Try.underlying3 w3) (trodAll_cons_mk (shut_int Try.underlying3 w4) (trodAll_cons_mk (shut_int Try.underlying3 w5) trodAll_mk0)))))), rfl, bel.frame _, fun h => by cases h⟩

theorem over : Rows.matChecksRow.holds Try.pinned (OpenSpec.ofChange Rows.matChecksSpec) :=
  OpenClaim.holds_of_wide 3 Try.f3 rfl rfl rfl rfl rfl rfl rfl ⟨rfl, rfl, rfl, rfl, rfl⟩ rfl rfl rfl rfl rfl (by kernel_rfl) Try.func3 (by kernel_rfl)
    (of_decide_eq_true (by kernel_rfl)) (by unfold Func.isWrapper; first | (rw [if_pos (by decide +kernel)]; kernel_rfl) | (rw [if_neg (by decide +kernel)]; exact ⟨rfl, rfl⟩))
    (fun os started H enc _ => lifted os started H enc)

/-- THE STATEMENT -/
theorem proved : Rows.MatChecksSaid :=
  over
#print axioms proved
end Go.Proofs.Ytokgfeeaoioegaa.matChecks
