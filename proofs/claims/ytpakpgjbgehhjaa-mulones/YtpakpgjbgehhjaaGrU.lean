/-
  Texts put together: MulH MulN.
-/
import Derived.Test.YtpakpgjbgehhjaaProg
import Derived.Test.YtpakpgjbgehhjaaGrS
import Derived.Test.YtpakpgjbgehhjaaGrQ
/-
  What the laws' own made, row and list return: a matrix of numbers again and again; a row of a matrix; a list. Conditions: at most 100 numbers; small sizes.
-/
namespace Go.Proofs.Ytpakpgjbgehhjaa
open Go.RowKit
set_option linter.unusedVariables false
set_option linter.unusedSimpArgs false

/-- What stands in place j of numbers again and again, from one on; z where there are none. -/
def mC (U : Nat → Int) (len f : Nat) (z : Int) (j : Nat) : Int := if 0 < len then U ((j + f) % len) else z
theorem mC_rng (U : Nat → Int) (len f : Nat) (z : Int) (hz : 0 ≤ z ∧ z < 18446744073709551616) (h : ∀ i, 0 ≤ U i ∧ U i < 18446744073709551616) (j : Nat) : 0 ≤ mC U len f z j ∧ mC U len f z j < 18446744073709551616 := by
  unfold mC
  split
  · exact h _
  · exact hz
/-- The first k of N numbers are Z's, the others 0. -/
def MkI (xs : List Int) (Z : Nat → Int) (N k : Nat) : Prop := xs.length = N ∧ ∀ i, i < N → xs[i]?.getD 0 = if i < k then Z i else 0
theorem MkI.new (Z : Nat → Int) (N : Nat) : MkI (List.replicate N 0) Z N 0 := ⟨List.length_replicate, fun i hi => by rw [if_neg (Nat.not_lt_zero _), List.getElem?_replicate, if_pos hi]; rfl⟩
theorem MkI.set {xs : List Int} {Z : Nat → Int} {N k : Nat} (h : MkI xs Z N k) (hk : k < N) (x : Int) (hx : x = Z k) : MkI (xs.set k x) Z N (k + 1) := by
  obtain ⟨h1, h2⟩ := h
  refine ⟨by rw [List.length_set]; exact h1, fun i hi => ?_⟩
  rw [List.getElem?_set]
  by_cases e : k = i
  · subst e
    rw [if_pos rfl, if_pos (by omega), if_pos (Nat.lt_succ_self _)]
    exact hx
  · rw [if_neg e, h2 i hi]
    by_cases g : i < k
    · rw [if_pos g, if_pos (by omega)]
    · rw [if_neg g, if_neg (by omega)]
theorem MkI.same {xs : List Int} {Z : Nat → Int} {N k : Nat} (h : MkI xs Z N k) (hz : Z k = 0) : MkI xs Z N (k + 1) := by
  obtain ⟨h1, h2⟩ := h
  refine ⟨h1, fun i hi => ?_⟩
  rw [h2 i hi]
  by_cases g : i < k
  · rw [if_pos g, if_pos (by omega)]
  · rw [if_neg g]
    by_cases e : i = k
    · rw [if_pos (by omega), e, hz]
    · rw [if_neg (by omega)]
theorem MkI.row {w : World} {g : Nat} {xs : List Int} {Z : Nat → Int} {N : Nat} (h : MkI xs Z N N) (hr : RowU w g xs) (hN : N ≤ 1000000) (hz : ∀ i, 0 ≤ Z i ∧ Z i < 18446744073709551616) : URow w (some ⟨g, 0, none⟩) N N Z := by
  obtain ⟨h1, h2⟩ := h
  refine ⟨Nat.le_refl _, by unfold maxLen; omega, hz, fun _ => ⟨g, 0, rfl, hr.lt, fun i hi => ?_⟩⟩
  rw [Nat.zero_add, hr.cell i (by omega), h2 i hi, if_pos hi]
/-- The world while made runs. -/
structure MdW (w wr : World) (R C N : Nat) (k9 g : Nat) (xs : List Int) : Prop where
  ans : WBox wr w.heap.size 0 0 0 (.slice none 0 0)
  m : MBox wr k9 (R : Int) (C : Int) (C : Int) (.slice (some ⟨g, 0, none⟩) N N)
  row : RowU wr g xs
  bel : Below w.heap.size w wr
theorem MdW.put {w wr wr' : World} {R C N k9 g : Nat} {xs ys : List Int} (h : MdW w wr R C N k9 g xs) (hb : Bes (some g) wr wr') (hr : RowU wr' g ys) (h1 : w.heap.size < g) (h2 : g ≠ k9) : MdW w wr' R C N k9 g ys :=
  ⟨h.ans.bes hb (ne_some (by omega)), h.m.bes hb (ne_some h2), hr, h.bel.trans (hb.below _ h.bel.size (fun k e => by injection e with e; omega))⟩
theorem rem_facts (x len : Nat) (hp : 0 < len) : ∃ Q, Q = x % len ∧ Q < len ∧ (x : Int).tmod (len : Int) = (Q : Int) ∧ (x : Int) % (len : Int) = (Q : Int) := by
  refine ⟨x % len, rfl, Nat.mod_lt _ hp, ?_, (Int.natCast_emod _ _).symm⟩
  rw [Int.tmod_eq_emod_of_nonneg (by omega)]
  exact (Int.natCast_emod _ _).symm
set_option maxHeartbeats 4000000 in
set_option maxRecDepth 100000 in
theorem lMade11 (R C f : Nat) (a : Option Addr) (len cap : Nat) (U : Nat → Int) (w : World) (hx : URow w a len cap U) (hl : len ≤ 100) (hR : R ≤ 8) (hC : C ≤ 8) (hf : f ≤ 8) :
    Calls Try.prog 12 #[.int .i64 (R : Int), .int .i64 (C : Int), .slice a len cap, .int .i64 (f : Int)] w fun e w' => ∃ g, e = .returned (.agg #[.int .i64 (R : Int), .int .i64 (C : Int), .int .i64 (C : Int), .slice (some ⟨g, 0, none⟩) (R * C) (R * C)]) ∧ w.heap.size ≤ g ∧ URow w' (some ⟨g, 0, none⟩) (R * C) (R * C) (mC U len f 0) ∧ Below w.heap.size w w' := by
  have HX : Hid (URow w a len cap U) := hx
  have HZ : Hid (∀ i, 0 ≤ mC U len f 0 i ∧ mC U len f 0 i < 18446744073709551616) := fun i => mC_rng U len f 0 (by decide) hx.2.2.1 i
  obtain ⟨lb, cb⟩ := hx.lenB
  clear hx
  have hRC : R * C ≤ 64 := Nat.mul_le_mul hR hC
  obtain ⟨N, hN⟩ : ∃ N, R * C = N := ⟨_, rfl⟩
  have HN : Hid (R * C = N) := hN
  rw [hN] at hRC ⊢
  clear hN
  go_enter Try.func12, Try.ntmps12
  go_wp2_with fail
  have wW := WBox.made w 0 0 0 (.slice none 0 0)
  have b0 : Below w.heap.size w (w.alloc (.cells #[.int .i64 0, .int .i64 0, .int .i64 0, .slice none 0 0] 26)) := bmore (Below.refl _ _) _
  generalize (w.alloc (.cells #[.int .i64 0, .int .i64 0, .int .i64 0, .slice none 0 0] 26)) = W0 at wW b0 ⊢
  refine (mNew R C W0 (by omega) (by omega) (by rw [HN.out]; omega)).mono ?_
  rintro e w1 ⟨rfl, _, hrow, hb1⟩
  obtain ⟨g, hg⟩ : ∃ g, g = W0.heap.size + 1 := ⟨_, rfl⟩
  rw [HN.out] at hrow ⊢
  rw [← hg] at hrow ⊢
  have z0 := wW.1.2.2.2.2
  have W1 : Hid (WBox _ _ _ _ _ _) := wW.below hb1
  have B1 : Hid (Below w.heap.size w w1) := bstep b0 hb1
  have R1 : Hid (RowU w1 g (List.replicate N 0)) := hrow
  have G1 : Hid (w.heap.size < g) := by show _ < _; omega
  have G2 : Hid (g < w1.heap.size) := hrow.lt
  clear hb1 b0 wW hrow hg z0
  go_upto_region 2 with fail
  have m9 := MBox.made w1 (R : Int) (C : Int) (C : Int) (.slice (some ⟨g, 0, none⟩) N N)
  have hb1 : Below w1.heap.size w1 (w1.alloc (.cells #[.int .i64 (R : Int), .int .i64 (C : Int), .int .i64 (C : Int), .slice (some ⟨g, 0, none⟩) N N] 26)) := bmore (Below.refl _ _) _
  generalize (w1.alloc (.cells #[.int .i64 (R : Int), .int .i64 (C : Int), .int .i64 (C : Int), .slice (some ⟨g, 0, none⟩) N N] 26)) = V at m9 hb1 ⊢
  obtain ⟨k9, hk9⟩ : ∃ k, k = w1.heap.size := ⟨_, rfl⟩
  rw [← hk9] at m9 ⊢
  have G3 : Hid (g ≠ k9) := by have := G2.out; show _ ≠ _; omega
  have D0 : Hid (MdW w V R C N k9 g (List.replicate N 0)) := ⟨W1.out.below hb1, m9, R1.out.below hb1, bstep B1.out hb1⟩
  have I0 : Hid (MkI (List.replicate N 0) (mC U len f 0) N 0) := MkI.new _ _
  clear hb1 m9 W1 B1 R1 G2 hk9
  obtain ⟨q0, q1, q2, q3, q4⟩ := D0.out.m
  go_wp2
  clear q0 q1 q2 q3 q4
  go_loopw [17] (fun i wr => ∃ (k : Nat) (xs : List Int), i = .int .i64 (k : Int) ∧ k ≤ N ∧ Hid (MdW w wr R C N k9 g xs) ∧ Hid (MkI xs (mC U len f 0) N k)) (fun i _ => N - (intOf i).toNat)
  case atStart => exact ⟨0, _, rfl, Nat.zero_le _, D0, I0⟩
  case round =>
    clear D0 I0
    obtain ⟨k, xs, rfl, hk, D, I⟩ := hrel
    obtain ⟨q0, q1, q2, q3, q4⟩ := D.out.m
    by_cases hlt : (k : Int) < (N : Int)
    · by_cases hp : 0 < len
      · obtain ⟨b, o, rfl, hb, hcell⟩ := HX.out.2.2.2 hp
        obtain ⟨Q, hQ, hQl, hq1, hq2⟩ := rem_facts (k + f) len hp
        obtain ⟨PM, hPM⟩ : ∃ PM, k + f = PM := ⟨_, rfl⟩
        have hw6 : IntKind.i64.wrap ((k : Int) + (f : Int)) = (PM : Int) := by rw [IntKind.wrap_i64]; omega
        have uD : mC U len f 0 k = U Q := by unfold mC; rw [if_pos hp, hQ]
        rw [hPM] at hQ hq1 hq2
        have hw8 : PM % len = Q := hQ.symm
        have hw9 : ¬ len = 0 := by omega
        have hw3 : (0 : Int) < (len : Int) := by omega
        have hw4 : ¬ (len : Int) = 0 := by omega
        have hw5 := rem_run (PM : Int) (len : Int) (Q : Int) (by omega) hw3 hq2
        have hQi : (Q : Int) < (len : Int) := by omega
        have hl0 : ((len : Int) == 0) = false := by rw [beq_eq_false_iff_ne]; omega
        have hbg : ¬ b = g := by have := G1.out; omega
        have hkg : ¬ k9 = g := fun e => G3.out e.symm
        have u1 := (D.out.bel.cell (p := ⟨b, o + Q, none⟩) hb).trans (hcell Q hQl)
        have x1 := D.out.row.cell k (by have := I.out.1; omega)
        have x2 := D.out.row.frozen k
        obtain ⟨u, hu⟩ : ∃ u, U Q = u := ⟨_, rfl⟩
        rw [hu] at u1 uD
        have UD : Hid (_ = _) := uD
        clear hcell hQ hu hPM uD
        go_wp2
        go_region_held3 (fun w' => (w'.cell? ⟨k9, 3, none⟩ = some (.slice (some ⟨g, 0, none⟩) N N)) ∧ w'.cell? ⟨b, o + Q, none⟩ = some (.int .u64 u)) (simp [go_sem, *]) (fail)
        go_wp2
        go_roundw
        case rel => exact ⟨k + 1, _, by go_num, by omega, D.out.put (Bes.put _ g k _).drew (D.out.row.set k _).drew G1.out G3.out, I.out.set (by omega) _ UD.out.symm⟩
        case measure => simp [intOf]; omega
      · obtain rfl : len = 0 := by omega
        go_wp2
        go_roundw
        case rel => exact ⟨k + 1, xs, by go_num, by omega, D, I.out.same (by unfold mC; rw [if_neg hp])⟩
        case measure => simp [intOf]; omega
    · obtain rfl : k = N := by omega
      obtain ⟨⟨v0, v1, v2, v3, v4⟩, v5⟩ := D.out.ans
      have y0 := v5 0
      have y1 := v5 1
      have y2 := v5 2
      have y3 := v5 3
      clear v5
      go_wp2
      refine bodyPost_ret (v := .agg #[.int .i64 (R : Int), .int .i64 (C : Int), .int .i64 (C : Int), .slice (some ⟨g, 0, none⟩) k k]) (by simp [results, Try.results12, go_sem, *]) rfl ?_
      have hP := bes_puts wr w.heap.size (.int .i64 (R : Int)) (.int .i64 (C : Int)) (.int .i64 (C : Int)) (.slice (some ⟨g, 0, none⟩) k k)
      have g1 := G1.out
      exact ⟨g, rfl, by omega, (I.out.row D.out.row (by omega) HZ.out).bes hP (Apt.ne (by omega)), Bes.old D.out.bel hP (Nat.le_refl _)⟩
set_option maxHeartbeats 4000000 in
set_option maxRecDepth 100000 in
theorem lMade12 (C f : Nat) (a : Option Addr) (len cap : Nat) (U : Nat → Int) (w : World) (hx : URow w a len cap U) (hl : len ≤ 100) (hC : C ≤ 8) (hf : f ≤ 8) :
    Calls Try.prog 38 #[.int .i64 (C : Int), .slice a len cap, .int .i64 (f : Int)] w fun e w' => ∃ g, e = .returned (.agg #[.int .i64 (C : Int), .int .i64 (C : Int), .int .i64 (C : Int), .slice (some ⟨g, 0, none⟩) (C * C) (C * C)]) ∧ w.heap.size ≤ g ∧ URow w' (some ⟨g, 0, none⟩) (C * C) (C * C) (mC U len f 0) ∧ Below w.heap.size w w' := by
  have HX : Hid (URow w a len cap U) := hx
  have HZ : Hid (∀ i, 0 ≤ mC U len f 0 i ∧ mC U len f 0 i < 18446744073709551616) := fun i => mC_rng U len f 0 (by decide) hx.2.2.1 i
  obtain ⟨lb, cb⟩ := hx.lenB
  clear hx
  have hRC : C * C ≤ 64 := Nat.mul_le_mul hC hC
  obtain ⟨N, hN⟩ : ∃ N, C * C = N := ⟨_, rfl⟩
  have HN : Hid (C * C = N) := hN
  rw [hN] at hRC ⊢
  clear hN
  go_enter Try.func38, Try.ntmps38
  go_wp2_with fail
  have wW := WBox.made w 0 0 0 (.slice none 0 0)
  have b0 : Below w.heap.size w (w.alloc (.cells #[.int .i64 0, .int .i64 0, .int .i64 0, .slice none 0 0] 26)) := bmore (Below.refl _ _) _
  generalize (w.alloc (.cells #[.int .i64 0, .int .i64 0, .int .i64 0, .slice none 0 0] 26)) = W0 at wW b0 ⊢
  refine (mNew C C W0 (by omega) (by omega) (by rw [HN.out]; omega)).mono ?_
  rintro e w1 ⟨rfl, _, hrow, hb1⟩
  obtain ⟨g, hg⟩ : ∃ g, g = W0.heap.size + 1 := ⟨_, rfl⟩
  rw [HN.out] at hrow ⊢
  rw [← hg] at hrow ⊢
  have z0 := wW.1.2.2.2.2
  have W1 : Hid (WBox _ _ _ _ _ _) := wW.below hb1
  have B1 : Hid (Below w.heap.size w w1) := bstep b0 hb1
  have R1 : Hid (RowU w1 g (List.replicate N 0)) := hrow
  have G1 : Hid (w.heap.size < g) := by show _ < _; omega
  have G2 : Hid (g < w1.heap.size) := hrow.lt
  clear hb1 b0 wW hrow hg z0
  go_upto_region 2 with fail
  have m9 := MBox.made w1 (C : Int) (C : Int) (C : Int) (.slice (some ⟨g, 0, none⟩) N N)
  have hb1 : Below w1.heap.size w1 (w1.alloc (.cells #[.int .i64 (C : Int), .int .i64 (C : Int), .int .i64 (C : Int), .slice (some ⟨g, 0, none⟩) N N] 26)) := bmore (Below.refl _ _) _
  generalize (w1.alloc (.cells #[.int .i64 (C : Int), .int .i64 (C : Int), .int .i64 (C : Int), .slice (some ⟨g, 0, none⟩) N N] 26)) = V at m9 hb1 ⊢
  obtain ⟨k9, hk9⟩ : ∃ k, k = w1.heap.size := ⟨_, rfl⟩
  rw [← hk9] at m9 ⊢
  have G3 : Hid (g ≠ k9) := by have := G2.out; show _ ≠ _; omega
  have D0 : Hid (MdW w V C C N k9 g (List.replicate N 0)) := ⟨W1.out.below hb1, m9, R1.out.below hb1, bstep B1.out hb1⟩
  have I0 : Hid (MkI (List.replicate N 0) (mC U len f 0) N 0) := MkI.new _ _
  clear hb1 m9 W1 B1 R1 G2 hk9
  obtain ⟨q0, q1, q2, q3, q4⟩ := D0.out.m
  go_wp2
  clear q0 q1 q2 q3 q4
  go_loopw [15] (fun i wr => ∃ (k : Nat) (xs : List Int), i = .int .i64 (k : Int) ∧ k ≤ N ∧ Hid (MdW w wr C C N k9 g xs) ∧ Hid (MkI xs (mC U len f 0) N k)) (fun i _ => N - (intOf i).toNat)
  case atStart => exact ⟨0, _, rfl, Nat.zero_le _, D0, I0⟩
  case round =>
    clear D0 I0
    obtain ⟨k, xs, rfl, hk, D, I⟩ := hrel
    obtain ⟨q0, q1, q2, q3, q4⟩ := D.out.m
    by_cases hlt : (k : Int) < (N : Int)
    · by_cases hp : 0 < len
      · obtain ⟨b, o, rfl, hb, hcell⟩ := HX.out.2.2.2 hp
        obtain ⟨Q, hQ, hQl, hq1, hq2⟩ := rem_facts (k + f) len hp
        obtain ⟨PM, hPM⟩ : ∃ PM, k + f = PM := ⟨_, rfl⟩
        have hw6 : IntKind.i64.wrap ((k : Int) + (f : Int)) = (PM : Int) := by rw [IntKind.wrap_i64]; omega
        have uD : mC U len f 0 k = U Q := by unfold mC; rw [if_pos hp, hQ]
        rw [hPM] at hQ hq1 hq2
        have hw8 : PM % len = Q := hQ.symm
        have hw9 : ¬ len = 0 := by omega
        have hw3 : (0 : Int) < (len : Int) := by omega
        have hw4 : ¬ (len : Int) = 0 := by omega
        have hw5 := rem_run (PM : Int) (len : Int) (Q : Int) (by omega) hw3 hq2
        have hQi : (Q : Int) < (len : Int) := by omega
        have hl0 : ((len : Int) == 0) = false := by rw [beq_eq_false_iff_ne]; omega
        have hbg : ¬ b = g := by have := G1.out; omega
        have hkg : ¬ k9 = g := fun e => G3.out e.symm
        have u1 := (D.out.bel.cell (p := ⟨b, o + Q, none⟩) hb).trans (hcell Q hQl)
        have x1 := D.out.row.cell k (by have := I.out.1; omega)
        have x2 := D.out.row.frozen k
        obtain ⟨u, hu⟩ : ∃ u, U Q = u := ⟨_, rfl⟩
        rw [hu] at u1 uD
        have UD : Hid (_ = _) := uD
        clear hcell hQ hu hPM uD
        go_wp2
        go_region_held3 (fun w' => (w'.cell? ⟨k9, 3, none⟩ = some (.slice (some ⟨g, 0, none⟩) N N)) ∧ w'.cell? ⟨b, o + Q, none⟩ = some (.int .u64 u)) (simp [go_sem, *]) (fail)
        go_wp2
        go_roundw
        case rel => exact ⟨k + 1, _, by go_num, by omega, D.out.put (Bes.put _ g k _).drew (D.out.row.set k _).drew G1.out G3.out, I.out.set (by omega) _ UD.out.symm⟩
        case measure => simp [intOf]; omega
      · obtain rfl : len = 0 := by omega
        go_wp2
        go_roundw
        case rel => exact ⟨k + 1, xs, by go_num, by omega, D, I.out.same (by unfold mC; rw [if_neg hp])⟩
        case measure => simp [intOf]; omega
    · obtain rfl : k = N := by omega
      obtain ⟨⟨v0, v1, v2, v3, v4⟩, v5⟩ := D.out.ans
      have y0 := v5 0
      have y1 := v5 1
      have y2 := v5 2
      have y3 := v5 3
      clear v5
      go_wp2
      refine bodyPost_ret (v := .agg #[.int .i64 (C : Int), .int .i64 (C : Int), .int .i64 (C : Int), .slice (some ⟨g, 0, none⟩) k k]) (by simp [results, Try.results38, go_sem, *]) rfl ?_
      have hP := bes_puts wr w.heap.size (.int .i64 (C : Int)) (.int .i64 (C : Int)) (.int .i64 (C : Int)) (.slice (some ⟨g, 0, none⟩) k k)
      have g1 := G1.out
      exact ⟨g, rfl, by omega, (I.out.row D.out.row (by omega) HZ.out).bes hP (Apt.ne (by omega)), Bes.old D.out.bel hP (Nat.le_refl _)⟩
theorem MBox.old {w w' : World} {B b : Nat} {R C S : Int} {s : Value} (h : MBox w b R C S s) (hb : Below B w w') (hB : b < B) : MBox w' b R C S s := by
  obtain ⟨h0, h1, h2, h3, h4⟩ := h
  exact ⟨(hb.cell (p := ⟨b, 0, none⟩) hB).trans h0, (hb.cell (p := ⟨b, 1, none⟩) hB).trans h1, (hb.cell (p := ⟨b, 2, none⟩) hB).trans h2, (hb.cell (p := ⟨b, 3, none⟩) hB).trans h3, Nat.lt_of_lt_of_le h4 hb.size⟩
set_option maxHeartbeats 2000000 in
set_option maxRecDepth 100000 in
theorem lRow11 (R C S : Nat) (a : Option Addr) (len cap : Nat) (Z : Nat → Int) (i : Nat) (w : World) (h : Rgt (R : Int) (C : Int) (S : Int) len) (hx : URow w a len cap Z) (hi : i < R) (hC : C ≤ 1000) :
    Calls Try.prog 13 #[.agg #[.int .i64 (R : Int), .int .i64 (C : Int), .int .i64 (S : Int), .slice a len cap], .int .i64 (i : Int)] w fun e w' => ∃ g c, e = .returned (.slice (some ⟨g, 0, none⟩) C c) ∧ w.heap.size ≤ g ∧ URow w' (some ⟨g, 0, none⟩) C c (fun k => Z (i * S + k)) ∧ SeesU w' (.slice (some ⟨g, 0, none⟩) C c) (lst (fun k => Z (i * S + k)) C) ∧ Below w.heap.size w w' := by
  have HX : Hid (URow w a len cap Z) := hx
  have HH : Hid (Rgt (R : Int) (C : Int) (S : Int) len) := h
  have ZR : Hid (∀ n, 0 ≤ Z n ∧ Z n < 18446744073709551616) := hx.2.2.1
  clear hx h
  obtain ⟨Y, hY⟩ : ∃ Y : Nat → Int, Y = fun k => Z (i * S + k) := ⟨_, rfl⟩
  have HY : Hid (∀ k, Y k = Z (i * S + k)) := by rw [hY]; exact fun _ => rfl
  rw [← hY]
  have YR : Hid (∀ n, 0 ≤ Y n ∧ Y n < 18446744073709551616) := fun n => by rw [HY.out]; exact ZR.out _
  clear hY ZR
  go_enter Try.func13, Try.ntmps13
  go_wp2
  have mM := MBox.made w (R : Int) (C : Int) (S : Int) (.slice a len cap)
  have b0 : Below w.heap.size w (w.alloc (.cells #[.int .i64 (R : Int), .int .i64 (C : Int), .int .i64 (S : Int), .slice a len cap] 26)) := bmore (Below.refl _ _) _
  have hW0 : (w.alloc (.cells #[.int .i64 (R : Int), .int .i64 (C : Int), .int .i64 (S : Int), .slice a len cap] 26)).heap.size = w.heap.size + 1 := by simp
  generalize (w.alloc (.cells #[.int .i64 (R : Int), .int .i64 (C : Int), .int .i64 (S : Int), .slice a len cap] 26)) = W0 at mM b0 hW0 ⊢
  have M0 : Hid (MBox _ _ _ _ _ _) := mM
  have B0 : Hid (Below w.heap.size w W0) := b0
  have O0 : Hid (OwnU (W0.alloc (.cells #[] 23)) W0.heap.size (.slice (some ⟨W0.heap.size, 0, none⟩) 0 0) (lst Y 0)) := OwnU.new W0 W0.heap.size (Nat.le_refl _)
  have B1 : Hid (Below W0.heap.size W0 (W0.alloc (.cells #[] 23))) := bmore (Below.refl _ _) _
  obtain ⟨g0, hg0⟩ : ∃ g, g = w.heap.size := ⟨_, rfl⟩
  rw [← hg0] at M0 ⊢
  have hs := hW0
  rw [← hg0] at hs
  rw [← hs]
  have HWS : Hid (w.heap.size ≤ W0.heap.size) := by show _ ≤ _; omega
  clear mM b0 hW0 hs hg0
  generalize (W0.alloc (.cells #[] 23)) = V at O0 B1 ⊢
  generalize (Value.slice (some ⟨W0.heap.size, 0, none⟩) 0 0) = v0 at O0 ⊢
  go_loopw [5, 6] (fun v i wr => ∃ k : Nat, i = .int .i64 (k : Int) ∧ k ≤ C ∧ Hid (OwnU wr W0.heap.size v (lst Y k)) ∧ Hid (Below W0.heap.size W0 wr)) (fun _ i _ => C - (intOf i).toNat)
  case atStart => exact ⟨0, rfl, Nat.zero_le _, O0, B1⟩
  case round =>
    clear O0 B1
    obtain ⟨k, rfl, hk, O, B⟩ := hrel
    obtain ⟨q0, q1, q2, q3, q4⟩ := M0.out.below B.out
    by_cases hlt : (k : Int) < (C : Int)
    · go_wp2_with fail
      refine (mAtN R C S a len cap Z i k _ HH.out (HX.out.below (bstep B0.out B.out)) hi (by omega)).mono ?_
      rintro e w1 ⟨rfl, hb1⟩
      have YK := HY.out k
      obtain ⟨y0, y1⟩ := YR.out k
      rw [← YK]
      obtain ⟨y, hy⟩ : ∃ y, Y k = y := ⟨_, rfl⟩
      have LS : Hid (lst Y k ++ [y] = lst Y (k + 1)) := by rw [← hy]; exact (lst_succ Y k).symm
      rw [hy] at y0 y1 ⊢
      have B1 : Hid (Below W0.heap.size W0 w1) := bstep B.out hb1
      have O1 : Hid (OwnU w1 W0.heap.size _ (lst Y k)) := O.out.below hb1
      have hz1 := Below.size B1.out
      clear hb1 YK hy q0 q1 q2 q3 q4 O B
      go_wp2_with (at_builtin; refine wpListU_app rfl _ _ rfl W0.heap.size _ (lst Y k) rfl (O1.out.alloc _) _ [y] rfl (SeesU.one w1 y) (by rw [lst_len]; simp; omega) (by simp; omega) ?_)
      intro v' W3 own3 bel3 _ _
      rw [LS.out] at own3
      have O3 : Hid (OwnU W3 W0.heap.size v' (lst Y (k + 1))) := own3
      have bel4 : Below W0.heap.size w1 W3 := ((Below.refl _ w1).alloc hz1 _).trans bel3
      have B3 : Hid (Below W0.heap.size W0 W3) := B1.out.trans bel4
      clear own3 bel3 bel4
      go_wp2
      go_roundw
      case rel => exact ⟨k + 1, by go_num, by omega, O3, B3⟩
      case measure => simp [intOf]; omega
    · obtain rfl : k = C := by omega
      obtain ⟨g, c, rfl, h1, h2, h3⟩ := O.out.row YR.out
      go_wp2
      go_ret
      exact ⟨g, c, ret_eq rfl, Nat.le_trans HWS.out h1, h3, O.out.sees, bstep B0.out B.out⟩
set_option maxHeartbeats 2000000 in
set_option maxRecDepth 100000 in
theorem lList12 (n f : Nat) (a : Option Addr) (len cap : Nat) (U : Nat → Int) (w : World) (hx : URow w a len cap U) (hl : len ≤ 100) (hn : n ≤ 1000) (hf : f ≤ 8) :
    Calls Try.prog 39 #[.int .i64 (n : Int), .slice a len cap, .int .i64 (f : Int)] w fun e w' => ∃ g c, e = .returned (.slice (some ⟨g, 0, none⟩) n c) ∧ w.heap.size ≤ g ∧ OwnU w' w.heap.size (.slice (some ⟨g, 0, none⟩) n c) (lst (mC U len f 4607182418800017408) n) ∧ URow w' (some ⟨g, 0, none⟩) n c (mC U len f 4607182418800017408) ∧ Below w.heap.size w w' := by
  have HX : Hid (URow w a len cap U) := hx
  obtain ⟨lb, cb⟩ := hx.lenB
  have YR : Hid (∀ i, 0 ≤ mC U len f 4607182418800017408 i ∧ mC U len f 4607182418800017408 i < 18446744073709551616) := fun i => mC_rng U len f _ (by decide) hx.2.2.1 i
  have UR : Hid (∀ i, 0 ≤ U i ∧ U i < 18446744073709551616) := hx.2.2.1
  clear hx
  obtain ⟨Y, hY⟩ : ∃ Y : Nat → Int, Y = mC U len f 4607182418800017408 := ⟨_, rfl⟩
  have HY : Hid (∀ k, Y k = mC U len f 4607182418800017408 k) := by rw [hY]; exact fun _ => rfl
  rw [← hY] at YR ⊢
  clear hY
  go_enter Try.func39, Try.ntmps39
  go_wp2
  have O0 : Hid (OwnU (w.alloc (.cells #[] 23)) w.heap.size (.slice (some ⟨w.heap.size, 0, none⟩) 0 0) (lst Y 0)) := OwnU.new w w.heap.size (Nat.le_refl _)
  have B1 : Hid (Below w.heap.size w (w.alloc (.cells #[] 23))) := bmore (Below.refl _ _) _
  generalize (w.alloc (.cells #[] 23)) = V at O0 B1 ⊢
  generalize (Value.slice (some ⟨w.heap.size, 0, none⟩) 0 0) = v0 at O0 ⊢
  go_loopw [7, 8] (fun v i wr => ∃ k : Nat, i = .int .i64 (k : Int) ∧ k ≤ n ∧ Hid (OwnU wr w.heap.size v (lst Y k)) ∧ Hid (Below w.heap.size w wr)) (fun _ i _ => n - (intOf i).toNat)
  case atStart => exact ⟨0, rfl, Nat.zero_le _, O0, B1⟩
  case round =>
    clear O0 B1
    obtain ⟨k, rfl, hk, O, B⟩ := hrel
    by_cases hlt : (k : Int) < (n : Int)
    · have YK := HY.out k
      obtain ⟨y0, y1⟩ := YR.out k
      obtain ⟨y, hy⟩ : ∃ y, Y k = y := ⟨_, rfl⟩
      have LS : Hid (lst Y k ++ [y] = lst Y (k + 1)) := by rw [← hy]; exact (lst_succ Y k).symm
      rw [hy] at y0 y1 YK
      have hz1 := Below.size B.out
      by_cases hp : 0 < len
      · obtain ⟨b, o, rfl, hb, hcell⟩ := HX.out.2.2.2 hp
        obtain ⟨Q, hQ, hQl, hq1, hq2⟩ := rem_facts (k + f) len hp
        obtain ⟨PM, hPM⟩ : ∃ PM, k + f = PM := ⟨_, rfl⟩
        have hw6 : IntKind.i64.wrap ((k : Int) + (f : Int)) = (PM : Int) := by rw [IntKind.wrap_i64]; omega
        have uD : y = U Q := by rw [YK]; unfold mC; rw [if_pos hp, hQ]
        rw [hPM] at hQ hq1 hq2
        have hw8 : PM % len = Q := hQ.symm
        have hw9 : ¬ len = 0 := by omega
        have hw3 : (0 : Int) < (len : Int) := by omega
        have hw4 : ¬ (len : Int) = 0 := by omega
        have hw5 := rem_run (PM : Int) (len : Int) (Q : Int) (by omega) hw3 hq2
        have hQi : (Q : Int) < (len : Int) := by omega
        have hl0 : ((len : Int) == 0) = false := by rw [beq_eq_false_iff_ne]; omega
        have u1 := (B.out.cell (p := ⟨b, o + Q, none⟩) hb).trans (hcell Q hQl)
        rw [← uD] at u1
        clear hcell hQ hPM uD hy YK
        go_wp2_with (at_builtin; refine wpListU_app rfl _ _ rfl w.heap.size _ (lst Y k) rfl (O.out.alloc _) _ [y] rfl (SeesU.one wr y) (by rw [lst_len]; simp; omega) (by simp; omega) ?_)
        intro v' W3 own3 bel3 _ _
        rw [LS.out] at own3
        have O3 : Hid (OwnU W3 w.heap.size v' (lst Y (k + 1))) := own3
        have bel4 : Below w.heap.size wr W3 := ((Below.refl _ wr).alloc hz1 _).trans bel3
        have B3 : Hid (Below w.heap.size w W3) := B.out.trans bel4
        clear own3 bel3 bel4
        go_wp2
        go_roundw
        case rel => exact ⟨k + 1, by go_num, by omega, O3, B3⟩
        case measure => simp [intOf]; omega
      · obtain rfl : len = 0 := by omega
        have uD : y = 4607182418800017408 := by rw [YK]; unfold mC; rw [if_neg hp]
        subst uD
        clear hy YK
        go_wp2_with (at_builtin; refine wpListU_app rfl _ _ rfl w.heap.size _ (lst Y k) rfl (O.out.alloc _) _ [4607182418800017408] rfl (SeesU.one wr 4607182418800017408) (by rw [lst_len]; simp; omega) (by simp; omega) ?_)
        intro v' W3 own3 bel3 _ _
        rw [LS.out] at own3
        have O3 : Hid (OwnU W3 w.heap.size v' (lst Y (k + 1))) := own3
        have bel4 : Below w.heap.size wr W3 := ((Below.refl _ wr).alloc hz1 _).trans bel3
        have B3 : Hid (Below w.heap.size w W3) := B.out.trans bel4
        clear own3 bel3 bel4
        go_wp2
        go_roundw
        case rel => exact ⟨k + 1, by go_num, by omega, O3, B3⟩
        case measure => simp [intOf]; omega
    · obtain rfl : k = n := by omega
      obtain ⟨g, c, rfl, h1, h2, h3⟩ := O.out.row YR.out
      go_wp2
      go_ret
      exact ⟨g, c, ret_eq rfl, h1, O.out, h3, B.out⟩
theorem WBox.cells {w : World} {b : Nat} {R C S : Int} {s : Value} (h : WBox w b R C S s) : w.cell? ⟨b, 0, none⟩ = some (.int .i64 R) ∧ w.cell? ⟨b, 1, none⟩ = some (.int .i64 C) ∧ w.cell? ⟨b, 2, none⟩ = some (.int .i64 S) ∧ w.cell? ⟨b, 3, none⟩ = some s := h.1.cells
theorem SeesU.bes {w w' : World} {c : Option Nat} {g off n cap : Nat} {xs : List Int} (h : SeesU w (.slice (some ⟨g, off, none⟩) n cap) xs) (hb : Bes c w w') (hc : c ≠ some g) : SeesU w' (.slice (some ⟨g, off, none⟩) n cap) xs := by
  obtain ⟨g', o', c', e, h1, h2, h3, h4⟩ := h
  injection e with e1 e2 e3
  injection e1 with e1
  injection e1 with e4 e5 e6
  subst e4 e5 e2 e3
  exact ⟨_, _, _, rfl, Nat.lt_of_lt_of_le h1 hb.size, h2, h3, fun i hi => (hb.cell (p := ⟨_, _, none⟩) h1 hc).trans (h4 i hi)⟩
theorem SeesU.lt {w : World} {g off n cap : Nat} {xs : List Int} (h : SeesU w (.slice (some ⟨g, off, none⟩) n cap) xs) : g < w.heap.size := by
  obtain ⟨g', o', c', e, h1, _⟩ := h
  injection e with e1 e2 e3
  injection e1 with e1
  injection e1 with e4
  rw [e4]; exact h1
theorem own_at (W : World) (g base : Nat) (hg : g = W.heap.size) (hb : base ≤ W.heap.size) : OwnU (W.alloc (.cells #[] 23)) base (.slice (some ⟨g, 0, none⟩) 0 0) [] := by
  subst hg
  exact OwnU.new W base hb
theorem sees_at (W : World) (g : Nat) (y : Int) (hg : g = W.heap.size) : SeesU (W.alloc (.cells #[.int .u64 y] 23)) (.slice (some ⟨g, 0, none⟩) 1 1) [y] := by
  subst hg
  exact SeesU.one W y
theorem SeesU.grown {w w' : World} {row : Option Nat} {g off n cap : Nat} {xs : List Int} (h : SeesU w (.slice (some ⟨g, off, none⟩) n cap) xs) (hg : w.grownBy w' row) (hne : row ≠ some g) : SeesU w' (.slice (some ⟨g, off, none⟩) n cap) xs := by
  obtain ⟨g', o', c', e, h1, h2, h3, h4⟩ := h
  injection e with e1 e2 e3
  injection e1 with e1
  injection e1 with e4 e5 e6
  subst e4 e5 e2 e3
  exact ⟨_, _, _, rfl, Nat.lt_of_lt_of_le h1 hg.size, h2, h3, fun i hi => (World.cell?_of_block (w := w) (hg.block _ h1 (Ne.symm hne))).trans (h4 i hi)⟩
theorem sees_grown_ab {W w6 : World} {oA : Obj} {y : Int} (hg : (((W.alloc oA).alloc (.cells #[.int .u64 y] 23)).drew).grownBy w6 (some W.heap.size)) : SeesU w6 (.slice (some ⟨W.heap.size + 1, 0, none⟩) 1 1) [y] := by
  have h := sees_at (W.alloc oA) (W.heap.size + 1) y (by simp)
  exact SeesU.grown (h.below (Below.refl _ _).drew) hg (by simp)
theorem sees_grown_ba {W w6 : World} {oA : Obj} {y : Int} (hg : (((W.alloc (.cells #[.int .u64 y] 23)).alloc oA).drew).grownBy w6 (some (W.heap.size + 1))) : SeesU w6 (.slice (some ⟨W.heap.size, 0, none⟩) 1 1) [y] := by
  have h := (sees_at W W.heap.size y rfl).alloc oA
  exact SeesU.grown (h.below (Below.refl _ _).drew) hg (by simp)
theorem lMade11o (C f : Nat) (a : Option Addr) (len cap : Nat) (U : Nat → Int) (w : World) (hx : URow w a len cap U) (hl : len ≤ 100) (hC : C ≤ 8) (hf : f ≤ 8) :
    Calls Try.prog 12 #[.int .i64 1, .int .i64 (C : Int), .slice a len cap, .int .i64 (f : Int)] w fun e w' => ∃ g, e = .returned (.agg #[.int .i64 1, .int .i64 (C : Int), .int .i64 (C : Int), .slice (some ⟨g, 0, none⟩) C C]) ∧ w.heap.size ≤ g ∧ URow w' (some ⟨g, 0, none⟩) C C (mC U len f 0) ∧ Below w.heap.size w w' := by
  have h := lMade11 1 C f a len cap U w hx hl (by omega) hC hf
  rw [Nat.one_mul] at h
  exact h
theorem lRow11o (C : Nat) (a : Option Addr) (cap : Nat) (Z : Nat → Int) (w : World) (hx : URow w a C cap Z) (hC : C ≤ 1000) :
    Calls Try.prog 13 #[.agg #[.int .i64 1, .int .i64 (C : Int), .int .i64 (C : Int), .slice a C cap], .int .i64 0] w fun e w' => ∃ g c, e = .returned (.slice (some ⟨g, 0, none⟩) C c) ∧ w.heap.size ≤ g ∧ URow w' (some ⟨g, 0, none⟩) C c Z ∧ SeesU w' (.slice (some ⟨g, 0, none⟩) C c) (lst Z C) ∧ Below w.heap.size w w' := by
  have h := lRow11 1 C C a C cap Z 0 w (by have := tight 1 C (by omega) (by omega); rw [Nat.one_mul] at this; exact this) hx (by omega) hC
  have e : (fun k => Z (0 * C + k)) = Z := by funext k; rw [Nat.zero_mul, Nat.zero_add]
  rw [e] at h
  exact h
end Go.Proofs.Ytpakpgjbgehhjaa

/-
  What mul's Norm returns of columns' and rows' sums, with any Calc; the document's example of layer 11 holds. Conditions: a finite matrix that is right, of at most a million numbers.
-/
namespace Go.Proofs.Ytpakpgjbgehhjaa
open Go.RowKit
set_option linter.unusedVariables false
set_option linter.unusedSimpArgs false

/-- The greatest of the first n. -/
def nrM (f : Nat → Int) : Nat → Int
  | 0 => 0
  | n + 1 => if nrM f n < f n then f n else nrM f n
/-- The flags of n sums. -/
def nrF (F : Int) (Z : Nat → Nat → Int) (C : Nat) : Nat → Int
  | 0 => F
  | n + 1 => asuF (nrF F Z C n) (Z n) C
theorem nrM_rng (f : Nat → Int) (h : ∀ i, 0 ≤ f i ∧ f i < 18446744073709551616) (n : Nat) : 0 ≤ nrM f n ∧ nrM f n < 18446744073709551616 := by
  induction n with
  | zero => exact ⟨Int.le_refl 0, by show (0 : Int) < 18446744073709551616; decide⟩
  | succ n ih => unfold nrM; split; exact h n; exact ih
set_option maxHeartbeats 1000000 in
theorem uNormClo (p : Value) (c : Option Nat) (F : Int) (kc : Nat) (a : Option Addr) (n cap : Nat) (X : Nat → Int) (w : World) (hc : IsCalc w p c F) (hx : URow w a n cap X) (ax : Apt c a n) (hk : w.cell? ⟨kc, 0, none⟩ = some p) :
    Calls Try.prog 87 #[.slice a n cap, .pointer (some ⟨kc, 0, none⟩)] w fun e w' => e = .returned (.int .u64 (asuV X n)) ∧ IsCalc w' p c (asuF F X n) ∧ Bes c w w' := by
  have HC : Hid (IsCalc w p c F) := hc
  have HX : Hid (URow w a n cap X) := hx
  have AX : Hid (Apt c a n) := ax
  clear hc hx ax
  go_enter Try.func87, Try.ntmps87
  go_wp2_with fail
  refine (uSizes p c F a n cap X w HC.out HX.out AX.out).mono ?_
  rintro e w1 ⟨rfl, C1, B1⟩
  have HC1 : Hid (IsCalc _ _ _ _) := C1
  have HB1 : Hid (Bes _ _ _) := B1
  clear C1 B1
  go_wp2
  go_ret
  exact ⟨ret_eq rfl, HC1.out, HB1.out⟩
set_option maxHeartbeats 4000000 in
set_option maxRecDepth 100000 in
theorem mNormR (q : Option Addr) (c : Option Nat) (F : Int) (R C S : Nat) (a : Option Addr) (len cap : Nat) (Z : Nat → Int) (w : World) (hc : IsCalc w (.pointer q) c F) (h : Rgt (R : Int) (C : Int) (S : Int) len) (hz : URow w a len cap Z) (hf : AllF Z R C S) (hRC : R * C ≤ 1000000) :
    Calls Try.prog 50 #[.pointer q, .agg #[.int .i64 (R : Int), .int .i64 (C : Int), .int .i64 (S : Int), .slice a len cap], .int .i64 3] w fun e w' => e = .returned (.tuple #[.int .u64 (nrM (fun i => asuV (fun k => Z (i * S + k)) C) R), .int .i64 0]) ∧ IsCalc w' (.pointer q) c (nrF F (fun i k => Z (i * S + k)) C R) ∧ Bes c w w' := by
  have HC : Hid (IsCalc w (.pointer q) c F) := hc
  have HZ : Hid (URow w a len cap Z) := hz
  have HH : Hid (Rgt (R : Int) (C : Int) (S : Int) len) := h
  have HF : Hid (AllF Z R C S) := hf
  obtain ⟨lb, cb⟩ := hz.lenB
  have r1 : (R : Int) ≤ 4096 := h.2.1
  have c1 : (C : Int) ≤ 4096 := h.2.2.2.1
  clear hc hz h hf
  go_enter Try.func50, Try.ntmps50
  go_wp2_with fail
  obtain ⟨o1, ho1⟩ : ∃ o, o = Obj.cells #[.pointer q] 29 := ⟨_, rfl⟩
  have m4 : MBox ((w.alloc o1).alloc (.cells #[.int .i64 (R : Int), .int .i64 (C : Int), .int .i64 (S : Int), .slice a len cap] 26)) (w.heap.size + 1) (R : Int) (C : Int) (S : Int) (.slice a len cap) := by
    have := MBox.made (w.alloc o1) (R : Int) (C : Int) (S : Int) (.slice a len cap)
    simp only [World.size_alloc] at this
    exact this
  have b0 : Below w.heap.size w ((w.alloc o1).alloc (.cells #[.int .i64 (R : Int), .int .i64 (C : Int), .int .i64 (S : Int), .slice a len cap] 26)) := bmore (bmore (Below.refl _ _) _) _
  have kp : w.heap.size < ((w.alloc o1).alloc (.cells #[.int .i64 (R : Int), .int .i64 (C : Int), .int .i64 (S : Int), .slice a len cap] 26)).heap.size ∧ ((w.alloc o1).alloc (.cells #[.int .i64 (R : Int), .int .i64 (C : Int), .int .i64 (S : Int), .slice a len cap] 26)).cell? ⟨w.heap.size, 0, none⟩ = some (.pointer q) := by
    rw [ho1]
    constructor
    · first | (simp; done) | (simp; omega)
    · simp [go_sem]
  rw [← ho1]
  clear ho1
  generalize ((w.alloc o1).alloc (.cells #[.int .i64 (R : Int), .int .i64 (C : Int), .int .i64 (S : Int), .slice a len cap] 26)) = W0 at m4 b0 kp ⊢
  obtain ⟨k3, hk3⟩ : ∃ k, k = w.heap.size := ⟨_, rfl⟩
  obtain ⟨k4, hk4⟩ : ∃ k, k = w.heap.size + 1 := ⟨_, rfl⟩
  rw [← hk4] at m4 ⊢
  rw [← hk3] at kp ⊢
  have HK3 : Hid (w.heap.size ≤ k3) := Nat.le_of_eq hk3.symm
  clear hk3 hk4
  refine (mCheckOk R C S _ _ _ W0 HH.out lb).mono ?_
  rintro e w1 ⟨rfl, hb1⟩
  have M4 : Hid (MBox _ _ _ _ _ _) := m4.below hb1
  have BW : Hid (Below w.heap.size w w1) := bstep b0 hb1
  have KP : Hid (k3 < w1.heap.size ∧ w1.cell? ⟨k3, 0, none⟩ = some (.pointer q)) := ⟨Nat.lt_of_lt_of_le kp.1 hb1.size, (hb1.cell (p := ⟨k3, 0, none⟩) kp.1).trans kp.2⟩
  clear m4 b0 kp hb1
  obtain ⟨p0, p1, p2, p3, p4⟩ := M4.out
  go_wp2_with fail
  refine (mFinOk R C S _ _ _ Z w1 HH.out (HZ.out.below BW.out) HF.out).mono ?_
  rintro e w2 ⟨rfl, hb1⟩
  replace M4 : Hid (MBox _ _ _ _ _ _) := M4.out.below hb1
  replace BW : Hid (Below w.heap.size w w2) := bstep BW.out hb1
  replace KP : Hid (k3 < w2.heap.size ∧ w2.cell? ⟨k3, 0, none⟩ = some (.pointer q)) := ⟨Nat.lt_of_lt_of_le KP.out.1 hb1.size, (hb1.cell (p := ⟨k3, 0, none⟩) KP.out.1).trans KP.out.2⟩
  clear hb1 p0 p1 p2 p3 p4
  obtain ⟨p0, p1, p2, p3, p4⟩ := M4.out
  go_wp2_with fail
  refine (mLinesC R C S a len cap Z w2 HH.out (HZ.out.below BW.out) hRC).mono ?_
  rintro e w3 ⟨g0, rfl, hL, hb1⟩
  have L3 : Hid (Lines w3 w2.heap.size g0 R C (fun i k => Z (i * S + k))) := hL
  have HV : Hid (w.heap.size ≤ w2.heap.size) := Below.size BW.out
  replace BW : Hid (Below w.heap.size w w3) := bstep BW.out hb1
  have B3 : Hid (Bes c w w3) := Bes.of BW.out
  have C3 : Hid (IsCalc w3 (.pointer q) c F) := HC.out.later BW.out
  replace KP : Hid (k3 < w3.heap.size ∧ w3.cell? ⟨k3, 0, none⟩ = some (.pointer q)) := ⟨Nat.lt_of_lt_of_le KP.out.1 hb1.size, (hb1.cell (p := ⟨k3, 0, none⟩) KP.out.1).trans KP.out.2⟩
  have K3C : Hid (c ≠ some k3) := fun e => by have := HC.out.lt _ e; have := HK3.out; omega
  clear hb1 hL M4 p0 p1 p2 p3 p4 BW
  obtain ⟨BB, hBB⟩ : ∃ B, B = w2.heap.size := ⟨_, rfl⟩
  rw [← hBB] at L3 HV
  clear hBB
  go_wp2
  go_loopw [10, 31] (fun t i wr => ∃ n : Nat, t = .int .u64 (nrM (fun i => asuV (fun k => Z (i * S + k)) C) n) ∧ i = .int .i64 (n : Int) ∧ n ≤ R ∧ Hid (IsCalc wr (.pointer q) c (nrF F (fun i k => Z (i * S + k)) C n)) ∧ Hid (Lines wr BB g0 R C (fun i k => Z (i * S + k))) ∧ Hid (k3 < wr.heap.size ∧ wr.cell? ⟨k3, 0, none⟩ = some (.pointer q)) ∧ Hid (Bes c w wr)) (fun _ i _ => R - (intOf i).toNat)
  case atStart => exact ⟨0, rfl, rfl, Nat.zero_le _, C3, L3, KP, B3⟩
  case round =>
    clear C3 L3 B3 KP
    obtain ⟨n, rfl, rfl, hn, Cc, L, KP, B⟩ := hrel
    by_cases hlt : (n : Int) < (R : Int)
    · obtain ⟨a5, c5, q5, u5, y5⟩ := L.out.row n (by omega)
      have A5 : Hid (Apt c a5 C) := young_apt HC.out HV.out y5
      obtain ⟨xr, hxr⟩ : ∃ X : Nat → Int, X = (fun i k => Z (i * S + k)) n := ⟨_, rfl⟩
      have U5 : Hid (URow wr a5 C c5 xr) := by rw [hxr]; exact u5
      obtain ⟨s0, s1⟩ := asuV_rng xr C
      obtain ⟨M, hM⟩ : ∃ M, nrM (fun i => asuV (fun k => Z (i * S + k)) C) n = M := ⟨_, rfl⟩
      obtain ⟨FN, hFN⟩ : ∃ f, f = nrF F (fun i k => Z (i * S + k)) C n := ⟨_, rfl⟩
      rw [← hFN] at Cc
      have HNF : Hid (asuF FN xr C = nrF F (fun i k => Z (i * S + k)) C (n + 1)) := by rw [hFN, hxr]; rfl
      have HNM : Hid ((if M < asuV xr C then asuV xr C else M) = nrM (fun i => asuV (fun k => Z (i * S + k)) C) (n + 1)) := by rw [← hM, hxr]; rfl
      rw [hM]
      obtain ⟨sv, hsv⟩ : ∃ s, asuV xr C = s := ⟨_, rfl⟩
      rw [hsv] at s0 s1 HNM
      have HSV : Hid (_ = _) := hsv
      clear u5 y5 hxr hM hFN hsv
      go_wp2_with fail
      refine (uNormClo (.pointer q) c FN k3 a5 C c5 xr _ Cc.out U5.out A5.out KP.out.2).mono ?_
      rintro e w4 ⟨rfl, C4, B4⟩
      rw [HSV.out]
      rw [HNF.out] at C4
      have HC4 : Hid (IsCalc _ _ _ _) := C4
      have HB4 : Hid (Bes c w w4) := B.out.trans B4
      have L4 : Hid (Lines w4 BB g0 R C (fun i k => Z (i * S + k))) := L.out.bes B4 (fun k e => by have := HC.out.lt k e; have := HV.out; omega)
      have KP4 : Hid (k3 < w4.heap.size ∧ w4.cell? ⟨k3, 0, none⟩ = some (.pointer q)) := ⟨Nat.lt_of_lt_of_le KP.out.1 B4.size, (B4.cell (p := ⟨k3, 0, none⟩) KP.out.1 K3C.out).trans KP.out.2⟩
      clear C4 B4 Cc L B U5 A5 KP q5
      by_cases hg : M < sv
      · have HN2 : Hid (sv = nrM (fun i => asuV (fun k => Z (i * S + k)) C) (n + 1)) := by have := HNM.out; rw [if_pos hg] at this; exact this
        have hmx : max M sv = sv := by omega
        go_wp2
        go_roundw
        case rel => exact ⟨n + 1, by first | rw [← HN2.out] | (rw [← HN2.out, hmx]), by go_num, by omega, HC4, L4, KP4, HB4⟩
        case measure => simp [intOf]; omega
      · have HN2 : Hid (M = nrM (fun i => asuV (fun k => Z (i * S + k)) C) (n + 1)) := by have := HNM.out; rw [if_neg hg] at this; exact this
        have hmx : max M sv = M := by omega
        go_wp2
        go_roundw
        case rel => exact ⟨n + 1, by first | rw [← HN2.out] | (rw [← HN2.out, hmx]), by go_num, by omega, HC4, L4, KP4, HB4⟩
        case measure => simp [intOf]; omega
    · obtain rfl : n = R := by omega
      go_wp2
      go_ret2
      exact ⟨rfl, Cc.out, B.out⟩
set_option maxHeartbeats 4000000 in
set_option maxRecDepth 100000 in
theorem mNormT (q : Option Addr) (c : Option Nat) (F : Int) (R C S : Nat) (a : Option Addr) (len cap : Nat) (Z : Nat → Int) (w : World) (hc : IsCalc w (.pointer q) c F) (h : Rgt (R : Int) (C : Int) (S : Int) len) (hz : URow w a len cap Z) (hf : AllF Z R C S) (hRC : C * R ≤ 1000000) :
    Calls Try.prog 50 #[.pointer q, .agg #[.int .i64 (R : Int), .int .i64 (C : Int), .int .i64 (S : Int), .slice a len cap], .int .i64 2] w fun e w' => e = .returned (.tuple #[.int .u64 (nrM (fun i => asuV (fun k => Z (k * S + i)) R) C), .int .i64 0]) ∧ IsCalc w' (.pointer q) c (nrF F (fun i k => Z (k * S + i)) R C) ∧ Bes c w w' := by
  have HC : Hid (IsCalc w (.pointer q) c F) := hc
  have HZ : Hid (URow w a len cap Z) := hz
  have HH : Hid (Rgt (R : Int) (C : Int) (S : Int) len) := h
  have HF : Hid (AllF Z R C S) := hf
  obtain ⟨lb, cb⟩ := hz.lenB
  have r1 : (R : Int) ≤ 4096 := h.2.1
  have c1 : (C : Int) ≤ 4096 := h.2.2.2.1
  clear hc hz h hf
  go_enter Try.func50, Try.ntmps50
  go_wp2_with fail
  obtain ⟨o1, ho1⟩ : ∃ o, o = Obj.cells #[.pointer q] 29 := ⟨_, rfl⟩
  have m4 : MBox ((w.alloc o1).alloc (.cells #[.int .i64 (R : Int), .int .i64 (C : Int), .int .i64 (S : Int), .slice a len cap] 26)) (w.heap.size + 1) (R : Int) (C : Int) (S : Int) (.slice a len cap) := by
    have := MBox.made (w.alloc o1) (R : Int) (C : Int) (S : Int) (.slice a len cap)
    simp only [World.size_alloc] at this
    exact this
  have b0 : Below w.heap.size w ((w.alloc o1).alloc (.cells #[.int .i64 (R : Int), .int .i64 (C : Int), .int .i64 (S : Int), .slice a len cap] 26)) := bmore (bmore (Below.refl _ _) _) _
  have kp : w.heap.size < ((w.alloc o1).alloc (.cells #[.int .i64 (R : Int), .int .i64 (C : Int), .int .i64 (S : Int), .slice a len cap] 26)).heap.size ∧ ((w.alloc o1).alloc (.cells #[.int .i64 (R : Int), .int .i64 (C : Int), .int .i64 (S : Int), .slice a len cap] 26)).cell? ⟨w.heap.size, 0, none⟩ = some (.pointer q) := by
    rw [ho1]
    constructor
    · first | (simp; done) | (simp; omega)
    · simp [go_sem]
  rw [← ho1]
  clear ho1
  generalize ((w.alloc o1).alloc (.cells #[.int .i64 (R : Int), .int .i64 (C : Int), .int .i64 (S : Int), .slice a len cap] 26)) = W0 at m4 b0 kp ⊢
  obtain ⟨k3, hk3⟩ : ∃ k, k = w.heap.size := ⟨_, rfl⟩
  obtain ⟨k4, hk4⟩ : ∃ k, k = w.heap.size + 1 := ⟨_, rfl⟩
  rw [← hk4] at m4 ⊢
  rw [← hk3] at kp ⊢
  have HK3 : Hid (w.heap.size ≤ k3) := Nat.le_of_eq hk3.symm
  clear hk3 hk4
  refine (mCheckOk R C S _ _ _ W0 HH.out lb).mono ?_
  rintro e w1 ⟨rfl, hb1⟩
  have M4 : Hid (MBox _ _ _ _ _ _) := m4.below hb1
  have BW : Hid (Below w.heap.size w w1) := bstep b0 hb1
  have KP : Hid (k3 < w1.heap.size ∧ w1.cell? ⟨k3, 0, none⟩ = some (.pointer q)) := ⟨Nat.lt_of_lt_of_le kp.1 hb1.size, (hb1.cell (p := ⟨k3, 0, none⟩) kp.1).trans kp.2⟩
  clear m4 b0 kp hb1
  obtain ⟨p0, p1, p2, p3, p4⟩ := M4.out
  go_wp2_with fail
  refine (mFinOk R C S _ _ _ Z w1 HH.out (HZ.out.below BW.out) HF.out).mono ?_
  rintro e w2 ⟨rfl, hb1⟩
  replace M4 : Hid (MBox _ _ _ _ _ _) := M4.out.below hb1
  replace BW : Hid (Below w.heap.size w w2) := bstep BW.out hb1
  replace KP : Hid (k3 < w2.heap.size ∧ w2.cell? ⟨k3, 0, none⟩ = some (.pointer q)) := ⟨Nat.lt_of_lt_of_le KP.out.1 hb1.size, (hb1.cell (p := ⟨k3, 0, none⟩) KP.out.1).trans KP.out.2⟩
  clear hb1 p0 p1 p2 p3 p4
  obtain ⟨p0, p1, p2, p3, p4⟩ := M4.out
  go_wp2_with fail
  refine (mLinesT R C S a len cap Z w2 HH.out (HZ.out.below BW.out) hRC).mono ?_
  rintro e w3 ⟨g0, rfl, hL, hb1⟩
  have L3 : Hid (Lines w3 w2.heap.size g0 C R (fun i k => Z (k * S + i))) := hL
  have HV : Hid (w.heap.size ≤ w2.heap.size) := Below.size BW.out
  replace BW : Hid (Below w.heap.size w w3) := bstep BW.out hb1
  have B3 : Hid (Bes c w w3) := Bes.of BW.out
  have C3 : Hid (IsCalc w3 (.pointer q) c F) := HC.out.later BW.out
  replace KP : Hid (k3 < w3.heap.size ∧ w3.cell? ⟨k3, 0, none⟩ = some (.pointer q)) := ⟨Nat.lt_of_lt_of_le KP.out.1 hb1.size, (hb1.cell (p := ⟨k3, 0, none⟩) KP.out.1).trans KP.out.2⟩
  have K3C : Hid (c ≠ some k3) := fun e => by have := HC.out.lt _ e; have := HK3.out; omega
  clear hb1 hL M4 p0 p1 p2 p3 p4 BW
  obtain ⟨BB, hBB⟩ : ∃ B, B = w2.heap.size := ⟨_, rfl⟩
  rw [← hBB] at L3 HV
  clear hBB
  go_wp2
  go_loopw [10, 31] (fun t i wr => ∃ n : Nat, t = .int .u64 (nrM (fun i => asuV (fun k => Z (k * S + i)) R) n) ∧ i = .int .i64 (n : Int) ∧ n ≤ C ∧ Hid (IsCalc wr (.pointer q) c (nrF F (fun i k => Z (k * S + i)) R n)) ∧ Hid (Lines wr BB g0 C R (fun i k => Z (k * S + i))) ∧ Hid (k3 < wr.heap.size ∧ wr.cell? ⟨k3, 0, none⟩ = some (.pointer q)) ∧ Hid (Bes c w wr)) (fun _ i _ => C - (intOf i).toNat)
  case atStart => exact ⟨0, rfl, rfl, Nat.zero_le _, C3, L3, KP, B3⟩
  case round =>
    clear C3 L3 B3 KP
    obtain ⟨n, rfl, rfl, hn, Cc, L, KP, B⟩ := hrel
    by_cases hlt : (n : Int) < (C : Int)
    · obtain ⟨a5, c5, q5, u5, y5⟩ := L.out.row n (by omega)
      have A5 : Hid (Apt c a5 R) := young_apt HC.out HV.out y5
      obtain ⟨xr, hxr⟩ : ∃ X : Nat → Int, X = (fun i k => Z (k * S + i)) n := ⟨_, rfl⟩
      have U5 : Hid (URow wr a5 R c5 xr) := by rw [hxr]; exact u5
      obtain ⟨s0, s1⟩ := asuV_rng xr R
      obtain ⟨M, hM⟩ : ∃ M, nrM (fun i => asuV (fun k => Z (k * S + i)) R) n = M := ⟨_, rfl⟩
      obtain ⟨FN, hFN⟩ : ∃ f, f = nrF F (fun i k => Z (k * S + i)) R n := ⟨_, rfl⟩
      rw [← hFN] at Cc
      have HNF : Hid (asuF FN xr R = nrF F (fun i k => Z (k * S + i)) R (n + 1)) := by rw [hFN, hxr]; rfl
      have HNM : Hid ((if M < asuV xr R then asuV xr R else M) = nrM (fun i => asuV (fun k => Z (k * S + i)) R) (n + 1)) := by rw [← hM, hxr]; rfl
      rw [hM]
      obtain ⟨sv, hsv⟩ : ∃ s, asuV xr R = s := ⟨_, rfl⟩
      rw [hsv] at s0 s1 HNM
      have HSV : Hid (_ = _) := hsv
      clear u5 y5 hxr hM hFN hsv
      go_wp2_with fail
      refine (uNormClo (.pointer q) c FN k3 a5 R c5 xr _ Cc.out U5.out A5.out KP.out.2).mono ?_
      rintro e w4 ⟨rfl, C4, B4⟩
      rw [HSV.out]
      rw [HNF.out] at C4
      have HC4 : Hid (IsCalc _ _ _ _) := C4
      have HB4 : Hid (Bes c w w4) := B.out.trans B4
      have L4 : Hid (Lines w4 BB g0 C R (fun i k => Z (k * S + i))) := L.out.bes B4 (fun k e => by have := HC.out.lt k e; have := HV.out; omega)
      have KP4 : Hid (k3 < w4.heap.size ∧ w4.cell? ⟨k3, 0, none⟩ = some (.pointer q)) := ⟨Nat.lt_of_lt_of_le KP.out.1 B4.size, (B4.cell (p := ⟨k3, 0, none⟩) KP.out.1 K3C.out).trans KP.out.2⟩
      clear C4 B4 Cc L B U5 A5 KP q5
      by_cases hg : M < sv
      · have HN2 : Hid (sv = nrM (fun i => asuV (fun k => Z (k * S + i)) R) (n + 1)) := by have := HNM.out; rw [if_pos hg] at this; exact this
        have hmx : max M sv = sv := by omega
        go_wp2
        go_roundw
        case rel => exact ⟨n + 1, by first | rw [← HN2.out] | (rw [← HN2.out, hmx]), by go_num, by omega, HC4, L4, KP4, HB4⟩
        case measure => simp [intOf]; omega
      · have HN2 : Hid (M = nrM (fun i => asuV (fun k => Z (k * S + i)) R) (n + 1)) := by have := HNM.out; rw [if_neg hg] at this; exact this
        have hmx : max M sv = M := by omega
        go_wp2
        go_roundw
        case rel => exact ⟨n + 1, by first | rw [← HN2.out] | (rw [← HN2.out, hmx]), by go_num, by omega, HC4, L4, KP4, HB4⟩
        case measure => simp [intOf]; omega
    · obtain rfl : n = C := by omega
      go_wp2
      go_ret2
      exact ⟨rfl, Cc.out, B.out⟩
theorem nHeadT : nrM (fun i => asuV (fun k => zHead (k * 2 + i)) 1) 2 = 4617315517961601024 := by decide +kernel
theorem nHeadR : nrM (fun i => asuV (fun k => zHead (i * 2 + k)) 2) 1 = 4620693217682128896 := by decide +kernel
set_option maxHeartbeats 2000000 in
theorem lHead11 (w : World) : Calls Try.prog 11 #[] w fun e w' => e = .returned (.bool true) ∧ Below w.heap.size w w' := by
  go_enter Try.func11, Try.ntmps11
  go_wp2_with fail
  refine (mNew 1 2 _ (by decide) (by decide) (by decide)).mono ?_
  rintro e w1 ⟨rfl, _, hR, hb1⟩
  obtain ⟨g, hg⟩ : ∃ g, g = w.heap.size + 1 := ⟨_, rfl⟩
  rw [← hg] at hR ⊢
  have HGg : Hid (w.heap.size ≤ g) := by show _ ≤ _; omega
  have hgl := hR.lt
  have T : Hid (Rgt 1 2 2 2) := tight 1 2 (by decide) (by decide)
  have R1 : Hid (RowU w1 g [0, 0]) := hR
  have B1 : Hid (Below _ _ _) := hb1
  have z1 := hb1.size
  clear hR hb1 hg
  go_wp2_with fail
  have mW := MBox.made w1 1 2 2 (.slice (some ⟨g, 0, none⟩) 2 2)
  have bW : Below w1.heap.size w1 (w1.alloc (.cells #[.int .i64 1, .int .i64 2, .int .i64 2, .slice (some ⟨g, 0, none⟩) 2 2] 26)) := (Below.refl _ _).alloc (Nat.le_refl _) _
  generalize (w1.alloc (.cells #[.int .i64 1, .int .i64 2, .int .i64 2, .slice (some ⟨g, 0, none⟩) 2 2] 26)) = W at mW bW ⊢
  refine (mSet 1 2 2 g 2 2 [0, 0] 0 0 4613937818241073152 W T.out (R1.out.below bW) rfl (Nat.le_refl _) (by decide) (by decide)).mono ?_
  rintro e w2 ⟨rfl, hR2, hB2⟩
  have M2 : Hid (MBox w2 _ _ _ _ _) := mW.bes hB2 (ne_some (by omega))
  have R2 : Hid (RowU w2 g [4613937818241073152, 0]) := hR2
  have B2 : Hid (Below w.heap.size w w2) := (bstep B1.out bW).trans (hB2.below _ (by have := bW.size; omega) (fun k e => by have := HGg.out; injection e with e; omega))
  obtain ⟨q0, q1, q2, q3, q4⟩ := M2.out
  clear hR2 hB2 mW bW
  go_wp2_with fail
  refine (mSet 1 2 2 g 2 2 _ 0 1 13840687554816376832 w2 T.out R2.out rfl (Nat.le_refl _) (by decide) (by decide)).mono ?_
  rintro e w3 ⟨rfl, hR3, hB3⟩
  have M3 : Hid (MBox w3 _ _ _ _ _) := M2.out.bes hB3 (ne_some (by omega))
  have R3 : Hid (RowU w3 g [4613937818241073152, 13840687554816376832]) := hR3
  have B3 : Hid (Below w.heap.size w w3) := B2.out.trans (hB3.below _ B2.out.size (fun k e => by have := HGg.out; injection e with e; omega))
  obtain ⟨p0, p1, p2, p3, p4⟩ := M3.out
  clear hR3 hB3 q0 q1 q2 q3 q4
  go_wp2_with fail
  refine (mNormT none none 0 1 2 2 _ 2 2 zHead w3 (IsCalc.nil _ _) T.out (R3.out.row (by decide) zHead_rng) aHead (by decide)).mono ?_
  rintro e w4 ⟨rfl, _, hb4⟩
  rw [nHeadT]
  have M4 : Hid (MBox w4 _ _ _ _ _) := M3.out.below hb4.nil
  have R4 : Hid (RowU w4 g _) := R3.out.below hb4.nil
  have B4 : Hid (Below w.heap.size w w4) := bstep B3.out hb4.nil
  clear hb4 p0 p1 p2 p3 p4
  obtain ⟨p0, p1, p2, p3, p4⟩ := M4.out
  go_wp2_with fail
  refine (mNormR none none 0 1 2 2 _ 2 2 zHead w4 (IsCalc.nil _ _) T.out (R4.out.row (by decide) zHead_rng) aHead (by decide)).mono ?_
  rintro e w5 ⟨rfl, _, hb5⟩
  rw [nHeadR]
  have B5 : Hid (Below w.heap.size w w5) := bstep B4.out hb5.nil
  clear hb5
  go_wp2
  go_ret
  exact ⟨ret_eq rfl, B5.out⟩
end Go.Proofs.Ytpakpgjbgehhjaa
