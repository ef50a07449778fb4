/-
  Texts put together: MulH MulN.
-/
import Derived.Test.YtpakpgjbgehhjaaGreatProg
import Derived.Test.YtpakpgjbgehhjaaGreatGrS
import Derived.Test.YtpakpgjbgehhjaaGreatGrQ
/-
  What the laws' own made, row and list return: a matrix of numbers again and again; a row of a matrix; a list. Conditions: at most 100 numbers; small sizes.
-/
namespace Go.Proofs.YtpakpgjbgehhjaaGreat
open Go.RowKit
set_option linter.unusedVariables false
set_option linter.unusedSimpArgs false

/-- What stands in place j of numbers again and again, from one on; z where there are none. -/
def mC (U : Nat → Int) (len f : Nat) (z : Int) (j : Nat) : Int := if 0 < len then U ((j + f) % len) else z
theorem mC_rng (U : Nat → Int) (len f : Nat) (z : Int) (hz : 0 ≤ z ∧ z < 18446744073709551616) (h : ∀ i, 0 ≤ U i ∧ U i < 18446744073709551616) (j : Nat) : 0 ≤ mC U len f z j ∧ mC U len f z j < 18446744073709551616 := by
  unfold mC
  split
  · exact h _
  · exact hz
/-- The first k of N numbers are Z's, the others 0. -/
def MkI (xs : List Int) (Z : Nat → Int) (N k : Nat) : Prop := xs.length = N ∧ ∀ i, i < N → xs[i]?.getD 0 = if i < k then Z i else 0
theorem MkI.new (Z : Nat → Int) (N : Nat) : MkI (List.replicate N 0) Z N 0 := ⟨List.length_replicate, fun i hi => by rw [if_neg (Nat.not_lt_zero _), List.getElem?_replicate, if_pos hi]; rfl⟩
theorem MkI.set {xs : List Int} {Z : Nat → Int} {N k : Nat} (h : MkI xs Z N k) (hk : k < N) (x : Int) (hx : x = Z k) : MkI (xs.set k x) Z N (k + 1) := by
  obtain ⟨h1, h2⟩ := h
  refine ⟨by rw [List.length_set]; exact h1, fun i hi => ?_⟩
  rw [List.getElem?_set]
  by_cases e : k = i
  · subst e
    rw [if_pos rfl, if_pos (by omega), if_pos (Nat.lt_succ_self _)]
    exact hx
  · rw [if_neg e, h2 i hi]
    by_cases g : i < k
    · rw [if_pos g, if_pos (by omega)]
    · rw [if_neg g, if_neg (by omega)]
theorem MkI.same {xs : List Int} {Z : Nat → Int} {N k : Nat} (h : MkI xs Z N k) (hz : Z k = 0) : MkI xs Z N (k + 1) := by
  obtain ⟨h1, h2⟩ := h
  refine ⟨h1, fun i hi => ?_⟩
  rw [h2 i hi]
  by_cases g : i < k
  · rw [if_pos g, if_pos (by omega)]
  · rw [if_neg g]
    by_cases e : i = k
    · rw [if_pos (by omega), e, hz]
    · rw [if_neg (by omega)]
theorem MkI.row {w : World} {g : Nat} {xs : List Int} {Z : Nat → Int} {N : Nat} (h : MkI xs Z N N) (hr : RowU w g xs) (hN : N ≤ 1000000) (hz : ∀ i, 0 ≤ Z i ∧ Z i < 18446744073709551616) : URow w (some ⟨g, 0, none⟩) N N Z := by
  obtain ⟨h1, h2⟩ := h
  refine ⟨Nat.le_refl _, by unfold maxLen; omega, hz, fun _ => ⟨g, 0, rfl, hr.lt, fun i hi => ?_⟩⟩
  rw [Nat.zero_add, hr.cell i (by omega), h2 i hi, if_pos hi]
/-- The world while made runs. -/
structure MdW (w wr : World) (R C N : Nat) (k9 g : Nat) (xs : List Int) : Prop where
  ans : WBox wr w.heap.size 0 0 0 (.slice none 0 0)
  m : MBox wr k9 (R : Int) (C : Int) (C : Int) (.slice (some ⟨g, 0, none⟩) N N)
  row : RowU wr g xs
  bel : Below w.heap.size w wr
theorem MdW.put {w wr wr' : World} {R C N k9 g : Nat} {xs ys : List Int} (h : MdW w wr R C N k9 g xs) (hb : Bes (some g) wr wr') (hr : RowU wr' g ys) (h1 : w.heap.size < g) (h2 : g ≠ k9) : MdW w wr' R C N k9 g ys :=
  ⟨h.ans.bes hb (ne_some (by omega)), h.m.bes hb (ne_some h2), hr, h.bel.trans (hb.below _ h.bel.size (fun k e => by injection e with e; omega))⟩
theorem rem_facts (x len : Nat) (hp : 0 < len) : ∃ Q, Q = x % len ∧ Q < len ∧ (x : Int).tmod (len : Int) = (Q : Int) ∧ (x : Int) % (len : Int) = (Q : Int) := by
  refine ⟨x % len, rfl, Nat.mod_lt _ hp, ?_, (Int.natCast_emod _ _).symm⟩
  rw [Int.tmod_eq_emod_of_nonneg (by omega)]
  exact (Int.natCast_emod _ _).symm
set_option maxHeartbeats 4000000 in
set_option maxRecDepth 100000 in
theorem lMade12 (C f : Nat) (a : Option Addr) (len cap : Nat) (U : Nat → Int) (w : World) (hx : URow w a len cap U) (hl : len ≤ 100) (hC : C ≤ 8) (hf : f ≤ 8) :
    Calls Tryz.prog 6 #[.int .i64 (C : Int), .slice a len cap, .int .i64 (f : Int)] w fun e w' => ∃ g, e = .returned (.agg #[.int .i64 (C : Int), .int .i64 (C : Int), .int .i64 (C : Int), .slice (some ⟨g, 0, none⟩) (C * C) (C * C)]) ∧ w.heap.size ≤ g ∧ URow w' (some ⟨g, 0, none⟩) (C * C) (C * C) (mC U len f 0) ∧ Below w.heap.size w w' := by
  have HX : Hid (URow w a len cap U) := hx
  have HZ : Hid (∀ i, 0 ≤ mC U len f 0 i ∧ mC U len f 0 i < 18446744073709551616) := fun i => mC_rng U len f 0 (by decide) hx.2.2.1 i
  obtain ⟨lb, cb⟩ := hx.lenB
  clear hx
  have hRC : C * C ≤ 64 := Nat.mul_le_mul hC hC
  obtain ⟨N, hN⟩ : ∃ N, C * C = N := ⟨_, rfl⟩
  have HN : Hid (C * C = N) := hN
  rw [hN] at hRC ⊢
  clear hN
  go_enter Tryz.func6, Tryz.ntmps6
  go_wp2_with fail
  have wW := WBox.made w 0 0 0 (.slice none 0 0)
  have b0 : Below w.heap.size w (w.alloc (.cells #[.int .i64 0, .int .i64 0, .int .i64 0, .slice none 0 0] 25)) := bmore (Below.refl _ _) _
  generalize (w.alloc (.cells #[.int .i64 0, .int .i64 0, .int .i64 0, .slice none 0 0] 25)) = W0 at wW b0 ⊢
  refine (mNew C C W0 (by omega) (by omega) (by rw [HN.out]; omega)).mono ?_
  rintro e w1 ⟨rfl, _, hrow, hb1⟩
  obtain ⟨g, hg⟩ : ∃ g, g = W0.heap.size + 1 := ⟨_, rfl⟩
  rw [HN.out] at hrow ⊢
  rw [← hg] at hrow ⊢
  have z0 := wW.1.2.2.2.2
  have W1 : Hid (WBox _ _ _ _ _ _) := wW.below hb1
  have B1 : Hid (Below w.heap.size w w1) := bstep b0 hb1
  have R1 : Hid (RowU w1 g (List.replicate N 0)) := hrow
  have G1 : Hid (w.heap.size < g) := by show _ < _; omega
  have G2 : Hid (g < w1.heap.size) := hrow.lt
  clear hb1 b0 wW hrow hg z0
  go_upto_region 2 with fail
  have m9 := MBox.made w1 (C : Int) (C : Int) (C : Int) (.slice (some ⟨g, 0, none⟩) N N)
  have hb1 : Below w1.heap.size w1 (w1.alloc (.cells #[.int .i64 (C : Int), .int .i64 (C : Int), .int .i64 (C : Int), .slice (some ⟨g, 0, none⟩) N N] 25)) := bmore (Below.refl _ _) _
  generalize (w1.alloc (.cells #[.int .i64 (C : Int), .int .i64 (C : Int), .int .i64 (C : Int), .slice (some ⟨g, 0, none⟩) N N] 25)) = V at m9 hb1 ⊢
  obtain ⟨k9, hk9⟩ : ∃ k, k = w1.heap.size := ⟨_, rfl⟩
  rw [← hk9] at m9 ⊢
  have G3 : Hid (g ≠ k9) := by have := G2.out; show _ ≠ _; omega
  have D0 : Hid (MdW w V C C N k9 g (List.replicate N 0)) := ⟨W1.out.below hb1, m9, R1.out.below hb1, bstep B1.out hb1⟩
  have I0 : Hid (MkI (List.replicate N 0) (mC U len f 0) N 0) := MkI.new _ _
  clear hb1 m9 W1 B1 R1 G2 hk9
  obtain ⟨q0, q1, q2, q3, q4⟩ := D0.out.m
  go_wp2
  clear q0 q1 q2 q3 q4
  go_loopw [15] (fun i wr => ∃ (k : Nat) (xs : List Int), i = .int .i64 (k : Int) ∧ k ≤ N ∧ Hid (MdW w wr C C N k9 g xs) ∧ Hid (MkI xs (mC U len f 0) N k)) (fun i _ => N - (intOf i).toNat)
  case atStart => exact ⟨0, _, rfl, Nat.zero_le _, D0, I0⟩
  case round =>
    clear D0 I0
    obtain ⟨k, xs, rfl, hk, D, I⟩ := hrel
    obtain ⟨q0, q1, q2, q3, q4⟩ := D.out.m
    by_cases hlt : (k : Int) < (N : Int)
    · by_cases hp : 0 < len
      · obtain ⟨b, o, rfl, hb, hcell⟩ := HX.out.2.2.2 hp
        obtain ⟨Q, hQ, hQl, hq1, hq2⟩ := rem_facts (k + f) len hp
        obtain ⟨PM, hPM⟩ : ∃ PM, k + f = PM := ⟨_, rfl⟩
        have hw6 : IntKind.i64.wrap ((k : Int) + (f : Int)) = (PM : Int) := by rw [IntKind.wrap_i64]; omega
        have uD : mC U len f 0 k = U Q := by unfold mC; rw [if_pos hp, hQ]
        rw [hPM] at hQ hq1 hq2
        have hw8 : PM % len = Q := hQ.symm
        have hw9 : ¬ len = 0 := by omega
        have hw3 : (0 : Int) < (len : Int) := by omega
        have hw4 : ¬ (len : Int) = 0 := by omega
        have hw5 := rem_run (PM : Int) (len : Int) (Q : Int) (by omega) hw3 hq2
        have hQi : (Q : Int) < (len : Int) := by omega
        have hl0 : ((len : Int) == 0) = false := by rw [beq_eq_false_iff_ne]; omega
        have hbg : ¬ b = g := by have := G1.out; omega
        have hkg : ¬ k9 = g := fun e => G3.out e.symm
        have u1 := (D.out.bel.cell (p := ⟨b, o + Q, none⟩) hb).trans (hcell Q hQl)
        have x1 := D.out.row.cell k (by have := I.out.1; omega)
        have x2 := D.out.row.frozen k
        obtain ⟨u, hu⟩ : ∃ u, U Q = u := ⟨_, rfl⟩
        rw [hu] at u1 uD
        have UD : Hid (_ = _) := uD
        clear hcell hQ hu hPM uD
        go_wp2
        go_region_held3 (fun w' => (w'.cell? ⟨k9, 3, none⟩ = some (.slice (some ⟨g, 0, none⟩) N N)) ∧ w'.cell? ⟨b, o + Q, none⟩ = some (.int .u64 u)) (simp [go_sem, *]) (fail)
        go_wp2
        go_roundw
        case rel => exact ⟨k + 1, _, by go_num, by omega, D.out.put (Bes.put _ g k _).drew (D.out.row.set k _).drew G1.out G3.out, I.out.set (by omega) _ UD.out.symm⟩
        case measure => simp [intOf]; omega
      · obtain rfl : len = 0 := by omega
        go_wp2
        go_roundw
        case rel => exact ⟨k + 1, xs, by go_num, by omega, D, I.out.same (by unfold mC; rw [if_neg hp])⟩
        case measure => simp [intOf]; omega
    · obtain rfl : k = N := by omega
      obtain ⟨⟨v0, v1, v2, v3, v4⟩, v5⟩ := D.out.ans
      have y0 := v5 0
      have y1 := v5 1
      have y2 := v5 2
      have y3 := v5 3
      clear v5
      go_wp2
      refine bodyPost_ret (v := .agg #[.int .i64 (C : Int), .int .i64 (C : Int), .int .i64 (C : Int), .slice (some ⟨g, 0, none⟩) k k]) (by simp [results, Tryz.results6, go_sem, *]) rfl ?_
      have hP := bes_puts wr w.heap.size (.int .i64 (C : Int)) (.int .i64 (C : Int)) (.int .i64 (C : Int)) (.slice (some ⟨g, 0, none⟩) k k)
      have g1 := G1.out
      exact ⟨g, rfl, by omega, (I.out.row D.out.row (by omega) HZ.out).bes hP (Apt.ne (by omega)), Bes.old D.out.bel hP (Nat.le_refl _)⟩
theorem MBox.old {w w' : World} {B b : Nat} {R C S : Int} {s : Value} (h : MBox w b R C S s) (hb : Below B w w') (hB : b < B) : MBox w' b R C S s := by
  obtain ⟨h0, h1, h2, h3, h4⟩ := h
  exact ⟨(hb.cell (p := ⟨b, 0, none⟩) hB).trans h0, (hb.cell (p := ⟨b, 1, none⟩) hB).trans h1, (hb.cell (p := ⟨b, 2, none⟩) hB).trans h2, (hb.cell (p := ⟨b, 3, none⟩) hB).trans h3, Nat.lt_of_lt_of_le h4 hb.size⟩
set_option maxHeartbeats 2000000 in
set_option maxRecDepth 100000 in
theorem lList12 (n f : Nat) (a : Option Addr) (len cap : Nat) (U : Nat → Int) (w : World) (hx : URow w a len cap U) (hl : len ≤ 100) (hn : n ≤ 1000) (hf : f ≤ 8) :
    Calls Tryz.prog 7 #[.int .i64 (n : Int), .slice a len cap, .int .i64 (f : Int)] w fun e w' => ∃ g c, e = .returned (.slice (some ⟨g, 0, none⟩) n c) ∧ w.heap.size ≤ g ∧ OwnU w' w.heap.size (.slice (some ⟨g, 0, none⟩) n c) (lst (mC U len f 4607182418800017408) n) ∧ URow w' (some ⟨g, 0, none⟩) n c (mC U len f 4607182418800017408) ∧ Below w.heap.size w w' := by
  have HX : Hid (URow w a len cap U) := hx
  obtain ⟨lb, cb⟩ := hx.lenB
  have YR : Hid (∀ i, 0 ≤ mC U len f 4607182418800017408 i ∧ mC U len f 4607182418800017408 i < 18446744073709551616) := fun i => mC_rng U len f _ (by decide) hx.2.2.1 i
  have UR : Hid (∀ i, 0 ≤ U i ∧ U i < 18446744073709551616) := hx.2.2.1
  clear hx
  obtain ⟨Y, hY⟩ : ∃ Y : Nat → Int, Y = mC U len f 4607182418800017408 := ⟨_, rfl⟩
  have HY : Hid (∀ k, Y k = mC U len f 4607182418800017408 k) := by rw [hY]; exact fun _ => rfl
  rw [← hY] at YR ⊢
  clear hY
  go_enter Tryz.func7, Tryz.ntmps7
  go_wp2
  have O0 : Hid (OwnU (w.alloc (.cells #[] 36)) w.heap.size (.slice (some ⟨w.heap.size, 0, none⟩) 0 0) (lst Y 0)) := OwnU.new w w.heap.size (Nat.le_refl _)
  have B1 : Hid (Below w.heap.size w (w.alloc (.cells #[] 36))) := bmore (Below.refl _ _) _
  generalize (w.alloc (.cells #[] 36)) = V at O0 B1 ⊢
  generalize (Value.slice (some ⟨w.heap.size, 0, none⟩) 0 0) = v0 at O0 ⊢
  go_loopw [7, 8] (fun v i wr => ∃ k : Nat, i = .int .i64 (k : Int) ∧ k ≤ n ∧ Hid (OwnU wr w.heap.size v (lst Y k)) ∧ Hid (Below w.heap.size w wr)) (fun _ i _ => n - (intOf i).toNat)
  case atStart => exact ⟨0, rfl, Nat.zero_le _, O0, B1⟩
  case round =>
    clear O0 B1
    obtain ⟨k, rfl, hk, O, B⟩ := hrel
    by_cases hlt : (k : Int) < (n : Int)
    · have YK := HY.out k
      obtain ⟨y0, y1⟩ := YR.out k
      obtain ⟨y, hy⟩ : ∃ y, Y k = y := ⟨_, rfl⟩
      have LS : Hid (lst Y k ++ [y] = lst Y (k + 1)) := by rw [← hy]; exact (lst_succ Y k).symm
      rw [hy] at y0 y1 YK
      have hz1 := Below.size B.out
      by_cases hp : 0 < len
      · obtain ⟨b, o, rfl, hb, hcell⟩ := HX.out.2.2.2 hp
        obtain ⟨Q, hQ, hQl, hq1, hq2⟩ := rem_facts (k + f) len hp
        obtain ⟨PM, hPM⟩ : ∃ PM, k + f = PM := ⟨_, rfl⟩
        have hw6 : IntKind.i64.wrap ((k : Int) + (f : Int)) = (PM : Int) := by rw [IntKind.wrap_i64]; omega
        have uD : y = U Q := by rw [YK]; unfold mC; rw [if_pos hp, hQ]
        rw [hPM] at hQ hq1 hq2
        have hw8 : PM % len = Q := hQ.symm
        have hw9 : ¬ len = 0 := by omega
        have hw3 : (0 : Int) < (len : Int) := by omega
        have hw4 : ¬ (len : Int) = 0 := by omega
        have hw5 := rem_run (PM : Int) (len : Int) (Q : Int) (by omega) hw3 hq2
        have hQi : (Q : Int) < (len : Int) := by omega
        have hl0 : ((len : Int) == 0) = false := by rw [beq_eq_false_iff_ne]; omega
        have u1 := (B.out.cell (p := ⟨b, o + Q, none⟩) hb).trans (hcell Q hQl)
        rw [← uD] at u1
        clear hcell hQ hPM uD hy YK
        go_wp2_with (at_builtin; refine wpListU_app rfl _ _ rfl w.heap.size _ (lst Y k) rfl (O.out.alloc _) _ [y] rfl (SeesU.one wr y) (by rw [lst_len]; simp; omega) (by simp; omega) ?_)
        intro v' W3 own3 bel3 _ _
        rw [LS.out] at own3
        have O3 : Hid (OwnU W3 w.heap.size v' (lst Y (k + 1))) := own3
        have bel4 : Below w.heap.size wr W3 := ((Below.refl _ wr).alloc hz1 _).trans bel3
        have B3 : Hid (Below w.heap.size w W3) := B.out.trans bel4
        clear own3 bel3 bel4
        go_wp2
        go_roundw
        case rel => exact ⟨k + 1, by go_num, by omega, O3, B3⟩
        case measure => simp [intOf]; omega
      · obtain rfl : len = 0 := by omega
        have uD : y = 4607182418800017408 := by rw [YK]; unfold mC; rw [if_neg hp]
        subst uD
        clear hy YK
        go_wp2_with (at_builtin; refine wpListU_app rfl _ _ rfl w.heap.size _ (lst Y k) rfl (O.out.alloc _) _ [4607182418800017408] rfl (SeesU.one wr 4607182418800017408) (by rw [lst_len]; simp; omega) (by simp; omega) ?_)
        intro v' W3 own3 bel3 _ _
        rw [LS.out] at own3
        have O3 : Hid (OwnU W3 w.heap.size v' (lst Y (k + 1))) := own3
        have bel4 : Below w.heap.size wr W3 := ((Below.refl _ wr).alloc hz1 _).trans bel3
        have B3 : Hid (Below w.heap.size w W3) := B.out.trans bel4
        clear own3 bel3 bel4
        go_wp2
        go_roundw
        case rel => exact ⟨k + 1, by go_num, by omega, O3, B3⟩
        case measure => simp [intOf]; omega
    · obtain rfl : k = n := by omega
      obtain ⟨g, c, rfl, h1, h2, h3⟩ := O.out.row YR.out
      go_wp2
      go_ret
      exact ⟨g, c, ret_eq rfl, h1, O.out, h3, B.out⟩
theorem WBox.cells {w : World} {b : Nat} {R C S : Int} {s : Value} (h : WBox w b R C S s) : w.cell? ⟨b, 0, none⟩ = some (.int .i64 R) ∧ w.cell? ⟨b, 1, none⟩ = some (.int .i64 C) ∧ w.cell? ⟨b, 2, none⟩ = some (.int .i64 S) ∧ w.cell? ⟨b, 3, none⟩ = some s := h.1.cells
theorem SeesU.bes {w w' : World} {c : Option Nat} {g off n cap : Nat} {xs : List Int} (h : SeesU w (.slice (some ⟨g, off, none⟩) n cap) xs) (hb : Bes c w w') (hc : c ≠ some g) : SeesU w' (.slice (some ⟨g, off, none⟩) n cap) xs := by
  obtain ⟨g', o', c', e, h1, h2, h3, h4⟩ := h
  injection e with e1 e2 e3
  injection e1 with e1
  injection e1 with e4 e5 e6
  subst e4 e5 e2 e3
  exact ⟨_, _, _, rfl, Nat.lt_of_lt_of_le h1 hb.size, h2, h3, fun i hi => (hb.cell (p := ⟨_, _, none⟩) h1 hc).trans (h4 i hi)⟩
theorem SeesU.lt {w : World} {g off n cap : Nat} {xs : List Int} (h : SeesU w (.slice (some ⟨g, off, none⟩) n cap) xs) : g < w.heap.size := by
  obtain ⟨g', o', c', e, h1, _⟩ := h
  injection e with e1 e2 e3
  injection e1 with e1
  injection e1 with e4
  rw [e4]; exact h1
theorem SeesU.grown {w w' : World} {row : Option Nat} {g off n cap : Nat} {xs : List Int} (h : SeesU w (.slice (some ⟨g, off, none⟩) n cap) xs) (hg : w.grownBy w' row) (hne : row ≠ some g) : SeesU w' (.slice (some ⟨g, off, none⟩) n cap) xs := by
  obtain ⟨g', o', c', e, h1, h2, h3, h4⟩ := h
  injection e with e1 e2 e3
  injection e1 with e1
  injection e1 with e4 e5 e6
  subst e4 e5 e2 e3
  exact ⟨_, _, _, rfl, Nat.lt_of_lt_of_le h1 hg.size, h2, h3, fun i hi => (World.cell?_of_block (w := w) (hg.block _ h1 (Ne.symm hne))).trans (h4 i hi)⟩
end Go.Proofs.YtpakpgjbgehhjaaGreat

/-
  What mul's Norm returns of columns' and rows' sums, with any Calc; the document's example of layer 11 holds. Conditions: a finite matrix that is right, of at most a million numbers.
-/
namespace Go.Proofs.YtpakpgjbgehhjaaGreat
open Go.RowKit
set_option linter.unusedVariables false
set_option linter.unusedSimpArgs false

end Go.Proofs.YtpakpgjbgehhjaaGreat
