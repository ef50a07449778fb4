/-
  Texts put together: MulO MulP.
-/
import Derived.Test.YtpakpgjbgehhjaaProg
import Derived.Test.YtpakpgjbgehhjaaGrAH
import Derived.Test.YtpakpgjbgehhjaaGrAG
/-
  What the law MulWhole's own 'of' returns: a matrix of whole numbers, again and again. Conditions: at most 100 numbers; small sizes.
-/
namespace Go.Proofs.Ytpakpgjbgehhjaa
open Go.RowKit
set_option linter.unusedVariables false
set_option linter.unusedSimpArgs false

theorem whP_zero : whP 0 = 0 := by show (rndS (0 * _)).1 = 0; rw [Int.zero_mul, rnd_zero]
theorem and_63s (u r K : Int) (h : u % 64 = r) (hK : r - 32 = K) : IntKind.i64.wrap K = K ∧ -32 ≤ K ∧ K ≤ 31 := by
  rw [IntKind.wrap_i64]
  omega
/-- A dot of patterns of whole numbers: canonical, so that equal numbers have equal patterns. -/
theorem dotC (X Y a b : Nat → Int) (K L n : Nat) (hX : ∀ i, i < n → IsC (X i) (a i) ∧ (a i).natAbs ≤ K) (hY : ∀ i, i < n → IsC (Y i) (b i) ∧ (b i).natAbs ≤ L) (hn : n ≤ 7) (hKL : K * L ≤ 1000000000) (F : Int) (h0 : 0 ≤ F) (h1 : F ≤ 31) :
    IsC (dotV X Y n) (wsum a b n) ∧ dotF F X Y n = F ∧ (wsum a b n).natAbs ≤ n * (K * L) := by
  obtain ⟨d1, d2, d3⟩ := dot_whole X Y a b K L n (fun i hi => ⟨(hX i hi).1.1, (hX i hi).2⟩) (fun i hi => ⟨(hY i hi).1.1, (hY i hi).2⟩) hn hKL F h0 h1
  refine ⟨?_, d2, d3⟩
  have key : ∀ m, m ≤ n → IsC (dotV X Y m) (wsum a b m) := by
    intro m
    induction m with
    | zero => intro _; exact ⟨isW_nil, by show (0 : Int) ≠ _; decide⟩
    | succ k ih =>
      intro hk
      obtain ⟨b1, b2⟩ := wsum_bd a b K L n (fun i hi => (hX i hi).2) (fun i hi => (hY i hi).2)
      have b3 := (wsum_bd a b K L k (fun i hi => (hX i (by omega)).2) (fun i hi => (hY i (by omega)).2)).1
      have b4 := b2 k (by omega)
      have b5 : k * (K * L) ≤ 7 * (K * L) := Nat.mul_le_mul_right _ (by omega)
      have hm := mulW (hX k (by omega)).1.1 (hY k (by omega)).1.1 (by omega)
      show IsC (addS (dotV X Y k) (mulS (X k) (Y k)).1).1 (wsum a b k + a k * b k)
      refine (addC (ih (by omega)) hm.1 ?_).1
      generalize a k * b k = p at *
      omega
  exact key n (Nat.le_refl _)
set_option maxHeartbeats 4000000 in
set_option maxRecDepth 100000 in
theorem lOf11 (R C f kb : Nat) (a : Option Addr) (len cap : Nat) (P : Nat → Int) (w : World) (hcell0 : w.cell? ⟨kb, 0, none⟩ = some (.slice a len cap)) (hkb : kb < w.heap.size) (hx : IRow w a len cap P) (hl : len ≤ 100) (hR : R ≤ 8) (hC : C ≤ 8) (hf : f ≤ 8) :
    Calls Try.prog 34 #[.int .i64 (R : Int), .int .i64 (C : Int), .int .i64 (f : Int), .pointer (some ⟨kb, 0, none⟩)] w fun e w' => ∃ g, e = .returned (.agg #[.int .i64 (R : Int), .int .i64 (C : Int), .int .i64 (C : Int), .slice (some ⟨g, 0, none⟩) (R * C) (R * C)]) ∧ w.heap.size ≤ g ∧ URow w' (some ⟨g, 0, none⟩) (R * C) (R * C) (fun j => whP (wC P len f 64 32 j)) ∧ Below w.heap.size w w' := by
  have HX : Hid (IRow w a len cap P) := hx
  have HK : Hid (kb < w.heap.size ∧ w.cell? ⟨kb, 0, none⟩ = some (.slice a len cap)) := ⟨hkb, hcell0⟩
  obtain ⟨Z, hZ⟩ : ∃ Z : Nat → Int, Z = fun j => whP (wC P len f 64 32 j) := ⟨_, rfl⟩
  have HZ : Hid (∀ j, Z j = whP (wC P len f 64 32 j)) := by rw [hZ]; exact fun _ => rfl
  rw [← hZ]
  have ZR : Hid (∀ i, 0 ≤ Z i ∧ Z i < 18446744073709551616) := fun i => by rw [HZ.out]; exact whP_rng _
  obtain ⟨lb, cb⟩ := hx.lenB
  clear hx hcell0 hkb hZ
  have hRC : R * C ≤ 64 := Nat.mul_le_mul hR hC
  obtain ⟨N, hN⟩ : ∃ N, R * C = N := ⟨_, rfl⟩
  have HN : Hid (R * C = N) := hN
  rw [hN] at hRC ⊢
  clear hN
  go_enter Try.func34, Try.ntmps34
  go_wp2_with fail
  have wW := WBox.made w 0 0 0 (.slice none 0 0)
  have b0 : Below w.heap.size w (w.alloc (.cells #[.int .i64 0, .int .i64 0, .int .i64 0, .slice none 0 0] 26)) := bmore (Below.refl _ _) _
  generalize (w.alloc (.cells #[.int .i64 0, .int .i64 0, .int .i64 0, .slice none 0 0] 26)) = W0 at wW b0 ⊢
  refine (mNew R C W0 (by omega) (by omega) (by rw [HN.out]; omega)).mono ?_
  rintro e w1 ⟨rfl, _, hrow, hb1⟩
  obtain ⟨g, hg⟩ : ∃ g, g = W0.heap.size + 1 := ⟨_, rfl⟩
  rw [HN.out] at hrow ⊢
  rw [← hg] at hrow ⊢
  have z0 := wW.1.2.2.2.2
  have W1 : Hid (WBox _ _ _ _ _ _) := wW.below hb1
  have B1 : Hid (Below w.heap.size w w1) := bstep b0 hb1
  have R1 : Hid (RowU w1 g (List.replicate N 0)) := hrow
  have G1 : Hid (w.heap.size < g) := by show _ < _; omega
  have G2 : Hid (g < w1.heap.size) := hrow.lt
  clear hb1 b0 wW hrow hg z0
  go_upto_region 2 with fail
  have m9 := MBox.made w1 (R : Int) (C : Int) (C : Int) (.slice (some ⟨g, 0, none⟩) N N)
  have hb1 : Below w1.heap.size w1 (w1.alloc (.cells #[.int .i64 (R : Int), .int .i64 (C : Int), .int .i64 (C : Int), .slice (some ⟨g, 0, none⟩) N N] 26)) := bmore (Below.refl _ _) _
  generalize (w1.alloc (.cells #[.int .i64 (R : Int), .int .i64 (C : Int), .int .i64 (C : Int), .slice (some ⟨g, 0, none⟩) N N] 26)) = V at m9 hb1 ⊢
  obtain ⟨k9, hk9⟩ : ∃ k, k = w1.heap.size := ⟨_, rfl⟩
  rw [← hk9] at m9 ⊢
  have G3 : Hid (g ≠ k9) := by have := G2.out; show _ ≠ _; omega
  have D0 : Hid (MdW w V R C N k9 g (List.replicate N 0)) := ⟨W1.out.below hb1, m9, R1.out.below hb1, bstep B1.out hb1⟩
  have I0 : Hid (MkI (List.replicate N 0) Z N 0) := MkI.new _ _
  clear hb1 m9 W1 B1 R1 G2 hk9
  obtain ⟨q0, q1, q2, q3, q4⟩ := D0.out.m
  go_wp2
  clear q0 q1 q2 q3 q4
  go_loopw [18] (fun i wr => ∃ (k : Nat) (xs : List Int), i = .int .i64 (k : Int) ∧ k ≤ N ∧ Hid (MdW w wr R C N k9 g xs) ∧ Hid (MkI xs Z N k)) (fun i _ => N - (intOf i).toNat)
  case atStart => exact ⟨0, _, rfl, Nat.zero_le _, D0, I0⟩
  case round =>
    clear D0 I0
    obtain ⟨k, xs, rfl, hk, D, I⟩ := hrel
    obtain ⟨W2, rfl⟩ : ∃ x, x = wr := ⟨wr, rfl⟩
    have y0 := (Below.cell (p := ⟨kb, 0, none⟩) D.out.bel HK.out.1).trans HK.out.2
    by_cases hlt : (k : Int) < (N : Int)
    · by_cases hp : 0 < len
      · obtain ⟨b, o, rfl, hb, hcell⟩ := HX.out.2.2.2 hp
        obtain ⟨Q, hQ, hQl, hq1, hq2⟩ := rem_facts (k + f) len hp
        obtain ⟨PM, hPM⟩ : ∃ PM, k + f = PM := ⟨_, rfl⟩
        have hw6 : IntKind.i64.wrap ((k : Int) + (f : Int)) = (PM : Int) := by rw [IntKind.wrap_i64]; omega
        have uD : Z k = whP (P Q % 64 - 32) := by rw [HZ.out]; unfold wC; rw [if_pos hp, hQ]
        rw [hPM] at hQ hq1 hq2
        have hw8 : PM % len = Q := hQ.symm
        have hw9 : ¬ len = 0 := by omega
        have hw3 : (0 : Int) < (len : Int) := by omega
        have hw4 : ¬ (len : Int) = 0 := by omega
        have hw5 := rem_run (PM : Int) (len : Int) (Q : Int) (by omega) hw3 hq2
        have hQi : (Q : Int) < (len : Int) := by omega
        have hl0 : ((len : Int) == 0) = false := by rw [beq_eq_false_iff_ne]; omega
        have u1 := (D.out.bel.cell (p := ⟨b, o + Q, none⟩) hb).trans (hcell Q hQl)
        obtain ⟨p0, p1⟩ := HX.out.2.2.1 Q
        obtain ⟨u, hu⟩ : ∃ u, P Q = u := ⟨_, rfl⟩
        rw [hu] at u1 uD p0 p1
        have an := and_63 u
        obtain ⟨r, hr⟩ : ∃ r : Int, u % 64 = r := ⟨_, rfl⟩
        obtain ⟨K, hK⟩ : ∃ K, r - 32 = K := ⟨_, rfl⟩
        obtain ⟨hw7, k0, k1⟩ := and_63s u r K hr hK
        rw [hr] at an uD
        rw [hK] at uD
        obtain ⟨v, hv⟩ : ∃ v, whP K = v := ⟨_, rfl⟩
        have HV : Hid (_ = _) := hv
        have UD : Hid (Z k = v) := uD.trans hv
        have HB2 : Hid (Below W2.heap.size W2 W2) := Below.refl _ _
        clear hcell hQ hu hPM uD hr hv
        go_wp2_with fail
        go_region_held3 (fun w' => (w'.cell? ⟨kb, 0, none⟩ = some (.slice (some ⟨b, o, none⟩) len cap)) ∧ w'.cell? ⟨b, o + Q, none⟩ = some (.int .i64 u)) (simp [go_sem, *]) (first | (go_at_call 29; refine (dInt K _ (by omega) (by omega)).mono ?_; rintro e w3 ⟨vk, rfl, ht, hb3⟩; replace HB2 : Hid (Below W2.heap.size W2 w3) := (by first | exact hb3 | exact ((Below.refl _ _).drew).trans hb3); replace y0 := (Below.cell (p := ⟨kb, 0, none⟩) HB2.out (Nat.lt_of_lt_of_le HK.out.1 D.out.bel.size)).trans y0; replace u1 := (Below.cell (p := ⟨b, o + Q, none⟩) HB2.out (Nat.lt_of_lt_of_le hb D.out.bel.size)).trans u1; have HT : Hid (Tell _ _ _ _ _ _) := ht; have hs3 : W2.heap.size ≤ w3.heap.size := HB2.out.size; clear ht hb3) | (go_at_call 36; refine (nearI K _ (by omega) (by omega) vk _ HT.out).mono ?_; rintro e w4 ⟨fl, rfl, hb4⟩; rw [HV.out]; have HB3 : Hid (Below W2.heap.size W2 w4) := bstep HB2.out hb4; replace y0 := (Below.cell (p := ⟨kb, 0, none⟩) hb4 (Nat.lt_of_lt_of_le (Nat.lt_of_lt_of_le HK.out.1 D.out.bel.size) hs3)).trans y0; replace u1 := (Below.cell (p := ⟨b, o + Q, none⟩) hb4 (Nat.lt_of_lt_of_le (Nat.lt_of_lt_of_le hb D.out.bel.size) hs3)).trans u1; clear hb4))
        have D2 : Hid (MdW w w4 R C N k9 g xs) := ⟨D.out.ans.below HB3.out, D.out.m.below HB3.out, D.out.row.below HB3.out, bstep D.out.bel HB3.out⟩
        clear HB2 HB3 HT y0 u1 D
        obtain ⟨q0, q1, q2, q3, q4⟩ := D2.out.m
        have x1 := D2.out.row.cell k (by have := I.out.1; omega)
        have x2 := D2.out.row.frozen k
        go_wp2
        go_roundw
        case rel => exact ⟨k + 1, _, by go_num, by omega, D2.out.put (bes_put _ g k _) (D2.out.row.set k _) G1.out G3.out, I.out.set (by omega) _ UD.out.symm⟩
        case measure => simp [intOf]; omega
      · have hz2 : ¬ (0 : Int) < (len : Int) := by omega
        have hz3 : decide ((0 : Int) < (len : Int)) = false := decide_eq_false hz2
        have I2 : Hid (MkI xs Z N (k + 1)) := I.out.same (by rw [HZ.out]; unfold wC; rw [if_neg hp, whP_zero])
        go_wp2
        go_roundw
        case rel => exact ⟨k + 1, xs, by go_num, by omega, D, I2⟩
        case measure => simp [intOf]; omega
    · obtain rfl : k = N := by omega
      obtain ⟨⟨v0, v1, v2, v3, v4⟩, v5⟩ := D.out.ans
      have y0 := v5 0
      have y1 := v5 1
      have y2 := v5 2
      have y3 := v5 3
      obtain ⟨q0, q1, q2, q3, q4⟩ := D.out.m
      clear v5
      go_wp2
      refine bodyPost_ret (v := .agg #[.int .i64 (R : Int), .int .i64 (C : Int), .int .i64 (C : Int), .slice (some ⟨g, 0, none⟩) k k]) (by simp [results, Try.results34, go_sem, *]) rfl ?_
      have hP := bes_puts W2 w.heap.size (.int .i64 (R : Int)) (.int .i64 (C : Int)) (.int .i64 (C : Int)) (.slice (some ⟨g, 0, none⟩) k k)
      have g1 := G1.out
      exact ⟨g, rfl, by omega, (I.out.row D.out.row (by omega) ZR.out).bes hP (Apt.ne (by omega)), Bes.old D.out.bel hP (Nat.le_refl _)⟩
end Go.Proofs.Ytpakpgjbgehhjaa

/-
  The mathematics of MulWhole, matrix by matrix: products of matrices of whole numbers, as patterns; either way of putting three together. No conditions but small sizes.
-/
namespace Go.Proofs.Ytpakpgjbgehhjaa
open Go.RowKit
set_option linter.unusedVariables false

theorem wsum_congr (a b c d : Nat → Int) : ∀ n, (∀ i, i < n → a i = c i ∧ b i = d i) → wsum a b n = wsum c d n
  | 0, _ => rfl
  | n + 1, h => by
    show wsum a b n + a n * b n = wsum c d n + c n * d n
    rw [wsum_congr a b c d n (fun i hi => h i (by omega)), (h n (by omega)).1, (h n (by omega)).2]
/-- A product of two matrices of q columns, of q rows and r columns, row by row. -/
def wm (a b : Nat → Int) (q r n : Nat) : Int := wsum (fun j => a (n / r * q + j)) (fun j => b (j * r + n % r)) q
theorem wm_at (a b : Nat → Int) (q r i k : Nat) (hk : k < r) : wm a b q r (i * r + k) = wsum (fun j => a (i * q + j)) (fun j => b (j * r + k)) q := by
  have hp : 0 < r := by omega
  unfold wm
  rw [Nat.mul_comm i r, Nat.mul_add_div hp, Nat.div_eq_of_lt hk, Nat.mul_add_mod, Nat.mod_eq_of_lt hk, Nat.add_zero]
theorem wm_assoc (a b c : Nat → Int) (q r s i j : Nat) (hj : j < s) : wm (wm a b q r) c r s (i * s + j) = wm a (wm b c r s) q s (i * s + j) := by
  rw [wm_at _ _ _ _ _ _ hj, wm_at _ _ _ _ _ _ hj]
  rw [wsum_congr _ _ (fun l => wsum (fun k => a (i * q + k)) (fun k => b (k * r + l)) q) (fun l => c (l * s + j)) r (fun l hl => ⟨wm_at a b q r i l hl, rfl⟩)]
  rw [wsum_congr (fun k => a (i * q + k)) (fun k => wm b c r s (k * s + j)) (fun k => a (i * q + k)) (fun k => wsum (fun l => b (k * r + l)) (fun l => c (l * s + j)) r) q (fun k hk => ⟨rfl, wm_at b c r s k j hj⟩)]
  exact wsum_assoc (fun k => a (i * q + k)) (fun k l => b (k * r + l)) (fun l => c (l * s + j)) q r
/-- A matrix of patterns of whole numbers: p rows, q columns. -/
def WMat (Z a : Nat → Int) (p q K : Nat) : Prop := ∀ i k, i < p → k < q → IsC (Z (i * q + k)) (a (i * q + k)) ∧ (a (i * q + k)).natAbs ≤ K
theorem mm_whole (A B a b : Nat → Int) (K L p q r : Nat) (hA : WMat A a p q K) (hB : WMat B b q r L) (hq : q ≤ 7) (hKL : K * L ≤ 1000000000) :
    mmF 0 (fun i j => A (i * q + j)) (fun k j => B (j * r + k)) q r p = 0 ∧ ∀ X : Nat → Int, (∀ i k, i < p → k < r → X (i * r + k) = dotV (fun j => A (i * q + j)) (fun j => B (j * r + k)) q) → WMat X (wm a b q r) p r (q * (K * L)) := by
  have key : ∀ i k, i < p → k < r → IsC (dotV (fun j => A (i * q + j)) (fun j => B (j * r + k)) q) (wsum (fun j => a (i * q + j)) (fun j => b (j * r + k)) q) ∧ dotF 0 (fun j => A (i * q + j)) (fun j => B (j * r + k)) q = 0 ∧ (wsum (fun j => a (i * q + j)) (fun j => b (j * r + k)) q).natAbs ≤ q * (K * L) := fun i k hi hk =>
    dotC _ _ (fun j => a (i * q + j)) (fun j => b (j * r + k)) K L q (fun j hj => hA i j hi hj) (fun j hj => hB j k hj hk) hq hKL 0 (by decide) (by decide)
  refine ⟨mmF_same 0 _ _ q r p (fun i k hi hk => (key i k hi hk).2.1), fun X hX i k hi hk => ?_⟩
  obtain ⟨k1, _, k3⟩ := key i k hi hk
  rw [hX i k hi hk, wm_at _ _ _ _ _ _ hk]
  exact ⟨k1, k3⟩
theorem whole_mat (P : Nat → Int) (len f p q : Nat) : WMat (fun j => whP (wC P len f 64 32 j)) (wC P len f 64 32) p q 32 := fun i k _ _ => by
  have h : -32 ≤ wC P len f 64 32 (i * q + k) ∧ wC P len f 64 32 (i * q + k) ≤ 31 := by unfold wC; split <;> omega
  exact ⟨whP_is _ (by omega), by omega⟩
/-- Put together either way, number by number the same. -/
theorem whole_same (A B C AB BC X Y a b c : Nat → Int) (p q r s : Nat) (hp : p ≤ 3) (hq : q ≤ 3) (hr : r ≤ 3) (hs : s ≤ 3) (hA : WMat A a p q 32) (hB : WMat B b q r 32) (hC : WMat C c r s 32)
    (hAB : ∀ i k, i < p → k < r → AB (i * r + k) = dotV (fun j => A (i * q + j)) (fun j => B (j * r + k)) q) (hBC : ∀ i k, i < q → k < s → BC (i * s + k) = dotV (fun j => B (i * r + j)) (fun j => C (j * s + k)) r) :
    mmF 0 (fun i j => A (i * q + j)) (fun k j => B (j * r + k)) q r p = 0 ∧ mmF 0 (fun i j => B (i * r + j)) (fun k j => C (j * s + k)) r s q = 0 ∧ mmF 0 (fun i j => AB (i * r + j)) (fun k j => C (j * s + k)) r s p = 0 ∧ mmF 0 (fun i j => A (i * q + j)) (fun k j => BC (j * s + k)) q s p = 0 ∧
    ((∀ i k, i < p → k < s → X (i * s + k) = dotV (fun j => AB (i * r + j)) (fun j => C (j * s + k)) r) → (∀ i k, i < p → k < s → Y (i * s + k) = dotV (fun j => A (i * q + j)) (fun j => BC (j * s + k)) q) → ∀ n, n < p * s → X n = Y n) := by
  obtain ⟨f1, g1⟩ := mm_whole A B a b 32 32 p q r hA hB (by omega) (by decide)
  obtain ⟨f2, g2⟩ := mm_whole B C b c 32 32 q r s hB hC (by omega) (by decide)
  have mAB := g1 AB hAB
  have mBC := g2 BC hBC
  have b1 : q * (32 * 32) * 32 ≤ 1000000000 := by omega
  have b2 : 32 * (r * (32 * 32)) ≤ 1000000000 := by omega
  obtain ⟨f3, g3⟩ := mm_whole AB C _ c _ 32 p r s mAB hC (by omega) b1
  obtain ⟨f4, g4⟩ := mm_whole A BC a _ 32 _ p q s hA mBC (by omega) b2
  refine ⟨f1, f2, f3, f4, fun hX hY n hn => ?_⟩
  have hs0 : 0 < s := by
    rcases Nat.eq_zero_or_pos s with e | e
    · subst e; rw [Nat.mul_zero] at hn; exact absurd hn (Nat.not_lt_zero n)
    · exact e
  have h1 : n / s < p := Nat.div_lt_of_lt_mul (by rw [Nat.mul_comm]; exact hn)
  have h2 : n % s < s := Nat.mod_lt _ hs0
  have e : n / s * s + n % s = n := by rw [Nat.mul_comm]; exact Nat.div_add_mod n s
  have x := (g3 X hX (n / s) (n % s) h1 h2).1
  have y := (g4 Y hY (n / s) (n % s) h1 h2).1
  rw [wm_assoc a b c q r s _ _ h2] at x
  rw [e] at x y
  exact x.only y
end Go.Proofs.Ytpakpgjbgehhjaa
