/-
  What the functions of package more on terms return: newTerm, termOf, productOf, less.
-/
import Derived.Test.YteohkpiecidicaaMoreC
namespace Go.Proofs.Yteohkpiecidicaa
open Go.RowKit
set_option linter.unusedVariables false

/-- A term: a sign, a whole number of 126 bits that ends in 20 zeros, a power. -/
def isT (h l : Int) (G : Nat) (e : Int) : Prop :=
  0 ≤ h ∧ h < 18446744073709551616 ∧ 0 ≤ l ∧ l < 18446744073709551616 ∧ wid h l = G ∧ 42535295865117307932921825928971026432 ≤ G ∧ G < 85070591730234615865843651857942052864 ∧ G % 1048576 = 0 ∧ -2290 ≤ e ∧ e ≤ 2290
theorem term_len (W L : Nat) (hW : 0 < W) (hL : (bl W).length = L) (h : L ≤ 106) :
    42535295865117307932921825928971026432 ≤ W * 2 ^ (126 - L) ∧ W * 2 ^ (126 - L) < 85070591730234615865843651857942052864 ∧ W * 2 ^ (126 - L) % 1048576 = 0 := by
  have h1 : W < 2 ^ L := (bl_length_le W L).1 (by omega)
  have h0 : 0 < L := by rw [← hL]; exact (bl_length_lt W 0).2 (by rw [Nat.pow_zero]; exact hW)
  have h2 : 2 ^ (L - 1) ≤ W := (bl_length_lt W (L - 1)).1 (by omega)
  have hp := Nat.two_pow_pos (126 - L)
  refine ⟨?_, ?_, ?_⟩
  · have := Nat.mul_le_mul_right (2 ^ (126 - L)) h2
    rw [← Nat.pow_add, show L - 1 + (126 - L) = 125 by omega] at this
    exact Nat.le_trans (by decide) this
  · have := Nat.mul_lt_mul_of_pos_right h1 hp
    rw [← Nat.pow_add, show L + (126 - L) = 126 by omega] at this
    exact Nat.lt_of_lt_of_le this (by decide)
  · rw [show 126 - L = (106 - L) + 20 by omega, Nat.pow_add, ← Nat.mul_assoc]
    exact Nat.mul_mod_left _ _
theorem mNew (n : Bool) (ah al e : Int) (W : Nat) (w : World) (a0 : 0 ≤ ah) (a1 : ah < 18446744073709551616) (a2 : 0 ≤ al) (a3 : al < 18446744073709551616) (hW : wid ah al = W) (hp : 0 < W) (hl : (bl W).length ≤ 106) (e0 : -2148 ≤ e) (e1 : e ≤ 1942) :
    Calls Try.prog 95 #[.bool n, .agg #[.int .u64 ah, .int .u64 al], .int .i64 e] w fun r w' => ∃ (h l : Int) (k : Nat), r = .returned (.agg #[.bool n, .int .u64 h, .int .u64 l, .int .i64 (e - k)]) ∧ k ≤ 125 ∧ isT h l (W * 2 ^ k) (e - k) ∧ Below w.heap.size w w' := by
  obtain ⟨L, hL⟩ : ∃ L, (bl W).length = L := ⟨_, rfl⟩
  have TL : Hid (_ ∧ _ ∧ _) := term_len W L hp hL (by omega)
  have hL0 : 0 < L := by rw [← hL]; exact (bl_length_lt W 0).2 (by rw [Nat.pow_zero]; exact hp)
  rw [hL] at hl
  have HL : Hid (_ = _) := hL
  have HW : Hid (_ = _) := hW
  clear hL hW
  go_enter Try.func95, Try.ntmps95
  go_wp2_with fail
  refine (wLen _ _ _ a0 a1 a2 a3).mono ?_
  rintro r w1 ⟨rfl, hb1⟩
  rw [HW.out, HL.out]
  have c0 := hb1.cell (p := ⟨w.heap.size, 0, none⟩) (by simp; omega)
  have c1 := hb1.cell (p := ⟨w.heap.size, 1, none⟩) (by simp; omega)
  have d0 := hb1.cell (p := ⟨w.heap.size + 1, 0, none⟩) (by simp)
  have d1 := hb1.cell (p := ⟨w.heap.size + 1, 1, none⟩) (by simp)
  have d2 := hb1.cell (p := ⟨w.heap.size + 1, 2, none⟩) (by simp)
  have d3 := hb1.cell (p := ⟨w.heap.size + 1, 3, none⟩) (by simp)
  have f0 := hb1.frozen (p := ⟨w.heap.size + 1, 0, none⟩) (by simp)
  have f1 := hb1.frozen (p := ⟨w.heap.size + 1, 1, none⟩) (by simp)
  have f2 := hb1.frozen (p := ⟨w.heap.size + 1, 2, none⟩) (by simp)
  have f3 := hb1.frozen (p := ⟨w.heap.size + 1, 3, none⟩) (by simp)
  simp [go_sem] at c0 c1 d0 d1 d2 d3 f0 f1 f2 f3
  have hz : w.heap.size + 1 < w1.heap.size := by have := hb1.size; simp at this; omega
  have hbw : Below w.heap.size w w1 := (((Below.refl _ _).alloc (Nat.le_refl _) _).alloc (by simp) _).trans (hb1.mono (by simp; omega))
  clear hb1
  go_wp2_with fail
  refine (wLeft _ _ _ _ a0 a1 a2 a3 (by omega)).mono ?_
  rintro r w2 ⟨h, l, rfl, k0, k1, k2, k3, k4, hb2⟩
  rw [HW.out, show (126 - (L : Int)).toNat = 126 - L by omega, Nat.mod_eq_of_lt (by have := TL.out.2.1; rw [Nat.mul_comm]; omega), Nat.mul_comm] at k4
  have K4 : Hid (_ = _) := k4
  have x0 := cell_later hb2 d0
  have x1 := cell_later hb2 d1
  have x2 := cell_later hb2 d2
  have x3 := cell_later hb2 d3
  have y0 := (hb2.frozen (p := ⟨w.heap.size + 1, 0, none⟩) (by simp; omega)).trans f0
  have y1 := (hb2.frozen (p := ⟨w.heap.size + 1, 1, none⟩) (by simp; omega)).trans f1
  have y2 := (hb2.frozen (p := ⟨w.heap.size + 1, 2, none⟩) (by simp; omega)).trans f2
  have y3 := (hb2.frozen (p := ⟨w.heap.size + 1, 3, none⟩) (by simp; omega)).trans f3
  have hz2 : w.heap.size + 1 < w2.heap.size := by have := hb2.size; omega
  have hbx := bstep hbw hb2
  clear hb2 hbw k4 c0 c1 d0 d1 d2 d3 f0 f1 f2 f3 hz
  go_wp2
  have ek : e - ((126 - L : Nat) : Int) = e - (126 - (L : Int)) := by omega
  refine bodyPost_ret (v := .agg #[.bool n, .int .u64 h, .int .u64 l, .int .i64 (e - (126 - (L : Int)))]) (by simp [results, Try.results95, go_sem, *]) rfl ⟨h, l, 126 - L, by rw [ek], by omega, ⟨k0, k1, k2, k3, K4.out, TL.out.1, TL.out.2.1, TL.out.2.2, by omega, by omega⟩, (((hbx.setCell (by simp) _).setCell (by simp) _).setCell (by simp) _).setCell (by simp) _⟩
theorem tv_same (n : Bool) (W k : Nat) (e : Int) (h : 0 ≤ e - k + 2300) : tv n (W * 2 ^ k) (e - k) = tv n W e := by
  unfold tv
  rw [Nat.mul_assoc, ← Nat.pow_add, show k + (e - k + 2300).toNat = (e + 2300).toNat by omega]
theorem tv_prod (a b : Int) (ha : mag a < 9218868437227405312) (hb : mag b < 9218868437227405312) : tv (sgn a != sgn b) ((wMant a).toNat * (wMant b).toNat) (wPow a + wPow b) = pv a b * ((2 ^ 152 : Nat) : Int) := by
  obtain ⟨p1, p2, p3, p4⟩ := parts_bd a
  obtain ⟨q1, q2, q3, q4⟩ := parts_bd b
  have e : (wMant a).toNat * (wMant b).toNat * 2 ^ (wPow a + wPow b + 2300).toNat = V (mag a) * V (mag b) * 2 ^ 152 := by
    rw [parts_V a ha, parts_V b hb, show (wPow a + wPow b + 2300).toNat = (wPow a + 1074).toNat + (wPow b + 1074).toNat + 152 by omega, Nat.pow_add, Nat.pow_add]
    generalize 2 ^ 152 = q
    grind
  unfold tv pv
  rw [e]
  generalize V (mag a) * V (mag b) = X
  generalize 2 ^ 152 = q
  split
  · rw [Int.neg_mul, Int.natCast_mul]
  · rw [Int.natCast_mul]
theorem tv_term (c : Int) (hc : mag c < 9218868437227405312) : tv (sgn c) (wMant c).toNat (wPow c) = sv c * ((2 ^ uu : Nat) : Int) * ((2 ^ 152 : Nat) : Int) := by
  obtain ⟨p1, p2, p3, p4⟩ := parts_bd c
  have hu := uu_is
  have e : (wMant c).toNat * 2 ^ (wPow c + 2300).toNat = V (mag c) * 2 ^ uu * 2 ^ 152 := by
    rw [parts_V c hc, show (wPow c + 2300).toNat = (wPow c + 1074).toNat + uu + 152 by omega, Nat.pow_add, Nat.pow_add]
    generalize 2 ^ 152 = q
    generalize 2 ^ uu = r
    grind
  unfold tv sv
  rw [e]
  generalize V (mag c) = X
  generalize 2 ^ 152 = q
  generalize 2 ^ uu = r
  split
  · rw [Int.neg_mul, Int.neg_mul, Int.natCast_mul, Int.natCast_mul]
  · rw [Int.natCast_mul, Int.natCast_mul]
theorem prod_len (x y : Nat) (hx : x < 9007199254740992) (hy : y < 9007199254740992) : (bl (x * y)).length ≤ 106 := by
  rw [bl_length_le, show 106 = 53 + 53 from rfl, Nat.pow_add]
  exact Nat.mul_lt_mul'' hx hy
theorem mTerm (c : Int) (w : World) (h0 : 0 ≤ c) (h1 : c < 18446744073709551616) (hf : mag c < 9218868437227405312) (hz : mag c ≠ 0) :
    Calls Try.prog 65 #[.int .u64 c] w fun r w' => ∃ (h l e : Int) (G : Nat), r = .returned (.agg #[.bool (sgn c), .int .u64 h, .int .u64 l, .int .i64 e]) ∧ isT h l G e ∧ tv (sgn c) G e = sv c * ((2 ^ uu : Nat) : Int) * ((2 ^ 152 : Nat) : Int) ∧ Below w.heap.size w w' := by
  obtain ⟨p1, p2, p3, p4⟩ := parts_bd c
  have mp := mant_pos c hf hz
  have TT : Hid (_ = _) := tv_term c hf
  have WL : wid 0 (wMant c) = (wMant c).toNat := wid_low _ p1
  have ll : (bl (wMant c).toNat).length ≤ 106 := Nat.le_trans ((bl_length_le _ 53).2 (by omega)) (by decide)
  have SG : Hid (decide (9223372036854775808 ≤ c) = sgn c) := rfl
  have LL : Hid (_ ≤ _) := ll
  have MP : Hid (_ < _) := mp
  have HWL : Hid (_ = _) := WL
  clear hf hz ll mp WL
  go_enter Try.func65, Try.ntmps65
  go_wp2_with (first | (go_at_call 70; refine (parts_any _ _ h0 h1).mono ?_; rintro e w' ⟨rfl, rfl⟩) | (go_at_call 24; refine (neg_any _ _ h0 h1).mono ?_; rintro e w' ⟨rfl, rfl⟩; rw [SG.out]) | fail)
  refine (mNew _ _ _ _ _ _ (by omega) (by omega) (by omega) (by omega) HWL.out MP.out LL.out (by omega) (by omega)).mono ?_
  rintro r w1 ⟨h, l, k, rfl, hk, ht, hb1⟩
  have d0 := hb1.cell (p := ⟨w.heap.size, 0, none⟩) (by simp)
  have d1 := hb1.cell (p := ⟨w.heap.size, 1, none⟩) (by simp)
  have d2 := hb1.cell (p := ⟨w.heap.size, 2, none⟩) (by simp)
  have d3 := hb1.cell (p := ⟨w.heap.size, 3, none⟩) (by simp)
  have f0 := hb1.frozen (p := ⟨w.heap.size, 0, none⟩) (by simp)
  have f1 := hb1.frozen (p := ⟨w.heap.size, 1, none⟩) (by simp)
  have f2 := hb1.frozen (p := ⟨w.heap.size, 2, none⟩) (by simp)
  have f3 := hb1.frozen (p := ⟨w.heap.size, 3, none⟩) (by simp)
  simp [go_sem] at d0 d1 d2 d3 f0 f1 f2 f3
  have hz : w.heap.size < w1.heap.size := by have := hb1.size; simp at this; omega
  have hbx : Below w.heap.size w w1 := (bmore (Below.refl _ _) _).trans (hb1.mono (by simp))
  have TS : Hid (_ = _) := (tv_same (sgn c) (wMant c).toNat k (wPow c) (by omega)).trans TT.out
  have HT : Hid (isT _ _ _ _) := ht
  obtain ⟨e, he⟩ : ∃ e, wPow c - (k : Int) = e := ⟨_, rfl⟩
  rw [he] at TS HT
  rw [he]
  clear hb1 ht TT he
  go_wp2
  refine bodyPost_ret (v := .agg #[.bool (sgn c), .int .u64 h, .int .u64 l, .int .i64 e]) (by simp [results, Try.results65, go_sem, *]) rfl ⟨h, l, e, _, rfl, HT.out, TS.out, (((hbx.setCell (by simp) _).setCell (by simp) _).setCell (by simp) _).setCell (by simp) _⟩
theorem mProd (a b : Int) (w : World) (h0 : 0 ≤ a) (h1 : a < 18446744073709551616) (g0 : 0 ≤ b) (g1 : b < 18446744073709551616) (hf : mag a < 9218868437227405312) (hz : mag a ≠ 0) (gf : mag b < 9218868437227405312) (gz : mag b ≠ 0) :
    Calls Try.prog 64 #[.int .u64 a, .int .u64 b] w fun r w' => ∃ (h l e : Int) (G : Nat), r = .returned (.agg #[.bool (sgn a != sgn b), .int .u64 h, .int .u64 l, .int .i64 e]) ∧ isT h l G e ∧ tv (sgn a != sgn b) G e = pv a b * ((2 ^ 152 : Nat) : Int) ∧ Below w.heap.size w w' := by
  obtain ⟨p1, p2, p3, p4⟩ := parts_bd a
  obtain ⟨q1, q2, q3, q4⟩ := parts_bd b
  have MP : Hid (0 < (wMant a).toNat * (wMant b).toNat) := Nat.mul_pos (mant_pos a hf hz) (mant_pos b gf gz)
  have TT : Hid (_ = _) := tv_prod a b hf gf
  have LL : Hid (_ ≤ _) := prod_len (wMant a).toNat (wMant b).toNat (by omega) (by omega)
  obtain ⟨sa, hsa⟩ : ∃ x, sgn a = x := ⟨_, rfl⟩
  obtain ⟨sb, hsb⟩ : ∃ x, sgn b = x := ⟨_, rfl⟩
  have SA : Hid (decide (9223372036854775808 ≤ a) = sa) := hsa
  have SB : Hid (decide (9223372036854775808 ≤ b) = sb) := hsb
  rw [hsa, hsb] at TT
  rw [hsa, hsb]
  clear hf hz gf gz hsa hsb
  obtain ⟨ns, hns⟩ : ∃ x, (sa != sb) = x := ⟨_, rfl⟩
  rw [hns] at TT
  rw [hns]
  have HNS : Hid ((!(sa == sb)) = ns) := hns
  clear hns
  go_enter Try.func64, Try.ntmps64
  go_wp2_with (first | (go_at_call_of 70 a; refine (parts_any _ _ h0 h1).mono ?_; rintro e w' ⟨rfl, rfl⟩) | (go_at_call_of 70 b; refine (parts_any _ _ g0 g1).mono ?_; rintro e w' ⟨rfl, rfl⟩) | (go_at_call_of 24 a; refine (neg_any _ _ h0 h1).mono ?_; rintro e w' ⟨rfl, rfl⟩; rw [SA.out]) | (go_at_call_of 24 b; refine (neg_any _ _ g0 g1).mono ?_; rintro e w' ⟨rfl, rfl⟩; rw [SB.out]) | fail)
  refine (wMul _ _ _ (by omega) (by omega) (by omega) (by omega)).mono ?_
  rintro r w0 ⟨uh, ul, rfl, m0, m1, m2, m3, m4, hb0⟩
  have d0 := hb0.cell (p := ⟨w.heap.size, 0, none⟩) (by simp)
  have d1 := hb0.cell (p := ⟨w.heap.size, 1, none⟩) (by simp)
  have d2 := hb0.cell (p := ⟨w.heap.size, 2, none⟩) (by simp)
  have d3 := hb0.cell (p := ⟨w.heap.size, 3, none⟩) (by simp)
  have f0 := hb0.frozen (p := ⟨w.heap.size, 0, none⟩) (by simp)
  have f1 := hb0.frozen (p := ⟨w.heap.size, 1, none⟩) (by simp)
  have f2 := hb0.frozen (p := ⟨w.heap.size, 2, none⟩) (by simp)
  have f3 := hb0.frozen (p := ⟨w.heap.size, 3, none⟩) (by simp)
  simp [go_sem] at d0 d1 d2 d3 f0 f1 f2 f3
  have hz0 : w.heap.size < w0.heap.size := by have := hb0.size; simp at this; omega
  have hbw : Below w.heap.size w w0 := (bmore (Below.refl _ _) _).trans (hb0.mono (by simp))
  have M4 : Hid (_ = _) := m4
  clear hb0 m4
  go_wp2_with fail
  rw [HNS.out]
  refine (mNew _ _ _ _ _ _ m0 m1 m2 m3 M4.out MP.out LL.out (by omega) (by omega)).mono ?_
  rintro r w1 ⟨h, l, k, rfl, hk, ht, hb1⟩
  have x0 := cell_later hb1 d0
  have x1 := cell_later hb1 d1
  have x2 := cell_later hb1 d2
  have x3 := cell_later hb1 d3
  have y0 := (hb1.frozen (p := ⟨w.heap.size, 0, none⟩) (by simp; omega)).trans f0
  have y1 := (hb1.frozen (p := ⟨w.heap.size, 1, none⟩) (by simp; omega)).trans f1
  have y2 := (hb1.frozen (p := ⟨w.heap.size, 2, none⟩) (by simp; omega)).trans f2
  have y3 := (hb1.frozen (p := ⟨w.heap.size, 3, none⟩) (by simp; omega)).trans f3
  have hz : w.heap.size < w1.heap.size := by have := hb1.size; omega
  have hbx := bstep hbw hb1
  have TS : Hid (_ = _) := (tv_same ns ((wMant a).toNat * (wMant b).toNat) k (wPow a + wPow b) (by omega)).trans TT.out
  have HT : Hid (isT _ _ _ _) := ht
  obtain ⟨e, he⟩ : ∃ e, wPow a + wPow b - (k : Int) = e := ⟨_, rfl⟩
  rw [he] at TS HT
  rw [he]
  clear hb1 hbw ht TT he d0 d1 d2 d3 f0 f1 f2 f3
  go_wp2
  refine bodyPost_ret (v := .agg #[.bool ns, .int .u64 h, .int .u64 l, .int .i64 e]) (by simp [results, Try.results64, go_sem, *]) rfl ⟨h, l, e, _, rfl, HT.out, TS.out, (((hbx.setCell (by simp) _).setCell (by simp) _).setCell (by simp) _).setCell (by simp) _⟩
theorem mLess (n m : Bool) (ah al bh bl' e f : Int) (w : World) (a0 : 0 ≤ ah) (a1 : ah < 18446744073709551616) (a2 : 0 ≤ al) (a3 : al < 18446744073709551616) (b0 : 0 ≤ bh) (b1 : bh < 18446744073709551616) (b2 : 0 ≤ bl') (b3 : bl' < 18446744073709551616) :
    Calls Try.prog 90 #[.agg #[.bool n, .int .u64 ah, .int .u64 al, .int .i64 e], .agg #[.bool m, .int .u64 bh, .int .u64 bl', .int .i64 f]] w fun r w' => r = .returned (.bool (if e = f then decide (cmpI (wid ah al) (wid bh bl') < 0) else decide (e < f))) ∧ Below w.heap.size w w' := by
  by_cases hef : e = f
  · subst hef
    rw [if_pos rfl]
    go_enter Try.func90, Try.ntmps90
    go_wp2_with fail
    refine (wCmp _ _ _ _ _ a0 a1 a2 a3 b0 b1 b2 b3).mono ?_
    rintro r w1 ⟨rfl, hb1⟩
    go_wp2
    go_ret
    exact ⟨ret_eq rfl, (((Below.refl _ _).alloc (Nat.le_refl _) _).alloc (by simp) _).trans (hb1.mono (by simp; omega))⟩
  · rw [if_neg hef]
    have hn : (e == f) = false := by rw [beq_eq_false_iff_ne]; exact hef
    go_enter Try.func90, Try.ntmps90
    go_wp2
    go_ret
    exact ⟨ret_eq rfl, ((Below.refl _ _).alloc (Nat.le_refl _) _).alloc (by simp) _⟩
end Go.Proofs.Yteohkpiecidicaa
