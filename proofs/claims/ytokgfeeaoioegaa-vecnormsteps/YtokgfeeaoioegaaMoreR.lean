/-
  What more's Sqrt returns: sqrtS, at every pattern.
-/
import Derived.Test.YtokgfeeaoioegaaMoreC
namespace Go.Proofs.Ytokgfeeaoioegaa
open Go.RowKit
set_option linter.unusedVariables false

theorem root_fits (m L : Nat) (hm : 0 < m) (hL : (bl m).length = L) (hL1 : L ≤ 53) (n : Nat) (hn0 : 127 - L ≤ n) (hn1 : n ≤ 128 - L) : 2 ^ n * m < 2 ^ 128 ∧ 18014398509481984 ≤ isq (m * 2 ^ n) := by
  have h1 := (bl_length_le m L).1 (by omega)
  have h0 : 0 < (bl m).length := (bl_length_lt m 0).2 (by rw [Nat.pow_zero]; exact hm)
  have h2 := (bl_length_lt m (L - 1)).1 (by omega)
  constructor
  · have t : 2 ^ n * m < 2 ^ n * 2 ^ L := Nat.mul_lt_mul_of_pos_left h1 (Nat.two_pow_pos n)
    rw [← Nat.pow_add] at t
    exact Nat.lt_of_lt_of_le t (Nat.pow_le_pow_right (by decide) (by omega))
  · refine isq_le _ _ ?_
    have t : 2 ^ (L - 1) * 2 ^ n ≤ m * 2 ^ n := Nat.mul_le_mul_right _ h2
    rw [← Nat.pow_add] at t
    have u : 2 ^ 126 ≤ 2 ^ (L - 1 + n) := Nat.pow_le_pow_right (by decide) (by omega)
    have h3 : 18014398509481984 * 18014398509481984 ≤ 2 ^ 126 := by decide
    omega
/-- What the root's rounding comes to. -/
theorem root_end (a : Int) (n : Nat) (H r : Int) (X : Nat) (hf : mag a < 9218868437227405312) (hz : mag a ≠ 0) (hn : n ≤ 128) (hH : wPow a - n = 2 * H) (r0 : 0 ≤ r) (hX : X = (wMant a).toNat * 2 ^ n) (hb : 18014398509481984 ≤ isq X) (h1 : r.toNat * r.toNat ≤ X) (h2 : X < (r.toNat + 1) * (r.toNat + 1)) :
    numR (wid 0 r) (clampE H) (!decide (r.toNat * r.toNat = X)) = rootN (V (mag a)) ∧ flagR (wid 0 r) (clampE H) (!decide (r.toNat * r.toNat = X)) = rootF (V (mag a)) := by
  obtain ⟨p1, p2, p3, p4⟩ := parts_bd a
  have e := isq_uniq X r.toNat h1 h2
  have ra := root_at (wMant a).toNat n (wPow a) H p3 (by omega) hH (by rw [← hX]; exact hb)
  rw [← hX, ← parts_V a hf] at ra
  rw [wid_low r r0, clampE_in H (by omega) (by omega), ← ra.1, ← ra.2, ← e]
  have hlen : 54 < (bl (isq X)).length := (bl_length_lt _ 54).2 hb
  have hd : H < lastP (isq X) H := by unfold lastP; omega
  have hdec : (!decide (isq X * isq X = X)) = decide (isq X * isq X ≠ X) := by rw [Bool.eq_iff_iff]; simp
  rw [hdec]
  exact numR_more _ H _ (by omega) hd
set_option maxRecDepth 100000 in
set_option maxHeartbeats 2000000 in
theorem mRoot (a : Int) (w : World) (h0 : 0 ≤ a) (h1 : a < 18446744073709551616) (hf : mag a < 9218868437227405312) (hz : mag a ≠ 0) :
    Calls Try.prog 88 #[.int .u64 a] w fun e w' => e = .returned (.tuple #[.int .u64 ((rootN (V (mag a)) : Nat) : Int), .int .u8 ((rootF (V (mag a)) : Nat) : Int)]) ∧ Below w.heap.size w w' := by
  obtain ⟨p1, p2, p3, p4⟩ := parts_bd a
  have hm0 := mant_pos a hf hz
  have WL : Hid (wid 0 (wMant a) = (wMant a).toNat) := wid_low _ p1
  obtain ⟨L, hL⟩ : ∃ L : Nat, (bl (wMant a).toNat).length = L := ⟨_, rfl⟩
  have hL1 : L ≤ 53 := by rw [← hL]; exact (bl_length_le _ 53).2 (by omega)
  have hL0 : 1 ≤ L := by rw [← hL]; exact (bl_length_lt _ 0).2 (by rw [Nat.pow_zero]; exact hm0)
  have RF : Hid (∀ n : Nat, 127 - L ≤ n → n ≤ 128 - L → 2 ^ n * (wMant a).toNat < 2 ^ 128 ∧ 18014398509481984 ≤ isq ((wMant a).toNat * 2 ^ n)) := root_fits _ L hm0 hL hL1
  have HL : Hid (_ = _) := hL
  have RE : Hid (∀ (n : Nat) (H r : Int) (X : Nat), n ≤ 128 → wPow a - n = 2 * H → 0 ≤ r → X = (wMant a).toNat * 2 ^ n → 18014398509481984 ≤ isq X → r.toNat * r.toNat ≤ X → X < (r.toNat + 1) * (r.toNat + 1) → numR (wid 0 r) (clampE H) (!decide (r.toNat * r.toNat = X)) = rootN (V (mag a)) ∧ flagR (wid 0 r) (clampE H) (!decide (r.toNat * r.toNat = X)) = rootF (V (mag a))) := fun n H r X hn => root_end a n H r X hf hz hn
  clear hL hf hz
  by_cases hpar : (wPow a - (128 - (L : Int))) % 2 = 0
  · obtain ⟨H, hH⟩ : ∃ H, wPow a - (128 - (L : Int)) = 2 * H := ⟨(wPow a - (128 - (L : Int))) / 2, by omega⟩
    have t1 : (wPow a - (128 - (L : Int))).tmod 2 = 0 := by rw [hH]; exact Int.mul_tmod_right _ _
    have t2 : (wPow a - (128 - (L : Int))).tdiv 2 = H := by rw [hH]; exact Int.mul_tdiv_cancel_left _ (by decide)
    have HH : Hid (_ = _) := hH
    have hHb : -700 ≤ H ∧ H ≤ 600 := by omega
    clear hH hpar
    go_enter Try.func88, Try.ntmps88
    go_wp2_with fail
    refine (parts_any _ _ h0 h1).mono ?_
    rintro e w1 ⟨rfl, rfl⟩
    go_wp2_with fail
    refine (wLen _ _ _ (by omega) (by omega) (by omega) (by omega)).mono ?_
    rintro e w2 ⟨rfl, hb2⟩
    rw [WL.out, HL.out]
    have c0 := hb2.cell (p := ⟨w1.heap.size, 0, none⟩) (by simp)
    have c1 := hb2.cell (p := ⟨w1.heap.size, 1, none⟩) (by simp)
    simp [go_sem] at c0 c1
    have hbw := bstep (bmore (Below.refl _ _) _) hb2
    clear hb2
    go_wp2_with fail
    refine (wLeft _ _ _ _ (by omega) (by omega) (by omega) (by omega) (by omega)).mono ?_
    rintro e w3 ⟨h, l, rfl, k0, k1, k2, k3, k4, hb3⟩
    have K4 : Hid (wid h l = (wMant a).toNat * 2 ^ (128 - L)) := by
      show _ = _
      rw [k4, WL.out, show (128 - (L : Int) : Int).toNat = (128 - L) by omega, Nat.mod_eq_of_lt (RF.out (128 - L) (by omega) (by omega)).1, Nat.mul_comm]
    have hbx := bstep hbw hb3
    clear k4 hbw hb3 c0 c1
    go_wp2_with fail
    refine (wSqrt _ _ _ k0 k1 k2 k3).mono ?_
    rintro e w4 ⟨r, rfl, r0, r1, r2, r3, hb4⟩
    have RR : Hid (_ ∧ _) := RE.out (128 - L) H r (wid h l) (by omega) (by have := HH.out; omega) r0 K4.out (by rw [K4.out]; exact (RF.out (128 - L) (by omega) (by omega)).2) r2 r3
    have hby := bstep hbx hb4
    obtain ⟨X, hX⟩ : ∃ X, wid h l = X := ⟨_, rfl⟩
    rw [hX] at RR
    rw [hX]
    obtain ⟨ex, hex⟩ : ∃ b, decide (r.toNat * r.toNat = X) = b := ⟨_, rfl⟩
    rw [hex] at RR
    rw [hex]
    clear r2 r3 hbx hb4 hX hex K4 RE RF
    go_wp2_with fail
    refine (pRound _ _ _ _ _ _ (by omega) (by omega) r0 r1).mono ?_
    rintro e w5 ⟨rfl, hb5⟩
    rw [RR.out.1, RR.out.2]
    have hbz := bstep hby hb5
    go_wp2
    go_ret2
    refine ⟨ret_eq (tup2 (int_eq ?_) rfl), hbz⟩
    unfold sgnB
    simp
  · obtain ⟨H, hH⟩ : ∃ H, wPow a - (128 - (L : Int) - 1) = 2 * H := ⟨(wPow a - (128 - (L : Int) - 1)) / 2, by omega⟩
    have t2 : (wPow a - (128 - (L : Int) - 1)).tdiv 2 = H := by rw [hH]; exact Int.mul_tdiv_cancel_left _ (by decide)
    obtain ⟨t, t1⟩ : ∃ t, (wPow a - (128 - (L : Int))).tmod 2 = t := ⟨_, rfl⟩
    have t3 : t ≠ 0 := by
      intro h
      rw [← t1] at h
      have := Int.dvd_of_tmod_eq_zero h
      omega
    have HH : Hid (_ = _) := hH
    have hHb : -700 ≤ H ∧ H ≤ 600 := by omega
    clear hH hpar
    go_enter Try.func88, Try.ntmps88
    go_wp2_with fail
    refine (parts_any _ _ h0 h1).mono ?_
    rintro e w1 ⟨rfl, rfl⟩
    go_wp2_with fail
    refine (wLen _ _ _ (by omega) (by omega) (by omega) (by omega)).mono ?_
    rintro e w2 ⟨rfl, hb2⟩
    rw [WL.out, HL.out]
    have c0 := hb2.cell (p := ⟨w1.heap.size, 0, none⟩) (by simp)
    have c1 := hb2.cell (p := ⟨w1.heap.size, 1, none⟩) (by simp)
    simp [go_sem] at c0 c1
    have hbw := bstep (bmore (Below.refl _ _) _) hb2
    clear hb2
    go_wp2_with fail
    refine (wLeft _ _ _ _ (by omega) (by omega) (by omega) (by omega) (by omega)).mono ?_
    rintro e w3 ⟨h, l, rfl, k0, k1, k2, k3, k4, hb3⟩
    have K4 : Hid (wid h l = (wMant a).toNat * 2 ^ (127 - L)) := by
      show _ = _
      rw [k4, WL.out, show (128 - (L : Int) - 1 : Int).toNat = (127 - L) by omega, Nat.mod_eq_of_lt (RF.out (127 - L) (by omega) (by omega)).1, Nat.mul_comm]
    have hbx := bstep hbw hb3
    clear k4 hbw hb3 c0 c1
    go_wp2_with fail
    refine (wSqrt _ _ _ k0 k1 k2 k3).mono ?_
    rintro e w4 ⟨r, rfl, r0, r1, r2, r3, hb4⟩
    have RR : Hid (_ ∧ _) := RE.out (127 - L) H r (wid h l) (by omega) (by have := HH.out; omega) r0 K4.out (by rw [K4.out]; exact (RF.out (127 - L) (by omega) (by omega)).2) r2 r3
    have hby := bstep hbx hb4
    obtain ⟨X, hX⟩ : ∃ X, wid h l = X := ⟨_, rfl⟩
    rw [hX] at RR
    rw [hX]
    obtain ⟨ex, hex⟩ : ∃ b, decide (r.toNat * r.toNat = X) = b := ⟨_, rfl⟩
    rw [hex] at RR
    rw [hex]
    clear r2 r3 hbx hb4 hX hex K4 RE RF
    go_wp2_with fail
    refine (pRound _ _ _ _ _ _ (by omega) (by omega) r0 r1).mono ?_
    rintro e w5 ⟨rfl, hb5⟩
    rw [RR.out.1, RR.out.2]
    have hbz := bstep hby hb5
    go_wp2
    go_ret2
    refine ⟨ret_eq (tup2 (int_eq ?_) rfl), hbz⟩
    unfold sgnB
    simp
theorem fin_inf2 (a : Int) (hf : ¬ mag a < 9218868437227405312) (hn : isNan a = false) : isInf a = true := by
  unfold isNan at hn
  unfold isInf
  rw [decide_eq_false_iff_not] at hn
  rw [decide_eq_true_eq]
  omega
theorem mSqrt (a : Int) (w : World) (h0 : 0 ≤ a) (h1 : a < 18446744073709551616) :
    Calls Try.prog 54 #[.int .u64 a] w fun e w' => e = .returned (.tuple #[.int .u64 (sqrtS a).1, .int .u8 (sqrtS a).2]) ∧ Below w.heap.size w w' := by
  obtain ⟨ka, hka⟩ : ∃ k, wKind a = k := ⟨_, rfl⟩
  have KA : Hid (_ = _) := hka
  have nk := isNan_kind a
  rw [hka] at nk
  have SG : Hid (decide (9223372036854775808 ≤ a) = sgn a) := rfl
  by_cases hn : ka = 5
  · have S : Hid (sqrtS a = addS a a) := by
      show _ = _
      have nn : isNan a = true := by rw [nk]; exact decide_eq_true hn
      have : 9218868437227405312 ≤ mag a := by unfold isNan at nn; rw [decide_eq_true_eq] at nn; omega
      rw [add_self a h0 h1 this]
      unfold sqrtS
      rw [if_pos nn, if_pos nn]
    subst hn
    clear hka nk
    go_enter Try.func54, Try.ntmps54
    go_wp2_with (first | (go_at_call 87; refine (kind_any _ _ h0 h1).mono ?_; rintro e w' ⟨rfl, rfl⟩; rw [KA.out]) | fail)
    refine (mNot _ _ h0 h1).mono ?_
    rintro e w2 ⟨rfl, hb2⟩
    go_wp2
    go_ret2
    refine ⟨?_, hb2⟩
    rw [S.out]
    rfl
  · have nn : isNan a = false := by rw [nk]; exact decide_eq_false hn
    have hk5 : (ka == 5) = false := by rw [beq_eq_false_iff_ne]; exact hn
    by_cases hz : mag a = 0
    · have S : Hid (sqrtS a = (a, 0)) := by
        show _ = _
        unfold sqrtS
        rw [nn, if_neg (by simp), (z_iff a).2 hz, if_pos rfl]
      have Z : Hid (isZ a = true) := (z_iff a).2 hz
      clear hka nk hz nn
      go_enter Try.func54, Try.ntmps54
      go_wp2_with (first | (go_at_call 87; refine (kind_any _ _ h0 h1).mono ?_; rintro e w' ⟨rfl, rfl⟩; rw [KA.out]) | (go_at_call 76; refine (mZero _ _ h0 h1).mono ?_; rintro e w' ⟨rfl, rfl⟩; rw [Z.out]))
      go_ret2
      refine ⟨?_, Below.refl _ _⟩
      rw [S.out]
      all_goals rfl
    · have Z : Hid (isZ a = false) := (z_not a).2 hz
      by_cases hi : a = 9218868437227405312
      · have S : Hid (sqrtS a = (a, 0)) := by
          show _ = _
          unfold sqrtS
          rw [nn, if_neg (by simp), (z_not a).2 hz, if_neg (by simp), if_pos hi]
        subst hi
        clear hka nk hz nn
        go_enter Try.func54, Try.ntmps54
        go_wp2_with (first | (go_at_call 87; refine (kind_any _ _ h0 h1).mono ?_; rintro e w' ⟨rfl, rfl⟩; rw [KA.out]) | (go_at_call 76; refine (mZero _ _ h0 h1).mono ?_; rintro e w' ⟨rfl, rfl⟩; rw [Z.out]))
        go_ret2
        refine ⟨?_, Below.refl _ _⟩
        rw [S.out]
        all_goals rfl
      · have hi2 : (a == 9218868437227405312) = false := by rw [beq_eq_false_iff_ne]; exact hi
        obtain ⟨sg, hsg⟩ : ∃ s, sgn a = s := ⟨_, rfl⟩
        rw [hsg] at SG
        cases sg
        · have hf : mag a < 9218868437227405312 := by
            unfold isNan at nn
            rw [decide_eq_false_iff_not] at nn
            unfold sgn at hsg
            rw [decide_eq_false_iff_not] at hsg
            unfold mag at *
            omega
          have S : Hid (sqrtS a = (((rootN (V (mag a)) : Nat) : Int), ((rootF (V (mag a)) : Nat) : Int))) := by
            show _ = _
            unfold sqrtS
            rw [nn, if_neg (by simp), (z_not a).2 hz, if_neg (by simp), if_neg hi, hsg, if_neg (by simp)]
          have HF : Hid (_ < _) := hf
          have HZ : Hid (¬ _) := hz
          clear hka nk nn hsg hi hf hz
          go_enter Try.func54, Try.ntmps54
          go_wp2_with (first | (go_at_call 87; refine (kind_any _ _ h0 h1).mono ?_; rintro e w' ⟨rfl, rfl⟩; rw [KA.out]) | (go_at_call 76; refine (mZero _ _ h0 h1).mono ?_; rintro e w' ⟨rfl, rfl⟩; rw [Z.out]) | (go_at_call 65; refine (neg_any _ _ h0 h1).mono ?_; rintro e w' ⟨rfl, rfl⟩; rw [SG.out]) | fail)
          refine (mRoot _ _ h0 h1 HF.out HZ.out).mono ?_
          rintro e w2 ⟨rfl, hb2⟩
          go_wp2
          go_ret2
          refine ⟨?_, hb2⟩
          rw [S.out]
          rfl
        · have S : Hid (sqrtS a = (9221120237041090560, 16)) := by
            show _ = _
            unfold sqrtS
            rw [nn, if_neg (by simp), (z_not a).2 hz, if_neg (by simp), if_neg hi, hsg, if_pos rfl]
          clear hka nk nn hsg hi hz
          go_enter Try.func54, Try.ntmps54
          go_wp2_with (first | (go_at_call 87; refine (kind_any _ _ h0 h1).mono ?_; rintro e w' ⟨rfl, rfl⟩; rw [KA.out]) | (go_at_call 76; refine (mZero _ _ h0 h1).mono ?_; rintro e w' ⟨rfl, rfl⟩; rw [Z.out]) | (go_at_call 65; refine (neg_any _ _ h0 h1).mono ?_; rintro e w' ⟨rfl, rfl⟩; rw [SG.out]))
          go_ret2
          refine ⟨?_, Below.refl _ _⟩
          rw [S.out]
          all_goals rfl
end Go.Proofs.Ytokgfeeaoioegaa
