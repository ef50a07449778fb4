/-
  What the functions of package more return (Fma apart): sqrtS, scaleS, fromS, toS, at every argument.
-/
import Derived.Test.YteohkpiecidicaaMoreM
import Derived.Test.YteohkpiecidicaaSoftE
import Derived.Test.YteohkpiecidicaaWideE
namespace Go.Proofs.Yteohkpiecidicaa
open Go.RowKit
set_option linter.unusedVariables false

theorem add_self (a : Int) (h0 : 0 ≤ a) (h1 : a < 18446744073709551616) (h : 9218868437227405312 ≤ mag a) : addS a a = if isNan a then (9221120237041090560, nanF a a) else (a, 0) := by
  unfold addS
  rw [Bool.or_self]
  by_cases hn : isNan a = true
  · rw [if_pos hn, if_pos hn]
  · have hi : isInf a = true := by
      unfold isNan at hn
      unfold isInf
      rw [decide_eq_true_eq] at hn
      rw [decide_eq_true_eq]
      omega
    rw [if_neg hn, if_neg hn, hi, if_neg (by simp), if_pos rfl]
theorem mZero (b : Int) (w : World) (h0 : 0 ≤ b) (h1 : b < 18446744073709551616) :
    Calls Try.prog 55 #[.int .u64 b] w fun e w' => e = .returned (.bool (isZ b)) ∧ w' = w := by
  go_enter Try.func55, Try.ntmps55
  go_wp2_with (go_at_call 30; refine (abs_any _ _ h0 h1).mono ?_; rintro e w' ⟨rfl, rfl⟩)
  go_ret
  refine ⟨ret_eq (bool_eq ?_), rfl⟩
  unfold isZ mag
  rw [Bool.eq_iff_iff, beq_iff_eq, decide_eq_true_eq]
  omega
theorem mNot (a : Int) (w : World) (h0 : 0 ≤ a) (h1 : a < 18446744073709551616) :
    Calls Try.prog 54 #[.int .u64 a] w fun e w' => e = .returned (.tuple #[.int .u64 (addS a a).1, .int .u8 (addS a a).2]) ∧ Below w.heap.size w w' := by
  go_enter Try.func54, Try.ntmps54
  go_wp2_with fail
  refine (pAdd _ _ _ h0 h1 h0 h1).mono ?_
  rintro e w1 ⟨rfl, hb1⟩
  go_wp2
  go_ret2
  exact ⟨ret_eq rfl, hb1⟩
theorem wid_low (l : Int) (h : 0 ≤ l) : wid 0 l = l.toNat := by unfold wid; omega
theorem fin_dec (a : Int) : decide (a / 4503599627370496 % 2048 < 2047) = decide (mag a < 9218868437227405312) := by rw [decide_eq_decide]; exact fin_mag a
theorem mScale (a n : Int) (w : World) (h0 : 0 ≤ a) (h1 : a < 18446744073709551616) (n0 : -9223372036854775808 ≤ n) (n1 : n ≤ 9223372036854775807) :
    Calls Try.prog 20 #[.int .u64 a, .int .i64 n] w fun e w' => e = .returned (.tuple #[.int .u64 (scaleS a n).1, .int .u8 (scaleS a n).2]) ∧ Below w.heap.size w w' := by
  by_cases hf : mag a < 9218868437227405312
  · obtain ⟨nn, ni⟩ := fin_facts a hf
    by_cases hz : mag a = 0
    · have S : Hid (scaleS a n = (a, 0)) := by
        show _ = _
        unfold scaleS
        rw [nn, if_neg (by simp), (z_iff a).2 hz, Bool.or_true, if_pos rfl]
      have Z : Hid (isZ a = true) := (z_iff a).2 hz
      have F : Hid (decide (a / 4503599627370496 % 2048 < 2047) = true) := by show _ = _; rw [fin_dec]; exact decide_eq_true hf
      clear hf hz nn ni
      go_enter Try.func20, Try.ntmps20
      go_wp2_with (first | (go_at_call 25; refine (finite_any _ _ h0 h1).mono ?_; rintro e w' ⟨rfl, rfl⟩; rw [F.out]) | (go_at_call 55; refine (mZero _ _ h0 h1).mono ?_; rintro e w' ⟨rfl, rfl⟩; rw [Z.out]))
      go_ret2
      refine ⟨?_, Below.refl _ _⟩
      rw [S.out]
      all_goals rfl
    · obtain ⟨p1, p2, p3, p4⟩ := parts_bd a
      have mp := mant_pos a hf hz
      have sc := scale_parts a n hf
      have cl := num_clamp (wMant a).toNat (wPow a) n 10000 mp (by omega) p3 p4 (by omega)
      have S : Hid (scaleS a n = (sgnB (sgn a) + ((numP (wMant a).toNat (wPow a + min (max n (-10000)) 10000) : Nat) : Int), ((flagP (wMant a).toNat (wPow a + min (max n (-10000)) 10000) : Nat) : Int))) := by
        show _ = _
        unfold scaleS
        rw [nn, if_neg (by simp), ni, (z_not a).2 hz, if_neg (by simp), sc.1, sc.2, cl.1, cl.2]
      have Z : Hid (isZ a = false) := (z_not a).2 hz
      have F : Hid (decide (a / 4503599627370496 % 2048 < 2047) = true) := by show _ = _; rw [fin_dec]; exact decide_eq_true hf
      have SG : Hid (decide (9223372036854775808 ≤ a) = sgn a) := rfl
      obtain ⟨N, hN⟩ : ∃ N, min (max n (-10000)) 10000 = N := ⟨_, rfl⟩
      have hN0 : -10000 ≤ N := by omega
      have hN1 : N ≤ 10000 := by omega
      rw [hN] at S
      have CE := clampE_in (wPow a + N) (by omega) (by omega)
      have HN : Hid (_ = _) := hN
      have HC : Hid (_ = _) := CE
      have WL : Hid (wid 0 (wMant a) = (wMant a).toNat) := wid_low _ p1
      clear hf hz nn ni sc cl hN CE
      by_cases c1 : n < -10000
      · obtain rfl : N = -10000 := by have := HN.out; omega
        go_enter Try.func20, Try.ntmps20
        go_wp2_with (first | (go_at_call 25; refine (finite_any _ _ h0 h1).mono ?_; rintro e w' ⟨rfl, rfl⟩; rw [F.out]) | (go_at_call 55; refine (mZero _ _ h0 h1).mono ?_; rintro e w' ⟨rfl, rfl⟩; rw [Z.out]) | (go_at_call 70; refine (parts_any _ _ h0 h1).mono ?_; rintro e w' ⟨rfl, rfl⟩) | (go_at_call 24; refine (neg_any _ _ h0 h1).mono ?_; rintro e w' ⟨rfl, rfl⟩; rw [SG.out]) | fail)
        refine (pRound _ _ _ _ _ _ (by omega) (by omega) (by omega) (by omega)).mono ?_
        rintro e w2 ⟨rfl, hb2⟩
        rw [WL.out, HC.out, (numR_false _ _).1, (numR_false _ _).2]
        go_wp2
        go_ret2
        refine ⟨?_, by first | exact hb2 | exact bstep (bmore (Below.refl _ _) _) hb2⟩
        rw [S.out]
        rfl
      · by_cases c2 : 10000 < n
        · obtain rfl : N = 10000 := by have := HN.out; omega
          go_enter Try.func20, Try.ntmps20
          go_wp2_with (first | (go_at_call 25; refine (finite_any _ _ h0 h1).mono ?_; rintro e w' ⟨rfl, rfl⟩; rw [F.out]) | (go_at_call 55; refine (mZero _ _ h0 h1).mono ?_; rintro e w' ⟨rfl, rfl⟩; rw [Z.out]) | (go_at_call 70; refine (parts_any _ _ h0 h1).mono ?_; rintro e w' ⟨rfl, rfl⟩) | (go_at_call 24; refine (neg_any _ _ h0 h1).mono ?_; rintro e w' ⟨rfl, rfl⟩; rw [SG.out]) | fail)
          refine (pRound _ _ _ _ _ _ (by omega) (by omega) (by omega) (by omega)).mono ?_
          rintro e w2 ⟨rfl, hb2⟩
          rw [WL.out, HC.out, (numR_false _ _).1, (numR_false _ _).2]
          go_wp2
          go_ret2
          refine ⟨?_, by first | exact hb2 | exact bstep (bmore (Below.refl _ _) _) hb2⟩
          rw [S.out]
          rfl
        · obtain rfl : N = n := by have := HN.out; omega
          go_enter Try.func20, Try.ntmps20
          go_wp2_with (first | (go_at_call 25; refine (finite_any _ _ h0 h1).mono ?_; rintro e w' ⟨rfl, rfl⟩; rw [F.out]) | (go_at_call 55; refine (mZero _ _ h0 h1).mono ?_; rintro e w' ⟨rfl, rfl⟩; rw [Z.out]) | (go_at_call 70; refine (parts_any _ _ h0 h1).mono ?_; rintro e w' ⟨rfl, rfl⟩) | (go_at_call 24; refine (neg_any _ _ h0 h1).mono ?_; rintro e w' ⟨rfl, rfl⟩; rw [SG.out]) | fail)
          refine (pRound _ _ _ _ _ _ (by omega) (by omega) (by omega) (by omega)).mono ?_
          rintro e w2 ⟨rfl, hb2⟩
          rw [WL.out, HC.out, (numR_false _ _).1, (numR_false _ _).2]
          go_wp2
          go_ret2
          refine ⟨?_, by first | exact hb2 | exact bstep (bmore (Below.refl _ _) _) hb2⟩
          rw [S.out]
          rfl
  · have S : Hid (scaleS a n = addS a a) := by
      show _ = _
      rw [add_self a h0 h1 (by omega)]
      unfold scaleS
      by_cases hn : isNan a = true
      · rw [if_pos hn, if_pos hn]
      · have hi : isInf a = true := by
          unfold isNan at hn
          unfold isInf
          rw [decide_eq_true_eq] at hn
          rw [decide_eq_true_eq]
          omega
        rw [if_neg hn, if_neg hn, hi, if_pos (by simp)]
    have F : Hid (decide (a / 4503599627370496 % 2048 < 2047) = false) := by show _ = _; rw [fin_dec]; exact decide_eq_false hf
    clear hf
    go_enter Try.func20, Try.ntmps20
    go_wp2_with (first | (go_at_call 25; refine (finite_any _ _ h0 h1).mono ?_; rintro e w' ⟨rfl, rfl⟩; rw [F.out]) | fail)
    refine (mNot _ _ h0 h1).mono ?_
    rintro e w2 ⟨rfl, hb2⟩
    go_wp2
    go_ret2
    refine ⟨?_, hb2⟩
    rw [S.out]
    rfl
theorem mFrom (n : Int) (w : World) (n0 : -9223372036854775808 ≤ n) (n1 : n ≤ 9223372036854775807) :
    Calls Try.prog 22 #[.int .i64 n] w fun e w' => e = .returned (.tuple #[.int .u64 (fromS n).1, .int .u8 (fromS n).2]) ∧ Below w.heap.size w w' := by
  obtain ⟨m, hm⟩ : ∃ m : Nat, n.natAbs = m := ⟨_, rfl⟩
  have hm1 : m ≤ 9223372036854775808 := by omega
  have W : Hid (wid 0 (m : Int) = m) := by show _ = _; unfold wid; omega
  have CE : Hid (clampE 0 = 0) := by show _ = _; exact clampE_in 0 (by omega) (by omega)
  by_cases hn : n < 0
  · have S : Hid (fromS n = (sgnB true + ((numP m 0 : Nat) : Int), ((flagP m 0 : Nat) : Int))) := by
      show _ = _
      unfold fromS
      rw [hm, decide_eq_true hn]
    have w1 : IntKind.u64.wrap n = n + 18446744073709551616 := by rw [IntKind.wrap_u64]; omega
    have w2 : IntKind.u64.wrap (-(n + 18446744073709551616)) = (m : Int) := by rw [IntKind.wrap_u64]; omega
    clear hm
    go_enter Try.func22, Try.ntmps22
    go_wp2_with fail
    refine (pRound _ _ _ _ _ _ (by omega) (by omega) (by omega) (by omega)).mono ?_
    rintro e w2 ⟨rfl, hb2⟩
    rw [W.out, CE.out, (numR_false _ _).1, (numR_false _ _).2]
    go_wp2
    go_ret2
    refine ⟨?_, hb2⟩
    rw [S.out]
    rfl
  · have S : Hid (fromS n = (sgnB false + ((numP m 0 : Nat) : Int), ((flagP m 0 : Nat) : Int))) := by
      show _ = _
      unfold fromS
      rw [hm, decide_eq_false hn]
    have w1 : IntKind.u64.wrap n = (m : Int) := by rw [IntKind.wrap_u64]; omega
    clear hm
    go_enter Try.func22, Try.ntmps22
    go_wp2_with fail
    refine (pRound _ _ _ _ _ _ (by omega) (by omega) (by omega) (by omega)).mono ?_
    rintro e w2 ⟨rfl, hb2⟩
    rw [W.out, CE.out, (numR_false _ _).1, (numR_false _ _).2]
    go_wp2
    go_ret2
    refine ⟨?_, hb2⟩
    rw [S.out]
    rfl

/-! The whole part. -/
def wpN (a : Int) : Nat := if 0 < wPow a then (wMant a).toNat * 2 ^ (min (wPow a) 64).toNat else (wMant a).toNat / 2 ^ (-wPow a).toNat
def wpL (a : Int) : Bool := if 0 < wPow a then false else decide ((wMant a).toNat % 2 ^ (-wPow a).toNat ≠ 0)
theorem wp_math (a : Int) (hf : mag a < 9218868437227405312) :
    (∀ M : Nat, M ≤ 9223372036854775808 → (M < wpN a ↔ M < V (mag a) / 2 ^ uu)) ∧ (wpN a ≤ 9223372036854775808 → wpN a = V (mag a) / 2 ^ uu) ∧ wpL a = decide (V (mag a) % 2 ^ uu ≠ 0) := by
  obtain ⟨p1, p2, p3, p4⟩ := parts_bd a
  rw [parts_V a hf]
  unfold wpN wpL
  by_cases hp : 0 < wPow a
  · obtain ⟨u1, u2⟩ := whole_up (wMant a).toNat (wPow a) (by omega)
    rw [if_pos hp, if_pos hp, u1, u2]
    have hm : 4503599627370496 ≤ (wMant a).toNat := by
      unfold wPow at hp
      unfold wMant
      unfold wKind at *
      repeat' split at hp
      all_goals first | omega | (rw [if_pos (by assumption)]; omega)
    generalize (wMant a).toNat = m at *
    have big : 64 < wPow a → 9223372036854775808 < m * 2 ^ 64 ∧ m * 2 ^ 64 ≤ m * 2 ^ (wPow a).toNat := by
      intro h
      have h1 : 4503599627370496 * 2 ^ 64 ≤ m * 2 ^ 64 := Nat.mul_le_mul_right _ hm
      rw [show 4503599627370496 * 2 ^ 64 = 83076749736557242056487941267521536 by decide] at h1
      exact ⟨by omega, Nat.mul_le_mul_left _ (Nat.pow_le_pow_right (by decide) (by omega))⟩
    refine ⟨?_, ?_, by simp⟩
    · intro M hM
      by_cases h : 64 < wPow a
      · obtain ⟨b1, b2⟩ := big h
        rw [show (min (wPow a) 64).toNat = 64 by omega]
        omega
      · rw [show min (wPow a) 64 = wPow a by omega]
    · intro hM
      by_cases h : 64 < wPow a
      · obtain ⟨b1, b2⟩ := big h
        rw [show (min (wPow a) 64).toNat = 64 by omega] at hM
        omega
      · rw [show min (wPow a) 64 = wPow a by omega]
  · obtain ⟨u1, u2⟩ := whole_down (wMant a).toNat (wPow a) (by omega) p3
    rw [if_neg hp, if_neg hp, u1]
    refine ⟨fun _ _ => Iff.rfl, fun _ => rfl, ?_⟩
    rw [decide_eq_decide]
    exact u2.symm
theorem mWhole (a : Int) (w : World) (h0 : 0 ≤ a) (h1 : a < 18446744073709551616) :
    Calls Try.prog 73 #[.int .u64 a] w fun e w' => ∃ h l : Int, e = .returned (.tuple #[.agg #[.int .u64 h, .int .u64 l], .bool (wpL a)]) ∧ 0 ≤ h ∧ h < 18446744073709551616 ∧ 0 ≤ l ∧ l < 18446744073709551616 ∧ wid h l = wpN a ∧ Below w.heap.size w w' := by
  obtain ⟨p1, p2, p3, p4⟩ := parts_bd a
  have WL : Hid (wid 0 (wMant a) = (wMant a).toNat) := wid_low _ p1
  by_cases hp : 0 < wPow a
  · have A : Hid (wpN a = (wMant a).toNat * 2 ^ (min (wPow a) 64).toNat) := by show _ = _; unfold wpN; rw [if_pos hp]
    have B : Hid (wpL a = false) := by show _ = _; unfold wpL; rw [if_pos hp]
    by_cases h64 : wPow a ≤ 64
    · have A2 : Hid (2 ^ (wPow a).toNat * (wMant a).toNat % 2 ^ 128 = wpN a) := by
        show _ = _
        rw [A.out, show min (wPow a) 64 = wPow a by omega, Nat.mul_comm]
        refine Nat.mod_eq_of_lt ?_
        have t1 : (wMant a).toNat * 2 ^ (wPow a).toNat ≤ 9007199254740992 * 2 ^ 64 := Nat.mul_le_mul (by omega) (Nat.pow_le_pow_right (by decide) (by omega))
        exact Nat.lt_of_le_of_lt t1 (by decide)
      clear A
      go_enter Try.func73, Try.ntmps73
      go_wp2_with fail
      refine (parts_any _ _ h0 h1).mono ?_
      rintro e w1 ⟨rfl, rfl⟩
      go_wp2_with fail
      refine (wLeft _ _ _ _ (by omega) (by omega) (by omega) (by omega) (by omega)).mono ?_
      rintro e w2 ⟨h, l, rfl, k0, k1, k2, k3, k4, hb2⟩
      rw [WL.out, A2.out] at k4
      have f2 := hb2.cell (p := ⟨w.heap.size, 0, none⟩) (by simp; omega)
      have f3 := hb2.cell (p := ⟨w.heap.size, 1, none⟩) (by simp; omega)
      have f4 := hb2.frozen (p := ⟨w.heap.size, 0, none⟩) (by simp; omega)
      have f5 := hb2.frozen (p := ⟨w.heap.size, 1, none⟩) (by simp; omega)
      simp [go_sem] at f2 f3 f4 f5
      have hz : w.heap.size < w2.heap.size := by have := hb2.size; simp at this; omega
      have hbw : Below w.heap.size w w2 := (((Below.refl _ _).alloc (Nat.le_refl _) _).alloc (by simp) _).trans (hb2.mono (by simp; omega))
      have K4 : Hid (_ = _) := k4
      clear hb2 k4
      go_wp2
      refine bodyPost_ret (v := .tuple #[.agg #[.int .u64 h, .int .u64 l], .bool false]) (by simp [results, Try.results73, go_sem, *]) rfl ⟨h, l, ret_eq (tup2 rfl (bool_eq B.out.symm)), k0, k1, k2, k3, K4.out, (hbw.setCell (by simp) _).setCell (by simp) _⟩
    · have A2 : Hid (2 ^ (64 : Int).toNat * (wMant a).toNat % 2 ^ 128 = wpN a) := by
        show _ = _
        rw [A.out, show (min (wPow a) 64).toNat = 64 by omega, Nat.mul_comm, show (64 : Int).toNat = 64 from rfl]
        refine Nat.mod_eq_of_lt ?_
        have t1 : (wMant a).toNat * 2 ^ 64 ≤ 9007199254740992 * 2 ^ 64 := Nat.mul_le_mul_right _ (by omega)
        exact Nat.lt_of_le_of_lt t1 (by decide)
      clear A
      go_enter Try.func73, Try.ntmps73
      go_wp2_with fail
      refine (parts_any _ _ h0 h1).mono ?_
      rintro e w1 ⟨rfl, rfl⟩
      go_wp2_with fail
      refine (wLeft _ _ _ _ (by omega) (by omega) (by omega) (by omega) (by omega)).mono ?_
      rintro e w2 ⟨h, l, rfl, k0, k1, k2, k3, k4, hb2⟩
      rw [WL.out, A2.out] at k4
      have f2 := hb2.cell (p := ⟨w.heap.size, 0, none⟩) (by simp; omega)
      have f3 := hb2.cell (p := ⟨w.heap.size, 1, none⟩) (by simp; omega)
      have f4 := hb2.frozen (p := ⟨w.heap.size, 0, none⟩) (by simp; omega)
      have f5 := hb2.frozen (p := ⟨w.heap.size, 1, none⟩) (by simp; omega)
      simp [go_sem] at f2 f3 f4 f5
      have hz : w.heap.size < w2.heap.size := by have := hb2.size; simp at this; omega
      have hbw : Below w.heap.size w w2 := (((Below.refl _ _).alloc (Nat.le_refl _) _).alloc (by simp) _).trans (hb2.mono (by simp; omega))
      have K4 : Hid (_ = _) := k4
      clear hb2 k4
      go_wp2
      refine bodyPost_ret (v := .tuple #[.agg #[.int .u64 h, .int .u64 l], .bool false]) (by simp [results, Try.results73, go_sem, *]) rfl ⟨h, l, ret_eq (tup2 rfl (bool_eq B.out.symm)), k0, k1, k2, k3, K4.out, (hbw.setCell (by simp) _).setCell (by simp) _⟩
  · have A : Hid ((wMant a).toNat / 2 ^ (-wPow a).toNat = wpN a) := by show _ = _; unfold wpN; rw [if_neg hp]
    have B : Hid (lostB (wMant a).toNat (-wPow a).toNat = wpL a) := by show _ = _; unfold wpL lostB; rw [if_neg hp]
    go_enter Try.func73, Try.ntmps73
    go_wp2_with fail
    refine (parts_any _ _ h0 h1).mono ?_
    rintro e w1 ⟨rfl, rfl⟩
    go_wp2_with fail
    refine (wRight _ _ _ _ (by omega) (by omega) (by omega) (by omega) (by omega)).mono ?_
    rintro e w2 ⟨h, l, rfl, k0, k1, k2, k3, k4, hb2⟩
    rw [WL.out, A.out] at k4
    rw [WL.out, B.out]
    obtain ⟨lo, hlo⟩ : ∃ s, wpL a = s := ⟨_, rfl⟩
    rw [hlo]
    have HLO : Hid (_ = _) := hlo
    have f2 := hb2.cell (p := ⟨w.heap.size, 0, none⟩) (by simp; omega)
    have f3 := hb2.cell (p := ⟨w.heap.size, 1, none⟩) (by simp; omega)
    have f4 := hb2.frozen (p := ⟨w.heap.size, 0, none⟩) (by simp; omega)
    have f5 := hb2.frozen (p := ⟨w.heap.size, 1, none⟩) (by simp; omega)
    simp [go_sem] at f2 f3 f4 f5
    have hz : w.heap.size < w2.heap.size := by have := hb2.size; simp at this; omega
    have hbw : Below w.heap.size w w2 := (((Below.refl _ _).alloc (Nat.le_refl _) _).alloc (by simp) _).trans (hb2.mono (by simp; omega))
    have K4 : Hid (_ = _) := k4
    clear hb2 k4 B hlo
    go_wp2
    refine bodyPost_ret (v := .tuple #[.agg #[.int .u64 h, .int .u64 l], .bool lo]) (by simp [results, Try.results73, go_sem, *]) rfl ⟨h, l, ret_eq (tup2 rfl (bool_eq HLO.out.symm)), k0, k1, k2, k3, K4.out, (hbw.setCell (by simp) _).setCell (by simp) _⟩
theorem run_lo2 (h l : Int) (w : World) : (Instr.field 69 (.agg #[.int .u64 h, .int .u64 l]) 1).run Try.prog w = .ok (.int .u64 l) w := by kernel_rfl
set_option maxRecDepth 100000 in
set_option maxHeartbeats 2000000 in
theorem mTo (a : Int) (w : World) (h0 : 0 ≤ a) (h1 : a < 18446744073709551616) :
    Calls Try.prog 29 #[.int .u64 a] w fun e w' => e = .returned (.tuple #[.int .i64 (toS a).1, .int .u8 (toS a).2]) ∧ Below w.heap.size w w' := by
  have SG : Hid (decide (9223372036854775808 ≤ a) = sgn a) := rfl
  by_cases hf : mag a < 9218868437227405312
  · obtain ⟨m1, m2, m3⟩ := wp_math a hf
    have F : Hid (decide (a / 4503599627370496 % 2048 < 2047) = true) := by show _ = _; rw [fin_dec]; exact decide_eq_true hf
    obtain ⟨S, hS⟩ : ∃ S, toS a = S := ⟨_, rfl⟩
    rw [hS]
    unfold toS at hS
    rw [if_neg (by omega)] at hS
    generalize V (mag a) / 2 ^ uu = Q at *
    obtain ⟨sg, hsg⟩ : ∃ s, sgn a = s := ⟨_, rfl⟩
    obtain ⟨lo, hlo⟩ : ∃ s, wpL a = s := ⟨_, rfl⟩
    obtain ⟨N, hN⟩ : ∃ s, wpN a = s := ⟨_, rfl⟩
    rw [hsg] at SG hS
    rw [hN] at m1 m2
    have hS2 : (if (if sg then 9223372036854775808 else 9223372036854775807) < Q then ((0 : Int), (16 : Int)) else (if sg then -(Q : Int) else (Q : Int), if lo then 1 else 0)) = S := by
      have g : (if V (mag a) % 2 ^ uu ≠ 0 then (1 : Int) else 0) = if lo then 1 else 0 := by
        rw [← hlo, m3]
        by_cases g : V (mag a) % 2 ^ uu ≠ 0
        · rw [if_pos g, decide_eq_true g, if_pos rfl]
        · rw [if_neg g, decide_eq_false g, if_neg (by simp)]
      rw [← hS, g]
    have H1 : Hid (∀ M : Nat, M ≤ 9223372036854775808 → (M < N ↔ M < Q)) := m1
    have H2 : Hid (N ≤ 9223372036854775808 → N = Q) := m2
    have HS : Hid (_ = S) := hS2
    have HN : Hid (_ = _) := hN
    have HL : Hid (_ = _) := hlo
    clear hS hS2 m1 m2 m3 hN hlo hf hsg
    cases sg
    · by_cases hc : 9223372036854775807 < N
      · have S2 : Hid (S = (0, 16)) := by
          show _ = _
          rw [← HS.out, if_pos]
          have := (H1.out 9223372036854775807 (by omega)).1 hc
          simpa using this
        have HC : Hid (0 < cmpI N 9223372036854775807) := by show _ < _; unfold cmpI; rw [if_neg (by omega), if_neg (by omega)]; omega
        clear HS H1 H2
        go_enter Try.func29, Try.ntmps29
        go_wp2_with (first | (go_at_call 25; refine (finite_any _ _ h0 h1).mono ?_; rintro e w' ⟨rfl, rfl⟩; rw [F.out]) | fail)
        refine (mWhole _ _ h0 h1).mono ?_
        rintro e w1 ⟨h, l, rfl, k0, k1, k2, k3, k4, hb1⟩
        rw [HN.out] at k4
        rw [HL.out]
        have W0 : Hid (wid h l = N) := k4
        clear k4
        go_wp2_with (first | (go_at_call 24; refine (neg_any _ _ h0 h1).mono ?_; rintro e w' ⟨rfl, rfl⟩; rw [SG.out]) | fail)
        refine (wCmp _ _ _ _ _ k0 k1 k2 k3 (by omega) (by omega) (by omega) (by omega)).mono ?_
        rintro e w2 ⟨rfl, hb2⟩
        have c0 := hb2.cell (p := ⟨w1.heap.size, 0, none⟩) (by simp)
        have c1 := hb2.cell (p := ⟨w1.heap.size, 1, none⟩) (by simp)
        simp [go_sem] at c0 c1
        have hbw := bstep (bmore hb1 _) hb2
        rw [W0.out, show wid 0 9223372036854775807 = 9223372036854775807 from rfl]
        obtain ⟨c, hcc⟩ : ∃ c, cmpI N 9223372036854775807 = c := ⟨_, rfl⟩
        have hcp : 0 < c := by have := HC.out; rw [hcc] at this; omega
        rw [hcc]
        clear hcc HC hb2 hb1
        go_wp2_with (first | (go_at_call 24; refine (neg_any _ _ h0 h1).mono ?_; rintro e w' ⟨rfl, rfl⟩; rw [SG.out]))
        all_goals go_ret2
        all_goals (refine ⟨?_, hbw⟩; rw [S2.out]; first | rfl | rfl)
      · have S2 : Hid (S = ((N : Int), if lo then 1 else 0)) := by
          show _ = _
          have e := H2.out (by omega)
          rw [← HS.out, if_neg, if_neg (by simp), e]
          have := (H1.out 9223372036854775807 (by omega)).2
          simp; omega
        have HC : Hid (cmpI N 9223372036854775807 ≤ 0) := by show _ ≤ _; unfold cmpI; repeat' split <;> omega
        clear HS H1 H2
        have hN9 : N ≤ 9223372036854775807 := by omega
        cases lo
        all_goals
          go_enter Try.func29, Try.ntmps29
          go_wp2_with (first | (go_at_call 25; refine (finite_any _ _ h0 h1).mono ?_; rintro e w' ⟨rfl, rfl⟩; rw [F.out]) | fail)
          refine (mWhole _ _ h0 h1).mono ?_
          rintro e w1 ⟨h, l, rfl, k0, k1, k2, k3, k4, hb1⟩
          rw [HN.out] at k4
          rw [HL.out]
          have W0 : Hid (wid h l = N) := k4
          have hl : l = (N : Int) := by unfold wid at k4; omega
          rw [← hl] at S2
          have lw : IntKind.i64.wrap l = l := by rw [IntKind.wrap_i64]; omega
          clear hl hN9 hc
          clear k4
          go_wp2_with (first | (go_at_call 24; refine (neg_any _ _ h0 h1).mono ?_; rintro e w' ⟨rfl, rfl⟩; rw [SG.out]) | fail)
          refine (wCmp _ _ _ _ _ k0 k1 k2 k3 (by omega) (by omega) (by omega) (by omega)).mono ?_
          rintro e w2 ⟨rfl, hb2⟩
          have c0 := hb2.cell (p := ⟨w1.heap.size, 0, none⟩) (by simp)
          have c1 := hb2.cell (p := ⟨w1.heap.size, 1, none⟩) (by simp)
          simp [go_sem] at c0 c1
          have hbw := bstep (bmore hb1 _) hb2
          rw [W0.out, show wid 0 9223372036854775807 = 9223372036854775807 from rfl]
          obtain ⟨c, hcc⟩ : ∃ c, cmpI N 9223372036854775807 = c := ⟨_, rfl⟩
          have hcp : c ≤ 0 := by have := HC.out; rw [hcc] at this; omega
          rw [hcc]
          clear hcc HC hb2 hb1
          go_wp2_with (first | (go_at_call 24; refine (neg_any _ _ h0 h1).mono ?_; rintro e w' ⟨rfl, rfl⟩; rw [SG.out]))
          all_goals go_ret2
          all_goals (refine ⟨?_, hbw⟩; rw [S2.out]; first | rfl | (refine ret_eq (tup2 (int_eq ?_) rfl); omega))
    · by_cases hc : 9223372036854775808 < N
      · have S2 : Hid (S = (0, 16)) := by
          show _ = _
          rw [← HS.out, if_pos]
          have := (H1.out 9223372036854775808 (by omega)).1 hc
          simpa using this
        have HC : Hid (0 < cmpI N 9223372036854775808) := by show _ < _; unfold cmpI; rw [if_neg (by omega), if_neg (by omega)]; omega
        clear HS H1 H2
        go_enter Try.func29, Try.ntmps29
        go_wp2_with (first | (go_at_call 25; refine (finite_any _ _ h0 h1).mono ?_; rintro e w' ⟨rfl, rfl⟩; rw [F.out]) | fail)
        refine (mWhole _ _ h0 h1).mono ?_
        rintro e w1 ⟨h, l, rfl, k0, k1, k2, k3, k4, hb1⟩
        rw [HN.out] at k4
        rw [HL.out]
        have W0 : Hid (wid h l = N) := k4
        clear k4
        go_wp2_with (first | (go_at_call 24; refine (neg_any _ _ h0 h1).mono ?_; rintro e w' ⟨rfl, rfl⟩; rw [SG.out]) | fail)
        refine (wCmp _ _ _ _ _ k0 k1 k2 k3 (by omega) (by omega) (by omega) (by omega)).mono ?_
        rintro e w2 ⟨rfl, hb2⟩
        have c0 := hb2.cell (p := ⟨w1.heap.size, 0, none⟩) (by simp)
        have c1 := hb2.cell (p := ⟨w1.heap.size, 1, none⟩) (by simp)
        simp [go_sem] at c0 c1
        have hbw := bstep (bmore hb1 _) hb2
        rw [W0.out, show wid 0 9223372036854775808 = 9223372036854775808 from rfl]
        obtain ⟨c, hcc⟩ : ∃ c, cmpI N 9223372036854775808 = c := ⟨_, rfl⟩
        have hcp : 0 < c := by have := HC.out; rw [hcc] at this; omega
        rw [hcc]
        clear hcc HC hb2 hb1
        go_wp2_with (first | (go_at_call 24; refine (neg_any _ _ h0 h1).mono ?_; rintro e w' ⟨rfl, rfl⟩; rw [SG.out]))
        all_goals go_ret2
        all_goals (refine ⟨?_, hbw⟩; rw [S2.out]; first | rfl | rfl)
      · have S2 : Hid (S = (-(N : Int), if lo then 1 else 0)) := by
          show _ = _
          have e := H2.out (by omega)
          rw [← HS.out, if_neg, if_pos (by rfl), e]
          have := (H1.out 9223372036854775808 (by omega)).2
          simp; omega
        have HC : Hid (cmpI N 9223372036854775808 ≤ 0) := by show _ ≤ _; unfold cmpI; repeat' split <;> omega
        clear HS H1 H2
        have hN9 : N ≤ 9223372036854775808 := by omega
        cases lo
        all_goals
          go_enter Try.func29, Try.ntmps29
          go_wp2_with (first | (go_at_call 25; refine (finite_any _ _ h0 h1).mono ?_; rintro e w' ⟨rfl, rfl⟩; rw [F.out]) | fail)
          refine (mWhole _ _ h0 h1).mono ?_
          rintro e w1 ⟨h, l, rfl, k0, k1, k2, k3, k4, hb1⟩
          rw [HN.out] at k4
          rw [HL.out]
          have W0 : Hid (wid h l = N) := k4
          have hl : l = (N : Int) := by unfold wid at k4; omega
          rw [← hl] at S2
          have lw : ∃ z, IntKind.i64.wrap l = z ∧ IntKind.i64.wrap (-z) = -l := ⟨_, rfl, by rw [IntKind.wrap_i64, IntKind.wrap_i64]; omega⟩
          obtain ⟨z, lw1, lw2⟩ := lw
          clear hl hN9 hc
          clear k4
          go_wp2_with (first | (go_at_call 24; refine (neg_any _ _ h0 h1).mono ?_; rintro e w' ⟨rfl, rfl⟩; rw [SG.out]) | fail)
          refine (wCmp _ _ _ _ _ k0 k1 k2 k3 (by omega) (by omega) (by omega) (by omega)).mono ?_
          rintro e w2 ⟨rfl, hb2⟩
          have c0 := hb2.cell (p := ⟨w1.heap.size, 0, none⟩) (by simp)
          have c1 := hb2.cell (p := ⟨w1.heap.size, 1, none⟩) (by simp)
          simp [go_sem] at c0 c1
          have hbw := bstep (bmore hb1 _) hb2
          rw [W0.out, show wid 0 9223372036854775808 = 9223372036854775808 from rfl]
          obtain ⟨c, hcc⟩ : ∃ c, cmpI N 9223372036854775808 = c := ⟨_, rfl⟩
          have hcp : c ≤ 0 := by have := HC.out; rw [hcc] at this; omega
          rw [hcc]
          clear hcc HC hb2 hb1
          go_wp2_with (first | (go_at_call 24; refine (neg_any _ _ h0 h1).mono ?_; rintro e w' ⟨rfl, rfl⟩; rw [SG.out]))
          all_goals go_ret2
          all_goals (refine ⟨?_, hbw⟩; rw [S2.out]; first | rfl | (refine ret_eq (tup2 (int_eq ?_) rfl); omega))
  · have S2 : Hid (toS a = (0, 16)) := by
      show _ = _
      unfold toS
      rw [if_pos (by omega)]
    have F : Hid (decide (a / 4503599627370496 % 2048 < 2047) = false) := by show _ = _; rw [fin_dec]; exact decide_eq_false hf
    clear hf
    go_enter Try.func29, Try.ntmps29
    go_wp2_with (first | (go_at_call 25; refine (finite_any _ _ h0 h1).mono ?_; rintro e w' ⟨rfl, rfl⟩; rw [F.out]))
    go_ret2
    refine ⟨?_, Below.refl _ _⟩
    rw [S2.out]
    rfl
end Go.Proofs.Yteohkpiecidicaa
