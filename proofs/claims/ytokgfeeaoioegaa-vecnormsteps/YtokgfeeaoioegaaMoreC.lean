/-
  What the functions of package more return (Fma apart): sqrtS, scaleS, fromS, toS, at every argument.
-/
import Derived.Test.YtokgfeeaoioegaaMoreM
import Derived.Test.YtokgfeeaoioegaaSoftE
import Derived.Test.YtokgfeeaoioegaaWideE
namespace Go.Proofs.Ytokgfeeaoioegaa
open Go.RowKit
set_option linter.unusedVariables false

theorem add_self (a : Int) (h0 : 0 ≤ a) (h1 : a < 18446744073709551616) (h : 9218868437227405312 ≤ mag a) : addS a a = if isNan a then (9221120237041090560, nanF a a) else (a, 0) := by
  unfold addS
  rw [Bool.or_self]
  by_cases hn : isNan a = true
  · rw [if_pos hn, if_pos hn]
  · have hi : isInf a = true := by
      unfold isNan at hn
      unfold isInf
      rw [decide_eq_true_eq] at hn
      rw [decide_eq_true_eq]
      omega
    rw [if_neg hn, if_neg hn, hi, if_neg (by simp), if_pos rfl]
theorem mZero (b : Int) (w : World) (h0 : 0 ≤ b) (h1 : b < 18446744073709551616) :
    Calls Try.prog 76 #[.int .u64 b] w fun e w' => e = .returned (.bool (isZ b)) ∧ w' = w := by
  go_enter Try.func76, Try.ntmps76
  go_wp2_with (go_at_call 48; refine (abs_any _ _ h0 h1).mono ?_; rintro e w' ⟨rfl, rfl⟩)
  go_ret
  refine ⟨ret_eq (bool_eq ?_), rfl⟩
  unfold isZ mag
  rw [Bool.eq_iff_iff, beq_iff_eq, decide_eq_true_eq]
  omega
theorem mNot (a : Int) (w : World) (h0 : 0 ≤ a) (h1 : a < 18446744073709551616) :
    Calls Try.prog 75 #[.int .u64 a] w fun e w' => e = .returned (.tuple #[.int .u64 (addS a a).1, .int .u8 (addS a a).2]) ∧ Below w.heap.size w w' := by
  go_enter Try.func75, Try.ntmps75
  go_wp2_with fail
  refine (pAdd _ _ _ h0 h1 h0 h1).mono ?_
  rintro e w1 ⟨rfl, hb1⟩
  go_wp2
  go_ret2
  exact ⟨ret_eq rfl, hb1⟩
theorem wid_low (l : Int) (h : 0 ≤ l) : wid 0 l = l.toNat := by unfold wid; omega
theorem fin_dec (a : Int) : decide (a / 4503599627370496 % 2048 < 2047) = decide (mag a < 9218868437227405312) := by rw [decide_eq_decide]; exact fin_mag a
theorem mScale (a n : Int) (w : World) (h0 : 0 ≤ a) (h1 : a < 18446744073709551616) (n0 : -9223372036854775808 ≤ n) (n1 : n ≤ 9223372036854775807) :
    Calls Try.prog 36 #[.int .u64 a, .int .i64 n] w fun e w' => e = .returned (.tuple #[.int .u64 (scaleS a n).1, .int .u8 (scaleS a n).2]) ∧ Below w.heap.size w w' := by
  by_cases hf : mag a < 9218868437227405312
  · obtain ⟨nn, ni⟩ := fin_facts a hf
    by_cases hz : mag a = 0
    · have S : Hid (scaleS a n = (a, 0)) := by
        show _ = _
        unfold scaleS
        rw [nn, if_neg (by simp), (z_iff a).2 hz, Bool.or_true, if_pos rfl]
      have Z : Hid (isZ a = true) := (z_iff a).2 hz
      have F : Hid (decide (a / 4503599627370496 % 2048 < 2047) = true) := by show _ = _; rw [fin_dec]; exact decide_eq_true hf
      clear hf hz nn ni
      go_enter Try.func36, Try.ntmps36
      go_wp2_with (first | (go_at_call 57; refine (finite_any _ _ h0 h1).mono ?_; rintro e w' ⟨rfl, rfl⟩; rw [F.out]) | (go_at_call 76; refine (mZero _ _ h0 h1).mono ?_; rintro e w' ⟨rfl, rfl⟩; rw [Z.out]))
      go_ret2
      refine ⟨?_, Below.refl _ _⟩
      rw [S.out]
      all_goals rfl
    · obtain ⟨p1, p2, p3, p4⟩ := parts_bd a
      have mp := mant_pos a hf hz
      have sc := scale_parts a n hf
      have cl := num_clamp (wMant a).toNat (wPow a) n 10000 mp (by omega) p3 p4 (by omega)
      have S : Hid (scaleS a n = (sgnB (sgn a) + ((numP (wMant a).toNat (wPow a + min (max n (-10000)) 10000) : Nat) : Int), ((flagP (wMant a).toNat (wPow a + min (max n (-10000)) 10000) : Nat) : Int))) := by
        show _ = _
        unfold scaleS
        rw [nn, if_neg (by simp), ni, (z_not a).2 hz, if_neg (by simp), sc.1, sc.2, cl.1, cl.2]
      have Z : Hid (isZ a = false) := (z_not a).2 hz
      have F : Hid (decide (a / 4503599627370496 % 2048 < 2047) = true) := by show _ = _; rw [fin_dec]; exact decide_eq_true hf
      have SG : Hid (decide (9223372036854775808 ≤ a) = sgn a) := rfl
      obtain ⟨N, hN⟩ : ∃ N, min (max n (-10000)) 10000 = N := ⟨_, rfl⟩
      have hN0 : -10000 ≤ N := by omega
      have hN1 : N ≤ 10000 := by omega
      rw [hN] at S
      have CE := clampE_in (wPow a + N) (by omega) (by omega)
      have HN : Hid (_ = _) := hN
      have HC : Hid (_ = _) := CE
      have WL : Hid (wid 0 (wMant a) = (wMant a).toNat) := wid_low _ p1
      clear hf hz nn ni sc cl hN CE
      by_cases c1 : n < -10000
      · obtain rfl : N = -10000 := by have := HN.out; omega
        go_enter Try.func36, Try.ntmps36
        go_wp2_with (first | (go_at_call 57; refine (finite_any _ _ h0 h1).mono ?_; rintro e w' ⟨rfl, rfl⟩; rw [F.out]) | (go_at_call 76; refine (mZero _ _ h0 h1).mono ?_; rintro e w' ⟨rfl, rfl⟩; rw [Z.out]) | (go_at_call 63; refine (parts_any _ _ h0 h1).mono ?_; rintro e w' ⟨rfl, rfl⟩) | (go_at_call 65; refine (neg_any _ _ h0 h1).mono ?_; rintro e w' ⟨rfl, rfl⟩; rw [SG.out]) | fail)
        refine (pRound _ _ _ _ _ _ (by omega) (by omega) (by omega) (by omega)).mono ?_
        rintro e w2 ⟨rfl, hb2⟩
        rw [WL.out, HC.out, (numR_false _ _).1, (numR_false _ _).2]
        go_wp2
        go_ret2
        refine ⟨?_, by first | exact hb2 | exact bstep (bmore (Below.refl _ _) _) hb2⟩
        rw [S.out]
        rfl
      · by_cases c2 : 10000 < n
        · obtain rfl : N = 10000 := by have := HN.out; omega
          go_enter Try.func36, Try.ntmps36
          go_wp2_with (first | (go_at_call 57; refine (finite_any _ _ h0 h1).mono ?_; rintro e w' ⟨rfl, rfl⟩; rw [F.out]) | (go_at_call 76; refine (mZero _ _ h0 h1).mono ?_; rintro e w' ⟨rfl, rfl⟩; rw [Z.out]) | (go_at_call 63; refine (parts_any _ _ h0 h1).mono ?_; rintro e w' ⟨rfl, rfl⟩) | (go_at_call 65; refine (neg_any _ _ h0 h1).mono ?_; rintro e w' ⟨rfl, rfl⟩; rw [SG.out]) | fail)
          refine (pRound _ _ _ _ _ _ (by omega) (by omega) (by omega) (by omega)).mono ?_
          rintro e w2 ⟨rfl, hb2⟩
          rw [WL.out, HC.out, (numR_false _ _).1, (numR_false _ _).2]
          go_wp2
          go_ret2
          refine ⟨?_, by first | exact hb2 | exact bstep (bmore (Below.refl _ _) _) hb2⟩
          rw [S.out]
          rfl
        · obtain rfl : N = n := by have := HN.out; omega
          go_enter Try.func36, Try.ntmps36
          go_wp2_with (first | (go_at_call 57; refine (finite_any _ _ h0 h1).mono ?_; rintro e w' ⟨rfl, rfl⟩; rw [F.out]) | (go_at_call 76; refine (mZero _ _ h0 h1).mono ?_; rintro e w' ⟨rfl, rfl⟩; rw [Z.out]) | (go_at_call 63; refine (parts_any _ _ h0 h1).mono ?_; rintro e w' ⟨rfl, rfl⟩) | (go_at_call 65; refine (neg_any _ _ h0 h1).mono ?_; rintro e w' ⟨rfl, rfl⟩; rw [SG.out]) | fail)
          refine (pRound _ _ _ _ _ _ (by omega) (by omega) (by omega) (by omega)).mono ?_
          rintro e w2 ⟨rfl, hb2⟩
          rw [WL.out, HC.out, (numR_false _ _).1, (numR_false _ _).2]
          go_wp2
          go_ret2
          refine ⟨?_, by first | exact hb2 | exact bstep (bmore (Below.refl _ _) _) hb2⟩
          rw [S.out]
          rfl
  · have S : Hid (scaleS a n = addS a a) := by
      show _ = _
      rw [add_self a h0 h1 (by omega)]
      unfold scaleS
      by_cases hn : isNan a = true
      · rw [if_pos hn, if_pos hn]
      · have hi : isInf a = true := by
          unfold isNan at hn
          unfold isInf
          rw [decide_eq_true_eq] at hn
          rw [decide_eq_true_eq]
          omega
        rw [if_neg hn, if_neg hn, hi, if_pos (by simp)]
    have F : Hid (decide (a / 4503599627370496 % 2048 < 2047) = false) := by show _ = _; rw [fin_dec]; exact decide_eq_false hf
    clear hf
    go_enter Try.func36, Try.ntmps36
    go_wp2_with (first | (go_at_call 57; refine (finite_any _ _ h0 h1).mono ?_; rintro e w' ⟨rfl, rfl⟩; rw [F.out]) | fail)
    refine (mNot _ _ h0 h1).mono ?_
    rintro e w2 ⟨rfl, hb2⟩
    go_wp2
    go_ret2
    refine ⟨?_, hb2⟩
    rw [S.out]
    rfl
def wpN (a : Int) : Nat := if 0 < wPow a then (wMant a).toNat * 2 ^ (min (wPow a) 64).toNat else (wMant a).toNat / 2 ^ (-wPow a).toNat
def wpL (a : Int) : Bool := if 0 < wPow a then false else decide ((wMant a).toNat % 2 ^ (-wPow a).toNat ≠ 0)
theorem wp_math (a : Int) (hf : mag a < 9218868437227405312) :
    (∀ M : Nat, M ≤ 9223372036854775808 → (M < wpN a ↔ M < V (mag a) / 2 ^ uu)) ∧ (wpN a ≤ 9223372036854775808 → wpN a = V (mag a) / 2 ^ uu) ∧ wpL a = decide (V (mag a) % 2 ^ uu ≠ 0) := by
  obtain ⟨p1, p2, p3, p4⟩ := parts_bd a
  rw [parts_V a hf]
  unfold wpN wpL
  by_cases hp : 0 < wPow a
  · obtain ⟨u1, u2⟩ := whole_up (wMant a).toNat (wPow a) (by omega)
    rw [if_pos hp, if_pos hp, u1, u2]
    have hm : 4503599627370496 ≤ (wMant a).toNat := by
      unfold wPow at hp
      unfold wMant
      unfold wKind at *
      repeat' split at hp
      all_goals first | omega | (rw [if_pos (by assumption)]; omega)
    generalize (wMant a).toNat = m at *
    have big : 64 < wPow a → 9223372036854775808 < m * 2 ^ 64 ∧ m * 2 ^ 64 ≤ m * 2 ^ (wPow a).toNat := by
      intro h
      have h1 : 4503599627370496 * 2 ^ 64 ≤ m * 2 ^ 64 := Nat.mul_le_mul_right _ hm
      rw [show 4503599627370496 * 2 ^ 64 = 83076749736557242056487941267521536 by decide] at h1
      exact ⟨by omega, Nat.mul_le_mul_left _ (Nat.pow_le_pow_right (by decide) (by omega))⟩
    refine ⟨?_, ?_, by simp⟩
    · intro M hM
      by_cases h : 64 < wPow a
      · obtain ⟨b1, b2⟩ := big h
        rw [show (min (wPow a) 64).toNat = 64 by omega]
        omega
      · rw [show min (wPow a) 64 = wPow a by omega]
    · intro hM
      by_cases h : 64 < wPow a
      · obtain ⟨b1, b2⟩ := big h
        rw [show (min (wPow a) 64).toNat = 64 by omega] at hM
        omega
      · rw [show min (wPow a) 64 = wPow a by omega]
  · obtain ⟨u1, u2⟩ := whole_down (wMant a).toNat (wPow a) (by omega) p3
    rw [if_neg hp, if_neg hp, u1]
    refine ⟨fun _ _ => Iff.rfl, fun _ => rfl, ?_⟩
    rw [decide_eq_decide]
    exact u2.symm
theorem run_lo2 (h l : Int) (w : World) : (Instr.field 101 (.agg #[.int .u64 h, .int .u64 l]) 1).run Try.prog w = .ok (.int .u64 l) w := by kernel_rfl
end Go.Proofs.Ytokgfeeaoioegaa
