/-
  What math/bits' Div64 returns, where the upper word is less than the divisor: the quotient and what is left of the two words' number.
-/
import Derived.Test.YtbflkcpcbnkpbaaDivM
import Derived.Test.YtbflkcpcbnkpbaaRef02E
import Derived.Laws.MathBits
namespace Go.Proofs.Ytbflkcpcbnkpbaa
open Go.RowKit
set_option linter.unusedVariables false

theorem tup2i {a b c d : Int} (h : a = c) (g : b = d) : Value.tuple #[.int .u64 a, .int .u64 b] = Value.tuple #[.int .u64 c, .int .u64 d] := by rw [h, g]
set_option maxHeartbeats 1000000 in
theorem div64_zero (lo y : Int) (w : World) (l0 : 0 ≤ lo) (l1 : lo < 18446744073709551616) (y0 : 0 < y) (y1 : y < 18446744073709551616) :
    Calls Try.prog 89 #[.int .u64 0, .int .u64 lo, .int .u64 y] w fun e w' => e = .returned (.tuple #[.int .u64 (lo / y), .int .u64 (lo % y)]) ∧ Below w.heap.size w w' := by
  have hy : (y == 0) = false := by rw [beq_eq_false_iff_ne]; omega
  have hy' : ¬ y = 0 := by omega
  go_enter Try.func89, Try.ntmps89
  go_wp2_with fail
  go_quiet (fail)
  go_wp2
  go_ret2
  exact ⟨ret_eq rfl, below_drewN (Below.refl _ _) _⟩
set_option maxHeartbeats 1000000 in
theorem div64_more (hi lo y Qt Rt : Int) (w : World) (h0 : 0 < hi) (h1 : hi < y) (l0 : 0 ≤ lo) (l1 : lo < 18446744073709551616) (y1 : y < 18446744073709551616) (hQt : Qt = ((wid hi lo / y.toNat : Nat) : Int)) (hRt : Rt = ((wid hi lo % y.toNat : Nat) : Int)) :
    Calls Try.prog 89 #[.int .u64 hi, .int .u64 lo, .int .u64 y] w fun e w' => e = .returned (.tuple #[.int .u64 Qt, .int .u64 Rt]) ∧ Below w.heap.size w w' := by
  have HQt : Hid (_ = _) := hQt
  have HRt : Hid (_ = _) := hRt
  clear hQt hRt
  have hy : (y == 0) = false := by rw [beq_eq_false_iff_ne]; omega
  have hh : (hi == 0) = false := by rw [beq_eq_false_iff_ne]; omega
  have hl1 : (bl y.toNat).length ≤ 64 := (bl_length_le _ 64).2 (by omega)
  have hl2 : 1 < (bl y.toNat).length := (bl_length_lt _ 1).2 (by omega)
  obtain ⟨s, hs⟩ : ∃ s : Nat, s + (bl y.toNat).length = 64 := ⟨64 - (bl y.toNat).length, by omega⟩
  have hs1 : s ≤ 62 := by omega
  have HS : Hid ((64 : Int) - ((bl y.toNat).length : Nat) = (s : Int)) := by show _ = _; omega
  obtain ⟨Y, U, L, eY, eU, eL, hY0, hY1, hU0, hU1, hL0, hL1, hYn, hN⟩ := div_norm hi lo y s h0 h1 l0 l1 y1 hs hs1
  obtain ⟨A, eA⟩ : ∃ A : Int, Y / 4294967296 = A := ⟨_, rfl⟩
  obtain ⟨B, eB'⟩ : ∃ B : Int, Y % 4294967296 = B := ⟨_, rfl⟩
  obtain ⟨u1, eu1⟩ : ∃ u1 : Int, L / 4294967296 = u1 := ⟨_, rfl⟩
  obtain ⟨u0, eu0'⟩ : ∃ u0 : Int, L % 4294967296 = u0 := ⟨_, rfl⟩
  have eB : bits .and .u64 Y 4294967295 = B := by rw [and_low32 Y (by omega) hY1, eB']
  have eu0 : bits .and .u64 L 4294967295 = u0 := by rw [and_low32 L hL0 hL1, eu0']
  have hA0 : 2147483648 ≤ A := by omega
  have hA1 : A < 4294967296 := by omega
  have hB0 : 0 ≤ B := by omega
  have hB1 : B < 4294967296 := by omega
  have hu10 : 0 ≤ u1 := by omega
  have hu11 : u1 < 4294967296 := by omega
  have hu00 : 0 ≤ u0 := by omega
  have hu01 : u0 < 4294967296 := by omega
  have eYn : Y.toNat = A.toNat * 4294967296 + B.toNat := by omega
  obtain ⟨q1, eq1, hq10, hqA0, hqA, hst⟩ := start_of U A B u1 hA0 hA1 hB0 hB1 hU0 (by omega) hu10 hu11
  have DF := div_fin s y.toNat (wid hi lo) U.toNat L.toNat Y.toNat A.toNat (by omega) hYn hN
  have HDF : Hid (_ ∧ _) := DF
  have HYN : Hid (_ = _) := eYn
  have HU1 : Hid (L.toNat / 4294967296 = u1.toNat ∧ L.toNat % 4294967296 = u0.toNat) := ⟨by omega, by omega⟩
  have Q1lt : Hid ((U.toNat * 4294967296 + u1.toNat) / (A.toNat * 4294967296 + B.toNat) < 4294967296) := digit_lt (by omega) (by omega) (by omega) (by omega)
  clear hl1 hl2 hs DF eYn hYn hN eB' eu0'
  have HST : Hid (Digit _ _ _ _ _ _ _) := hst
  clear hst
  go_enter Try.func89, Try.ntmps89
  go_wp2_with fail
  refine (lead_any _ _ (by omega) y1).mono ?_
  rintro e w' ⟨rfl, rfl⟩
  rw [HS.out]
  go_wp2_with fail
  go_loop [15, 16] (fun qv rv => ∃ q r : Int, qv = .int .u64 q ∧ rv = .int .u64 r ∧ 0 ≤ q ∧ 0 ≤ r ∧ Digit 4294967296 A.toNat B.toNat U.toNat u1.toNat q.toNat r.toNat) (fun qv _ => (intOf qv).toNat)
  case atStart => rw [eq1]; exact ⟨_, _, rfl, rfl, hq10, by omega, HST.out⟩
  case round =>
    obtain ⟨q, r, rfl, rfl, hq0, hr0, hd⟩ := hrel
    have hdl := hd.le
    have hdt := hd.lt
    have hdg := hd.ge
    have T := test_of A B U u1 q r (by omega) hB0 (by omega) hq0 hr0 hd
    have hq2 : q ≤ 4294967297 := by omega
    have hr2 : r < 4294967296 := by omega
    have HD : Hid (Digit _ _ _ _ _ _ _) := hd
    have QL := Q1lt.out
    clear hd hdl hdt
    by_cases hg : (U.toNat * 4294967296 + u1.toNat) / (A.toNat * 4294967296 + B.toNat) < q.toNat
    · have hq1 : 0 < q := by have := Nat.lt_of_le_of_lt (Nat.zero_le _) hg; omega
      have ht := T.1 hg
      have HG : Hid (_ < _) := hg
      clear T hg hdg
      by_cases hbig : 4294967296 ≤ q
      · clear ht
        by_cases hbr : 4294967296 ≤ r + A
        · have HB := HD.out.broke (by omega) (by omega) (by omega) HG.out (by omega)
          have hqn : (q - 1).toNat = _ := (show (q - 1).toNat = q.toNat - 1 by omega).trans HB
          have hq3 : q - 1 < 4294967296 := by rw [← hqn] at QL; omega
          clear HB QL
          have hqz : 0 ≤ (q - 1) := by omega
          rw [← HYN.out] at hqn
          obtain ⟨R, eR, hR0, hR1, hRn⟩ := rest_of U u1 (q - 1) Y hU0 hu10 hqz (by omega) hY1 hqn
          have HQ1 : Hid (_ = _) := hqn
          have HRn : Hid (_ = _) := hRn
          have hRY : R < A * 4294967296 + B := by have := HYN.out; omega
          obtain ⟨q2, eq2, hq20, hq2A0, hq2A, hst2⟩ := start_of R A B u0 hA0 hA1 hB0 hB1 hR0 hRY hu00 hu01
          have HST2 : Hid (Digit _ _ _ _ _ _ _) := hst2
          have Q2lt : Hid ((R.toNat * 4294967296 + u0.toNat) / (A.toNat * 4294967296 + B.toNat) < 4294967296) := digit_lt (by omega) (by omega) (by omega) (by omega)
          clear hst2 hqn hRn hq0 hq2
          go_wp2_with fail
          go_loop [18, 16] (fun qv rv => ∃ q r : Int, qv = .int .u64 q ∧ rv = .int .u64 r ∧ 0 ≤ q ∧ 0 ≤ r ∧ Digit 4294967296 A.toNat B.toNat R.toNat u0.toNat q.toNat r.toNat) (fun qv _ => (intOf qv).toNat)
          case atStart => exact ⟨_, _, rfl, rfl, hq20, by omega, HST2.out⟩
          case round =>
            obtain ⟨q', r', rfl, rfl, hq0, hr0, hd⟩ := hrel
            have hdl := hd.le
            have hdt := hd.lt
            have hdg := hd.ge
            have T := test_of A B R u0 q' r' (by omega) hB0 (by omega) hq0 hr0 hd
            have hq2 : q' ≤ 4294967297 := by omega
            have hr2 : r' < 4294967296 := by omega
            have HD : Hid (Digit _ _ _ _ _ _ _) := hd
            have QL := Q2lt.out
            clear hd hdl hdt
            by_cases hg : (R.toNat * 4294967296 + u0.toNat) / (A.toNat * 4294967296 + B.toNat) < q'.toNat
            · have hq1 : 0 < q' := by have := Nat.lt_of_le_of_lt (Nat.zero_le _) hg; omega
              have ht := T.1 hg
              have HG : Hid (_ < _) := hg
              clear T hg hdg
              by_cases hbig : 4294967296 ≤ q'
              · clear ht
                by_cases hbr : 4294967296 ≤ r' + A
                · have HB := HD.out.broke (by omega) (by omega) (by omega) HG.out (by omega)
                  have hqn : (q' - 1).toNat = _ := (show (q' - 1).toNat = q'.toNat - 1 by omega).trans HB
                  have hq3 : q' - 1 < 4294967296 := by rw [← hqn] at QL; omega
                  clear HB QL
                  rw [← HYN.out] at hqn
                  obtain ⟨R2, eR2, hR20, hR21, hR2n⟩ := rest_of R u0 (q' - 1) Y hR0 hu00 (by omega) (by omega) hY1 hqn
                  have HC : Hid (_ ∧ _) := div_close s y.toNat (wid hi lo) U L Y u1 u0 (q - 1) R (q' - 1) R2 (by omega) hR0 (by omega) hR20 HDF.out HU1.out HQ1.out HRn.out hqn hR2n
                  clear hqn hR2n
                  go_wp2
                  go_ret2
                  exact ⟨ret_eq (tup2i (HC.out.1.trans HQt.out.symm) (HC.out.2.trans HRt.out.symm)), Below.refl _ _⟩
                · clear QL
                  go_wp2_with fail
                  go_round
                  case rel => exact ⟨_, _, rfl, rfl, by omega, by omega, by rw [show (q' - 1).toNat = q'.toNat - 1 by omega, show (r' + A).toNat = r'.toNat + A.toNat by omega]; exact HD.out.step HG.out (by omega)⟩
                  case measure => show (q' - 1).toNat < q'.toNat; omega
              · have hqB := prod_lt32 q' B hq0 (by omega) hB0 hB1
                have hqB0 : 0 ≤ q' * B := Int.mul_nonneg hq0 hB0
                by_cases hbr : 4294967296 ≤ r' + A
                · have HB := HD.out.broke (by omega) (by omega) (by omega) HG.out (by omega)
                  have hqn : (q' - 1).toNat = _ := (show (q' - 1).toNat = q'.toNat - 1 by omega).trans HB
                  have hq3 : q' - 1 < 4294967296 := by omega
                  clear HB QL
                  rw [← HYN.out] at hqn
                  obtain ⟨R2, eR2, hR20, hR21, hR2n⟩ := rest_of R u0 (q' - 1) Y hR0 hu00 (by omega) (by omega) hY1 hqn
                  have HC : Hid (_ ∧ _) := div_close s y.toNat (wid hi lo) U L Y u1 u0 (q - 1) R (q' - 1) R2 (by omega) hR0 (by omega) hR20 HDF.out HU1.out HQ1.out HRn.out hqn hR2n
                  clear hqn hR2n
                  go_wp2
                  go_ret2
                  exact ⟨ret_eq (tup2i (HC.out.1.trans HQt.out.symm) (HC.out.2.trans HRt.out.symm)), Below.refl _ _⟩
                · clear QL
                  go_wp2_with fail
                  go_round
                  case rel => exact ⟨_, _, rfl, rfl, by omega, by omega, by rw [show (q' - 1).toNat = q'.toNat - 1 by omega, show (r' + A).toNat = r'.toNat + A.toNat by omega]; exact HD.out.step HG.out (by omega)⟩
                  case measure => show (q' - 1).toNat < q'.toNat; omega
            · have hqn : q'.toNat = _ := Nat.le_antisymm (Nat.le_of_not_lt hg) hdg
              have hq3 : q' < 4294967296 := by rw [← hqn] at QL; omega
              have ht : ¬ 4294967296 * r' + u0 < q' * B := fun h => hg (T.2 h)
              have hqB := prod_lt32 q' B hq0 (by omega) hB0 hB1
              have hqB0 : 0 ≤ q' * B := Int.mul_nonneg hq0 hB0
              clear T hg hdg QL
              rw [← HYN.out] at hqn
              obtain ⟨R2, eR2, hR20, hR21, hR2n⟩ := rest_of R u0 q' Y hR0 hu00 (by omega) (by omega) hY1 hqn
              have HC : Hid (_ ∧ _) := div_close s y.toNat (wid hi lo) U L Y u1 u0 (q - 1) R q' R2 (by omega) hR0 (by omega) hR20 HDF.out HU1.out HQ1.out HRn.out hqn hR2n
              clear hqn hR2n
              go_wp2
              go_ret2
              exact ⟨ret_eq (tup2i (HC.out.1.trans HQt.out.symm) (HC.out.2.trans HRt.out.symm)), Below.refl _ _⟩
        · clear QL
          go_wp2_with fail
          go_round
          case rel => exact ⟨_, _, rfl, rfl, by omega, by omega, by rw [show (q - 1).toNat = q.toNat - 1 by omega, show (r + A).toNat = r.toNat + A.toNat by omega]; exact HD.out.step HG.out (by omega)⟩
          case measure => show (q - 1).toNat < q.toNat; omega
      · have hqB := prod_lt32 q B hq0 (by omega) hB0 hB1
        have hqB0 : 0 ≤ q * B := Int.mul_nonneg hq0 hB0
        by_cases hbr : 4294967296 ≤ r + A
        · have HB := HD.out.broke (by omega) (by omega) (by omega) HG.out (by omega)
          have hqn : (q - 1).toNat = _ := (show (q - 1).toNat = q.toNat - 1 by omega).trans HB
          have hq3 : q - 1 < 4294967296 := by omega
          clear HB QL
          have hqz : 0 ≤ (q - 1) := by omega
          rw [← HYN.out] at hqn
          obtain ⟨R, eR, hR0, hR1, hRn⟩ := rest_of U u1 (q - 1) Y hU0 hu10 hqz (by omega) hY1 hqn
          have HQ1 : Hid (_ = _) := hqn
          have HRn : Hid (_ = _) := hRn
          have hRY : R < A * 4294967296 + B := by have := HYN.out; omega
          obtain ⟨q2, eq2, hq20, hq2A0, hq2A, hst2⟩ := start_of R A B u0 hA0 hA1 hB0 hB1 hR0 hRY hu00 hu01
          have HST2 : Hid (Digit _ _ _ _ _ _ _) := hst2
          have Q2lt : Hid ((R.toNat * 4294967296 + u0.toNat) / (A.toNat * 4294967296 + B.toNat) < 4294967296) := digit_lt (by omega) (by omega) (by omega) (by omega)
          clear hst2 hqn hRn hq0 hq2
          go_wp2_with fail
          go_loop [18, 16] (fun qv rv => ∃ q r : Int, qv = .int .u64 q ∧ rv = .int .u64 r ∧ 0 ≤ q ∧ 0 ≤ r ∧ Digit 4294967296 A.toNat B.toNat R.toNat u0.toNat q.toNat r.toNat) (fun qv _ => (intOf qv).toNat)
          case atStart => exact ⟨_, _, rfl, rfl, hq20, by omega, HST2.out⟩
          case round =>
            obtain ⟨q', r', rfl, rfl, hq0, hr0, hd⟩ := hrel
            have hdl := hd.le
            have hdt := hd.lt
            have hdg := hd.ge
            have T := test_of A B R u0 q' r' (by omega) hB0 (by omega) hq0 hr0 hd
            have hq2 : q' ≤ 4294967297 := by omega
            have hr2 : r' < 4294967296 := by omega
            have HD : Hid (Digit _ _ _ _ _ _ _) := hd
            have QL := Q2lt.out
            clear hd hdl hdt
            by_cases hg : (R.toNat * 4294967296 + u0.toNat) / (A.toNat * 4294967296 + B.toNat) < q'.toNat
            · have hq1 : 0 < q' := by have := Nat.lt_of_le_of_lt (Nat.zero_le _) hg; omega
              have ht := T.1 hg
              have HG : Hid (_ < _) := hg
              clear T hg hdg
              by_cases hbig : 4294967296 ≤ q'
              · clear ht
                by_cases hbr : 4294967296 ≤ r' + A
                · have HB := HD.out.broke (by omega) (by omega) (by omega) HG.out (by omega)
                  have hqn : (q' - 1).toNat = _ := (show (q' - 1).toNat = q'.toNat - 1 by omega).trans HB
                  have hq3 : q' - 1 < 4294967296 := by rw [← hqn] at QL; omega
                  clear HB QL
                  rw [← HYN.out] at hqn
                  obtain ⟨R2, eR2, hR20, hR21, hR2n⟩ := rest_of R u0 (q' - 1) Y hR0 hu00 (by omega) (by omega) hY1 hqn
                  have HC : Hid (_ ∧ _) := div_close s y.toNat (wid hi lo) U L Y u1 u0 (q - 1) R (q' - 1) R2 (by omega) hR0 (by omega) hR20 HDF.out HU1.out HQ1.out HRn.out hqn hR2n
                  clear hqn hR2n
                  go_wp2
                  go_ret2
                  exact ⟨ret_eq (tup2i (HC.out.1.trans HQt.out.symm) (HC.out.2.trans HRt.out.symm)), Below.refl _ _⟩
                · clear QL
                  go_wp2_with fail
                  go_round
                  case rel => exact ⟨_, _, rfl, rfl, by omega, by omega, by rw [show (q' - 1).toNat = q'.toNat - 1 by omega, show (r' + A).toNat = r'.toNat + A.toNat by omega]; exact HD.out.step HG.out (by omega)⟩
                  case measure => show (q' - 1).toNat < q'.toNat; omega
              · have hqB := prod_lt32 q' B hq0 (by omega) hB0 hB1
                have hqB0 : 0 ≤ q' * B := Int.mul_nonneg hq0 hB0
                by_cases hbr : 4294967296 ≤ r' + A
                · have HB := HD.out.broke (by omega) (by omega) (by omega) HG.out (by omega)
                  have hqn : (q' - 1).toNat = _ := (show (q' - 1).toNat = q'.toNat - 1 by omega).trans HB
                  have hq3 : q' - 1 < 4294967296 := by omega
                  clear HB QL
                  rw [← HYN.out] at hqn
                  obtain ⟨R2, eR2, hR20, hR21, hR2n⟩ := rest_of R u0 (q' - 1) Y hR0 hu00 (by omega) (by omega) hY1 hqn
                  have HC : Hid (_ ∧ _) := div_close s y.toNat (wid hi lo) U L Y u1 u0 (q - 1) R (q' - 1) R2 (by omega) hR0 (by omega) hR20 HDF.out HU1.out HQ1.out HRn.out hqn hR2n
                  clear hqn hR2n
                  go_wp2
                  go_ret2
                  exact ⟨ret_eq (tup2i (HC.out.1.trans HQt.out.symm) (HC.out.2.trans HRt.out.symm)), Below.refl _ _⟩
                · clear QL
                  go_wp2_with fail
                  go_round
                  case rel => exact ⟨_, _, rfl, rfl, by omega, by omega, by rw [show (q' - 1).toNat = q'.toNat - 1 by omega, show (r' + A).toNat = r'.toNat + A.toNat by omega]; exact HD.out.step HG.out (by omega)⟩
                  case measure => show (q' - 1).toNat < q'.toNat; omega
            · have hqn : q'.toNat = _ := Nat.le_antisymm (Nat.le_of_not_lt hg) hdg
              have hq3 : q' < 4294967296 := by rw [← hqn] at QL; omega
              have ht : ¬ 4294967296 * r' + u0 < q' * B := fun h => hg (T.2 h)
              have hqB := prod_lt32 q' B hq0 (by omega) hB0 hB1
              have hqB0 : 0 ≤ q' * B := Int.mul_nonneg hq0 hB0
              clear T hg hdg QL
              rw [← HYN.out] at hqn
              obtain ⟨R2, eR2, hR20, hR21, hR2n⟩ := rest_of R u0 q' Y hR0 hu00 (by omega) (by omega) hY1 hqn
              have HC : Hid (_ ∧ _) := div_close s y.toNat (wid hi lo) U L Y u1 u0 (q - 1) R q' R2 (by omega) hR0 (by omega) hR20 HDF.out HU1.out HQ1.out HRn.out hqn hR2n
              clear hqn hR2n
              go_wp2
              go_ret2
              exact ⟨ret_eq (tup2i (HC.out.1.trans HQt.out.symm) (HC.out.2.trans HRt.out.symm)), Below.refl _ _⟩
        · clear QL
          go_wp2_with fail
          go_round
          case rel => exact ⟨_, _, rfl, rfl, by omega, by omega, by rw [show (q - 1).toNat = q.toNat - 1 by omega, show (r + A).toNat = r.toNat + A.toNat by omega]; exact HD.out.step HG.out (by omega)⟩
          case measure => show (q - 1).toNat < q.toNat; omega
    · have hqn : q.toNat = _ := Nat.le_antisymm (Nat.le_of_not_lt hg) hdg
      have hq3 : q < 4294967296 := by rw [← hqn] at QL; omega
      have ht : ¬ 4294967296 * r + u1 < q * B := fun h => hg (T.2 h)
      have hqB := prod_lt32 q B hq0 (by omega) hB0 hB1
      have hqB0 : 0 ≤ q * B := Int.mul_nonneg hq0 hB0
      clear T hg hdg QL
      have hqz : 0 ≤ q := by omega
      rw [← HYN.out] at hqn
      obtain ⟨R, eR, hR0, hR1, hRn⟩ := rest_of U u1 q Y hU0 hu10 hqz (by omega) hY1 hqn
      have HQ1 : Hid (_ = _) := hqn
      have HRn : Hid (_ = _) := hRn
      have hRY : R < A * 4294967296 + B := by have := HYN.out; omega
      obtain ⟨q2, eq2, hq20, hq2A0, hq2A, hst2⟩ := start_of R A B u0 hA0 hA1 hB0 hB1 hR0 hRY hu00 hu01
      have HST2 : Hid (Digit _ _ _ _ _ _ _) := hst2
      have Q2lt : Hid ((R.toNat * 4294967296 + u0.toNat) / (A.toNat * 4294967296 + B.toNat) < 4294967296) := digit_lt (by omega) (by omega) (by omega) (by omega)
      clear hst2 hqn hRn hq0 hq2
      go_wp2_with fail
      go_loop [18, 16] (fun qv rv => ∃ q r : Int, qv = .int .u64 q ∧ rv = .int .u64 r ∧ 0 ≤ q ∧ 0 ≤ r ∧ Digit 4294967296 A.toNat B.toNat R.toNat u0.toNat q.toNat r.toNat) (fun qv _ => (intOf qv).toNat)
      case atStart => exact ⟨_, _, rfl, rfl, hq20, by omega, HST2.out⟩
      case round =>
        obtain ⟨q', r', rfl, rfl, hq0, hr0, hd⟩ := hrel
        have hdl := hd.le
        have hdt := hd.lt
        have hdg := hd.ge
        have T := test_of A B R u0 q' r' (by omega) hB0 (by omega) hq0 hr0 hd
        have hq2 : q' ≤ 4294967297 := by omega
        have hr2 : r' < 4294967296 := by omega
        have HD : Hid (Digit _ _ _ _ _ _ _) := hd
        have QL := Q2lt.out
        clear hd hdl hdt
        by_cases hg : (R.toNat * 4294967296 + u0.toNat) / (A.toNat * 4294967296 + B.toNat) < q'.toNat
        · have hq1 : 0 < q' := by have := Nat.lt_of_le_of_lt (Nat.zero_le _) hg; omega
          have ht := T.1 hg
          have HG : Hid (_ < _) := hg
          clear T hg hdg
          by_cases hbig : 4294967296 ≤ q'
          · clear ht
            by_cases hbr : 4294967296 ≤ r' + A
            · have HB := HD.out.broke (by omega) (by omega) (by omega) HG.out (by omega)
              have hqn : (q' - 1).toNat = _ := (show (q' - 1).toNat = q'.toNat - 1 by omega).trans HB
              have hq3 : q' - 1 < 4294967296 := by rw [← hqn] at QL; omega
              clear HB QL
              rw [← HYN.out] at hqn
              obtain ⟨R2, eR2, hR20, hR21, hR2n⟩ := rest_of R u0 (q' - 1) Y hR0 hu00 (by omega) (by omega) hY1 hqn
              have HC : Hid (_ ∧ _) := div_close s y.toNat (wid hi lo) U L Y u1 u0 q R (q' - 1) R2 (by omega) hR0 (by omega) hR20 HDF.out HU1.out HQ1.out HRn.out hqn hR2n
              clear hqn hR2n
              go_wp2
              go_ret2
              exact ⟨ret_eq (tup2i (HC.out.1.trans HQt.out.symm) (HC.out.2.trans HRt.out.symm)), Below.refl _ _⟩
            · clear QL
              go_wp2_with fail
              go_round
              case rel => exact ⟨_, _, rfl, rfl, by omega, by omega, by rw [show (q' - 1).toNat = q'.toNat - 1 by omega, show (r' + A).toNat = r'.toNat + A.toNat by omega]; exact HD.out.step HG.out (by omega)⟩
              case measure => show (q' - 1).toNat < q'.toNat; omega
          · have hqB := prod_lt32 q' B hq0 (by omega) hB0 hB1
            have hqB0 : 0 ≤ q' * B := Int.mul_nonneg hq0 hB0
            by_cases hbr : 4294967296 ≤ r' + A
            · have HB := HD.out.broke (by omega) (by omega) (by omega) HG.out (by omega)
              have hqn : (q' - 1).toNat = _ := (show (q' - 1).toNat = q'.toNat - 1 by omega).trans HB
              have hq3 : q' - 1 < 4294967296 := by omega
              clear HB QL
              rw [← HYN.out] at hqn
              obtain ⟨R2, eR2, hR20, hR21, hR2n⟩ := rest_of R u0 (q' - 1) Y hR0 hu00 (by omega) (by omega) hY1 hqn
              have HC : Hid (_ ∧ _) := div_close s y.toNat (wid hi lo) U L Y u1 u0 q R (q' - 1) R2 (by omega) hR0 (by omega) hR20 HDF.out HU1.out HQ1.out HRn.out hqn hR2n
              clear hqn hR2n
              go_wp2
              go_ret2
              exact ⟨ret_eq (tup2i (HC.out.1.trans HQt.out.symm) (HC.out.2.trans HRt.out.symm)), Below.refl _ _⟩
            · clear QL
              go_wp2_with fail
              go_round
              case rel => exact ⟨_, _, rfl, rfl, by omega, by omega, by rw [show (q' - 1).toNat = q'.toNat - 1 by omega, show (r' + A).toNat = r'.toNat + A.toNat by omega]; exact HD.out.step HG.out (by omega)⟩
              case measure => show (q' - 1).toNat < q'.toNat; omega
        · have hqn : q'.toNat = _ := Nat.le_antisymm (Nat.le_of_not_lt hg) hdg
          have hq3 : q' < 4294967296 := by rw [← hqn] at QL; omega
          have ht : ¬ 4294967296 * r' + u0 < q' * B := fun h => hg (T.2 h)
          have hqB := prod_lt32 q' B hq0 (by omega) hB0 hB1
          have hqB0 : 0 ≤ q' * B := Int.mul_nonneg hq0 hB0
          clear T hg hdg QL
          rw [← HYN.out] at hqn
          obtain ⟨R2, eR2, hR20, hR21, hR2n⟩ := rest_of R u0 q' Y hR0 hu00 (by omega) (by omega) hY1 hqn
          have HC : Hid (_ ∧ _) := div_close s y.toNat (wid hi lo) U L Y u1 u0 q R q' R2 (by omega) hR0 (by omega) hR20 HDF.out HU1.out HQ1.out HRn.out hqn hR2n
          clear hqn hR2n
          go_wp2
          go_ret2
          exact ⟨ret_eq (tup2i (HC.out.1.trans HQt.out.symm) (HC.out.2.trans HRt.out.symm)), Below.refl _ _⟩
end Go.Proofs.Ytbflkcpcbnkpbaa
