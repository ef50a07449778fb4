/-
  What soft's Div returns: divS, at all patterns.
-/
import Derived.Test.YtbflkcpcbnkpbaaSoftE
namespace Go.Proofs.Ytbflkcpcbnkpbaa
open Go.RowKit
set_option linter.unusedVariables false

theorem shl_fit (m k : Nat) (h : m * 2 ^ k < 18014398509481984) : IntKind.u64.wrap ((m : Int) * 2 ^ k) = ((m * 2 ^ k : Nat) : Int) := by
  rw [IntKind.wrap_u64, show ((m : Int) * 2 ^ k) = ((m * 2 ^ k : Nat) : Int) by push_cast; rfl]
  omega
theorem grow (m n : Nat) (hm : 0 < m) (hn : (bl m).length ≤ n) : 2 ^ (n - 1) ≤ m * 2 ^ (n - (bl m).length) ∧ m * 2 ^ (n - (bl m).length) < 2 ^ n := by
  have h1 := (bl_length_le m (bl m).length).1 (Nat.le_refl _)
  have h0 : 0 < (bl m).length := (bl_length_lt m 0).2 (by rw [Nat.pow_zero]; exact hm)
  have h2 := (bl_length_lt m ((bl m).length - 1)).1 (by omega)
  refine ⟨?_, ?_⟩
  · have := Nat.mul_le_mul_right (2 ^ (n - (bl m).length)) h2
    rwa [← Nat.pow_add, show (bl m).length - 1 + (n - (bl m).length) = n - 1 by omega] at this
  · have := Nat.mul_lt_mul_of_pos_right h1 (Nat.two_pow_pos (n - (bl m).length))
    rwa [← Nat.pow_add, show (bl m).length + (n - (bl m).length) = n by omega] at this
theorem pLonger (b : Int) (n : Nat) (w : World) (h0 : 0 ≤ b) (h1 : b < 18446744073709551616) (hf : mag b < 9218868437227405312) (hz : mag b ≠ 0) (hn0 : 53 ≤ n) (hn1 : n ≤ 54) :
    Calls Try.prog 84 #[.int .u64 b, .int .i64 (n : Int)] w fun e w' => ∃ k M : Nat, k ≤ 53 ∧ e = .returned (.tuple #[.int .u64 (M : Int), .int .i64 (wPow b - k)]) ∧ (wMant b).toNat * 2 ^ k = M ∧ 2 ^ (n - 1) ≤ M ∧ M < 2 ^ n ∧ Below w.heap.size w w' := by
  obtain ⟨p1, p2, p3, p4⟩ := parts_bd b
  obtain ⟨m, hm⟩ : ∃ m : Nat, (wMant b).toNat = m := ⟨_, rfl⟩
  have hm2 : wMant b = (m : Int) := by omega
  have hmb : m < 9007199254740992 := by omega
  have hm0 : 0 < m := by
    rcases Nat.eq_zero_or_pos m with h | h
    · exact absurd ((mant_zero b hf).1 (by omega)) hz
    · exact h
  rw [hm]
  have hlen : (bl m).length ≤ 53 := (bl_length_le m 53).2 (by omega)
  obtain ⟨gr1, gr2⟩ := grow m n hm0 (by omega)
  have hlen0 : 0 < (bl m).length := (bl_length_lt m 0).2 (by rw [Nat.pow_zero]; exact hm0)
  have hfit : m * 2 ^ (n - (bl m).length) < 18014398509481984 := Nat.lt_of_lt_of_le gr2 (Nat.le_trans (Nat.pow_le_pow_right (by decide) hn1) (by decide))
  obtain ⟨L, hL⟩ : ∃ L, (bl m).length = L := ⟨_, rfl⟩
  rw [hL] at gr1 gr2 hfit hlen hlen0
  have sf := shl_fit m (n - L) hfit
  have HL : Hid (_ = _) := hL
  have G : Hid (_ ∧ _) := ⟨gr1, gr2⟩
  have hW : Hid (wid 0 (m : Int) = m) := by show _ = _; unfold wid; omega
  have HM : Hid (_ = _) := hm2
  have hk : ((n : Int) - (L : Int)).toNat = n - L := by omega
  clear gr1 gr2 hL hm hm2 hfit hf hz
  go_enter Try.func84, Try.ntmps84
  go_wp2_with fail
  refine (parts_any _ _ h0 h1).mono ?_
  rintro e w1 ⟨rfl, rfl⟩
  rw [HM.out]
  go_wp2_with fail
  refine (wLen _ _ _ (by omega) (by omega) (by omega) (by omega)).mono ?_
  rintro e w2 ⟨rfl, hb2⟩
  rw [hW.out, HL.out]
  go_wp2
  go_ret2
  refine ⟨n - L, m * 2 ^ (n - L), by omega, ret_eq (tup2 (int_eq ?_) (int_eq ?_)), rfl, G.out.1, G.out.2, hb2⟩
  · first | rfl | exact sf
  · omega
theorem pDivN (neg : Bool) (a b : Int) (w : World) (h0 : 0 ≤ a) (h1 : a < 18446744073709551616) (g0 : 0 ≤ b) (g1 : b < 18446744073709551616) (ha : mag a < 9218868437227405312) (hb : mag b < 9218868437227405312) (za : mag a ≠ 0) (zb : mag b ≠ 0) :
    Calls Try.prog 75 #[.bool neg, .int .u64 a, .int .u64 b] w fun e w' => e = .returned (.tuple #[.int .u64 (sgnB neg + ((quoN (V (mag a)) (V (mag b)) : Nat) : Int)), .int .u8 ((quoF (V (mag a)) (V (mag b)) : Nat) : Int)]) ∧ Below w.heap.size w w' := by
  obtain ⟨p1, p2, p3, p4⟩ := parts_bd a
  obtain ⟨q1, q2, q3, q4⟩ := parts_bd b
  have Va := parts_V a ha
  have Vb := parts_V b hb
  have ma0 : 0 < (wMant a).toNat := by
    rcases Nat.eq_zero_or_pos (wMant a).toNat with h | h
    · exact absurd ((mant_zero a ha).1 (by omega)) za
    · exact h
  have mb0 : 0 < (wMant b).toNat := by
    rcases Nat.eq_zero_or_pos (wMant b).toNat with h | h
    · exact absurd ((mant_zero b hb).1 (by omega)) zb
    · exact h
  rw [Va, Vb]
  have M0 : Hid (_ ∧ _) := ⟨ma0, mb0⟩
  clear Va Vb ma0 mb0
  go_enter Try.func75, Try.ntmps75
  go_wp2_with fail
  refine (pLonger a 53 _ h0 h1 ha za (by omega) (by omega)).mono ?_
  rintro e w1 ⟨k, A, hk, rfl, hA, r1, r2, hb1⟩
  have HA : Hid (_ = _) := hA
  clear hA
  go_wp2_with fail
  refine (pLonger b 54 _ g0 g1 hb zb (by omega) (by omega)).mono ?_
  rintro e w2 ⟨j, B, hj, rfl, hB, t1, t2, hb2⟩
  have hA := HA.out
  rw [show 2 ^ (53 - 1) = 4503599627370496 by decide] at r1
  rw [show 2 ^ 53 = 9007199254740992 by decide] at r2
  rw [show 2 ^ (54 - 1) = 9007199254740992 by decide] at t1
  rw [show 2 ^ 54 = 18014398509481984 by decide] at t2
  have hbw := bstep hb1 hb2
  clear hb1 hb2
  have hX : wid (A : Int) 0 = (wMant a).toNat * 2 ^ (k + 64) := by rw [wid_hi _ (by omega), Int.toNat_natCast, ← hA, Nat.mul_assoc, ← Nat.pow_add]
  have hq1 : A * 2 ^ 64 / B < 18446744073709551616 := by
    rw [Nat.div_lt_iff_lt_mul (by omega)]
    have : A * 2 ^ 64 < B * 2 ^ 64 := Nat.mul_lt_mul_of_pos_right (by omega) (by decide)
    rw [show (18446744073709551616 : Nat) = 2 ^ 64 by decide, Nat.mul_comm (2 ^ 64)]
    exact this
  have hq2 : 18014398509481984 ≤ A * 2 ^ 64 / B := by
    rw [Nat.le_div_iff_mul_le (by omega)]
    have x1 : 4503599627370496 * 2 ^ 64 ≤ A * 2 ^ 64 := Nat.mul_le_mul_right _ r1
    have x2 : 18014398509481984 * B ≤ 18014398509481984 * 18014398509481984 := Nat.mul_le_mul_left _ (by omega)
    have x3 : 18014398509481984 * 18014398509481984 ≤ 4503599627370496 * 2 ^ 64 := by decide
    exact Nat.le_trans x2 (Nat.le_trans x3 x1)
  have ql := quo_lay (wMant a).toNat (wMant b).toNat (wPow a + 1074).toNat (wPow b + 1074).toNat (k + 64) j (wPow a - k - (wPow b - j) - 64) M0.out.1 M0.out.2 (by rw [Nat.pow_add, ← Nat.mul_assoc, hA, hB]; exact hq2) (by push_cast; omega) (by omega) (by omega) (by omega)
  rw [Nat.pow_add, ← Nat.mul_assoc, hA, hB] at ql
  obtain ⟨q, hq⟩ : ∃ q : Nat, A * 2 ^ 64 / B = q := ⟨_, rfl⟩
  obtain ⟨r, hr⟩ : ∃ r : Nat, A * 2 ^ 64 % B = r := ⟨_, rfl⟩
  have hrB : r < B := by rw [← hr]; exact Nat.mod_lt _ (by omega)
  rw [hq] at hq1 hq2 ql
  rw [hr] at ql
  have hW : wid (A : Int) 0 = A * 2 ^ 64 := by rw [wid_hi _ (by omega), Int.toNat_natCast]
  have HQ : Hid ((q : Int) = ((wid (A : Int) 0 / (B : Int).toNat : Nat) : Int)) := by show _ = _; rw [hW, Int.toNat_natCast, hq]
  have HR : Hid ((r : Int) = ((wid (A : Int) 0 % (B : Int).toNat : Nat) : Int)) := by show _ = _; rw [hW, Int.toNat_natCast, hr]
  have RES : Hid (numR (wid 0 (q : Int)) (clampE (wPow a - k - (wPow b - j) - 64)) (decide (r ≠ 0)) = quoN ((wMant a).toNat * 2 ^ (wPow a + 1074).toNat) ((wMant b).toNat * 2 ^ (wPow b + 1074).toNat) ∧ flagR (wid 0 (q : Int)) (clampE (wPow a - k - (wPow b - j) - 64)) (decide (r ≠ 0)) = quoF ((wMant a).toNat * 2 ^ (wPow a + 1074).toNat) ((wMant b).toNat * 2 ^ (wPow b + 1074).toNat)) := by
    show _ ∧ _
    have hw : wid 0 (q : Int) = q := by unfold wid; omega
    have hlen : 54 < (bl q).length := (bl_length_lt q 54).2 hq2
    have hL : wPow a - k - (wPow b - j) - 64 < lastP q (wPow a - k - (wPow b - j) - 64) := by unfold lastP; omega
    rw [hw, clampE_in _ (by omega) (by omega), (numR_more _ _ _ (by omega) hL).1, (numR_more _ _ _ (by omega) hL).2]
    exact ql
  clear ql hX hA HA hB hq hr hW M0
  have hAB : (A : Int) < (B : Int) := by omega
  go_wp2_with fail
  refine (wDiv (A : Int) 0 (B : Int) (q : Int) (r : Int) _ (by omega) (by omega) (by omega) (by omega) hAB HQ.out HR.out).mono ?_
  rintro e w3 ⟨rfl, hb3⟩
  clear HQ HR
  have hby := bstep hbw hb3
  have hrr : ((r : Int) != 0) = decide (r ≠ 0) := by
    rw [Bool.eq_iff_iff, bne_iff_ne, decide_eq_true_eq]; omega
  have HRR : Hid (_ = _) := hrr
  clear hrr hb3
  by_cases hr0 : r = 0
  all_goals
    have hd : Hid (decide (r ≠ 0) = decide (r ≠ 0)) := rfl
    go_wp2_with fail
    refine (pRound _ _ _ _ _ _ (by omega) (by omega) (by omega) (by omega)).mono ?_
    rintro e w4 ⟨rfl, hb4⟩
    have hbz := bstep hby hb4
    have RR := RES.out
    go_wp2
    go_ret2
    refine ⟨?_, hbz⟩
    first | (rw [show decide (r ≠ 0) = false from decide_eq_false (fun x => x hr0)] at RR; rw [← RR.1, ← RR.2]; rfl) | (rw [show decide (r ≠ 0) = true from decide_eq_true hr0] at RR; rw [← RR.1, ← RR.2]; rfl) | (rw [← RR.1, ← RR.2, ← HRR.out]; rfl)
set_option maxHeartbeats 1000000 in
theorem pDiv (a b : Int) (w : World) (h0 : 0 ≤ a) (h1 : a < 18446744073709551616) (g0 : 0 ≤ b) (g1 : b < 18446744073709551616) :
    Calls Try.prog 42 #[.int .u64 a, .int .u64 b] w fun e w' => e = .returned (.tuple #[.int .u64 (divS a b).1, .int .u8 (divS a b).2]) ∧ Below w.heap.size w w' := by
  obtain ⟨na, hna⟩ : ∃ x, isNan a = x := ⟨_, rfl⟩
  obtain ⟨nb, hnb⟩ : ∃ x, isNan b = x := ⟨_, rfl⟩
  obtain ⟨ia, hia⟩ : ∃ x, isInf a = x := ⟨_, rfl⟩
  obtain ⟨ib, hib⟩ : ∃ x, isInf b = x := ⟨_, rfl⟩
  obtain ⟨za, hza⟩ : ∃ x, isZ a = x := ⟨_, rfl⟩
  obtain ⟨zb, hzb⟩ : ∃ x, isZ b = x := ⟨_, rfl⟩
  have NA : Hid (_ = _) := hna
  have NB : Hid (_ = _) := hnb
  have IA : Hid (_ = _) := hia
  have IB : Hid (_ = _) := hib
  have ZA : Hid (_ = _) := hza
  have ZB : Hid (_ = _) := hzb
  have SA : Hid (decide (9223372036854775808 ≤ a) = sgn a) := rfl
  have SB : Hid (decide (9223372036854775808 ≤ b) = sgn b) := rfl
  have NN : Hid ((isNan a || isNan b) = (na || nb)) := by show _ = _; rw [hna, hnb]
  obtain ⟨S, hS⟩ : ∃ S, divS a b = S := ⟨_, rfl⟩
  rw [hS]
  unfold divS at hS
  rw [hna, hnb, hia, hib, hza, hzb] at hS
  have SP : Hid (_ = S) := hS
  clear hS
  clear hna hnb hia hib hza hzb
  by_cases hn : (na || nb) = true
  · have SP2 : Hid (S = (9221120237041090560, nanF a b)) := by show _ = _; rw [← SP.out, if_pos hn]
    rw [hn] at NN
    clear SP
    go_enter Try.func42, Try.ntmps42
    go_wp2_with fail
    refine (pNo _ _ _ _ h0 h1 g0 g1 (by simp [go_sem]) (by simp [go_sem])).mono ?_
    rintro e w1 ⟨rfl, rfl⟩
    rw [NN.out]
    go_wp2
    go_ret2
    refine ⟨?_, bmore (Below.refl _ _) _⟩
    rw [SP2.out]
    all_goals rfl
  · have hn2 : na = false ∧ nb = false := by revert hn; cases na <;> cases nb <;> simp
    obtain ⟨rfl, rfl⟩ := hn2
    rw [show (false || false) = false from rfl] at NN
    have FA : Hid (_ = _) := fin_inf a NA.out
    have FB : Hid (_ = _) := fin_inf b NB.out
    rw [IA.out] at FA
    rw [IB.out] at FB
    clear hn
    cases ia
    · cases ib
      · cases za
        · cases zb
          · have ma := mag_fin a NA.out IA.out
            have mb := mag_fin b NB.out IB.out
            have za : mag a ≠ 0 := by have := ZA.out; unfold isZ at this; rw [decide_eq_false_iff_not] at this; exact this
            have zb : mag b ≠ 0 := by have := ZB.out; unfold isZ at this; rw [decide_eq_false_iff_not] at this; exact this
            have SP2 : Hid (S = (sgnB (sgn a != sgn b) + ((quoN (V (mag a)) (V (mag b)) : Nat) : Int), ((quoF (V (mag a)) (V (mag b)) : Nat) : Int))) := by
              show _ = _; rw [← SP.out, if_neg (by simp), if_neg (by simp), if_neg (by simp), if_neg (by simp), if_neg (by simp)]
            clear SP
            go_enter Try.func42, Try.ntmps42
            go_wp2_with fail
            refine (pNo _ _ _ _ h0 h1 g0 g1 (by simp [go_sem]) (by simp [go_sem])).mono ?_
            rintro e w1 ⟨rfl, rfl⟩
            rw [NN.out]
            go_wp2_with (first | (go_at_call_of 20 a; refine (neg_any _ _ h0 h1).mono ?_; rintro e w' ⟨rfl, rfl⟩; rw [SA.out]) | (go_at_call_of 20 b; refine (neg_any _ _ g0 g1).mono ?_; rintro e w' ⟨rfl, rfl⟩; rw [SB.out]) | (go_at_call_of 24 a; refine (finite_any _ _ h0 h1).mono ?_; rintro e w' ⟨rfl, rfl⟩; rw [FA.out]) | (go_at_call_of 24 b; refine (finite_any _ _ g0 g1).mono ?_; rintro e w' ⟨rfl, rfl⟩; rw [FB.out]) | (go_at_call_of 63 a; refine (pIsZ _ _ h0 h1).mono ?_; rintro e w' ⟨rfl, rfl⟩; rw [ZA.out]) | (go_at_call_of 63 b; refine (pIsZ _ _ g0 g1).mono ?_; rintro e w' ⟨rfl, rfl⟩; rw [ZB.out]) | (go_at_call 71; refine (pInf _ _).mono ?_; rintro e w' ⟨rfl, rfl⟩) | (go_at_call 51; refine (make_any _ _ _ _ (by omega) (by omega)).mono ?_; rintro e w' ⟨rfl, rfl⟩) | fail)
            refine (pDivN _ a b _ h0 h1 g0 g1 ma mb za zb).mono ?_
            rintro e w' ⟨rfl, hb'⟩
            go_wp2
            go_ret2
            refine ⟨?_, (bmore (Below.refl _ _) _).trans (hb'.mono (by simp))⟩
            rw [SP2.out]
            all_goals rfl
          · skip
            have SP2 : Hid (S = (sgnB (sgn a != sgn b) + 9218868437227405312, 8)) := by show _ = _; rw [← SP.out]; rfl
            clear SP
            go_enter Try.func42, Try.ntmps42
            go_wp2_with fail
            refine (pNo _ _ _ _ h0 h1 g0 g1 (by simp [go_sem]) (by simp [go_sem])).mono ?_
            rintro e w1 ⟨rfl, rfl⟩
            rw [NN.out]
            go_wp2_with (first | (go_at_call_of 20 a; refine (neg_any _ _ h0 h1).mono ?_; rintro e w' ⟨rfl, rfl⟩; rw [SA.out]) | (go_at_call_of 20 b; refine (neg_any _ _ g0 g1).mono ?_; rintro e w' ⟨rfl, rfl⟩; rw [SB.out]) | (go_at_call_of 24 a; refine (finite_any _ _ h0 h1).mono ?_; rintro e w' ⟨rfl, rfl⟩; rw [FA.out]) | (go_at_call_of 24 b; refine (finite_any _ _ g0 g1).mono ?_; rintro e w' ⟨rfl, rfl⟩; rw [FB.out]) | (go_at_call_of 63 a; refine (pIsZ _ _ h0 h1).mono ?_; rintro e w' ⟨rfl, rfl⟩; rw [ZA.out]) | (go_at_call_of 63 b; refine (pIsZ _ _ g0 g1).mono ?_; rintro e w' ⟨rfl, rfl⟩; rw [ZB.out]) | (go_at_call 71; refine (pInf _ _).mono ?_; rintro e w' ⟨rfl, rfl⟩) | (go_at_call 51; refine (make_any _ _ _ _ (by omega) (by omega)).mono ?_; rintro e w' ⟨rfl, rfl⟩))
            go_ret2
            refine ⟨?_, bmore (Below.refl _ _) _⟩
            rw [SP2.out]
            all_goals rfl
        · cases zb
          · skip
            have SP2 : Hid (S = (sgnB (sgn a != sgn b), 0)) := by show _ = _; rw [← SP.out]; rfl
            clear SP
            go_enter Try.func42, Try.ntmps42
            go_wp2_with fail
            refine (pNo _ _ _ _ h0 h1 g0 g1 (by simp [go_sem]) (by simp [go_sem])).mono ?_
            rintro e w1 ⟨rfl, rfl⟩
            rw [NN.out]
            go_wp2_with (first | (go_at_call_of 20 a; refine (neg_any _ _ h0 h1).mono ?_; rintro e w' ⟨rfl, rfl⟩; rw [SA.out]) | (go_at_call_of 20 b; refine (neg_any _ _ g0 g1).mono ?_; rintro e w' ⟨rfl, rfl⟩; rw [SB.out]) | (go_at_call_of 24 a; refine (finite_any _ _ h0 h1).mono ?_; rintro e w' ⟨rfl, rfl⟩; rw [FA.out]) | (go_at_call_of 24 b; refine (finite_any _ _ g0 g1).mono ?_; rintro e w' ⟨rfl, rfl⟩; rw [FB.out]) | (go_at_call_of 63 a; refine (pIsZ _ _ h0 h1).mono ?_; rintro e w' ⟨rfl, rfl⟩; rw [ZA.out]) | (go_at_call_of 63 b; refine (pIsZ _ _ g0 g1).mono ?_; rintro e w' ⟨rfl, rfl⟩; rw [ZB.out]) | (go_at_call 71; refine (pInf _ _).mono ?_; rintro e w' ⟨rfl, rfl⟩) | (go_at_call 51; refine (make_any _ _ _ _ (by omega) (by omega)).mono ?_; rintro e w' ⟨rfl, rfl⟩))
            go_ret2
            refine ⟨?_, bmore (Below.refl _ _) _⟩
            rw [SP2.out]
            refine ret_eq (tup2 (int_eq ?_) rfl)
            show _ = sgnB (sgn a != sgn b)
            rw [make_sig, show (!sgn a == sgn b) = (sgn a != sgn b) from rfl]
            omega
          · skip
            have SP2 : Hid (S = (9221120237041090560, 16)) := by show _ = _; rw [← SP.out]; rfl
            clear SP
            go_enter Try.func42, Try.ntmps42
            go_wp2_with fail
            refine (pNo _ _ _ _ h0 h1 g0 g1 (by simp [go_sem]) (by simp [go_sem])).mono ?_
            rintro e w1 ⟨rfl, rfl⟩
            rw [NN.out]
            go_wp2_with (first | (go_at_call_of 20 a; refine (neg_any _ _ h0 h1).mono ?_; rintro e w' ⟨rfl, rfl⟩; rw [SA.out]) | (go_at_call_of 20 b; refine (neg_any _ _ g0 g1).mono ?_; rintro e w' ⟨rfl, rfl⟩; rw [SB.out]) | (go_at_call_of 24 a; refine (finite_any _ _ h0 h1).mono ?_; rintro e w' ⟨rfl, rfl⟩; rw [FA.out]) | (go_at_call_of 24 b; refine (finite_any _ _ g0 g1).mono ?_; rintro e w' ⟨rfl, rfl⟩; rw [FB.out]) | (go_at_call_of 63 a; refine (pIsZ _ _ h0 h1).mono ?_; rintro e w' ⟨rfl, rfl⟩; rw [ZA.out]) | (go_at_call_of 63 b; refine (pIsZ _ _ g0 g1).mono ?_; rintro e w' ⟨rfl, rfl⟩; rw [ZB.out]) | (go_at_call 71; refine (pInf _ _).mono ?_; rintro e w' ⟨rfl, rfl⟩) | (go_at_call 51; refine (make_any _ _ _ _ (by omega) (by omega)).mono ?_; rintro e w' ⟨rfl, rfl⟩))
            go_ret2
            refine ⟨?_, bmore (Below.refl _ _) _⟩
            rw [SP2.out]
            all_goals rfl
      · have hzb : zb = false := by rw [← ZB.out]; exact inf_not_z b IB.out
        subst hzb
        cases za
        all_goals
          have SP2 : Hid (S = (sgnB (sgn a != sgn b), 0)) := by show _ = _; rw [← SP.out]; rfl
          clear SP
          go_enter Try.func42, Try.ntmps42
          go_wp2_with fail
          refine (pNo _ _ _ _ h0 h1 g0 g1 (by simp [go_sem]) (by simp [go_sem])).mono ?_
          rintro e w1 ⟨rfl, rfl⟩
          rw [NN.out]
          go_wp2_with (first | (go_at_call_of 20 a; refine (neg_any _ _ h0 h1).mono ?_; rintro e w' ⟨rfl, rfl⟩; rw [SA.out]) | (go_at_call_of 20 b; refine (neg_any _ _ g0 g1).mono ?_; rintro e w' ⟨rfl, rfl⟩; rw [SB.out]) | (go_at_call_of 24 a; refine (finite_any _ _ h0 h1).mono ?_; rintro e w' ⟨rfl, rfl⟩; rw [FA.out]) | (go_at_call_of 24 b; refine (finite_any _ _ g0 g1).mono ?_; rintro e w' ⟨rfl, rfl⟩; rw [FB.out]) | (go_at_call_of 63 a; refine (pIsZ _ _ h0 h1).mono ?_; rintro e w' ⟨rfl, rfl⟩; rw [ZA.out]) | (go_at_call_of 63 b; refine (pIsZ _ _ g0 g1).mono ?_; rintro e w' ⟨rfl, rfl⟩; rw [ZB.out]) | (go_at_call 71; refine (pInf _ _).mono ?_; rintro e w' ⟨rfl, rfl⟩) | (go_at_call 51; refine (make_any _ _ _ _ (by omega) (by omega)).mono ?_; rintro e w' ⟨rfl, rfl⟩))
          go_ret2
          refine ⟨?_, bmore (Below.refl _ _) _⟩
          rw [SP2.out]
          refine ret_eq (tup2 (int_eq ?_) rfl)
          show _ = sgnB (sgn a != sgn b)
          rw [make_sig, show (!sgn a == sgn b) = (sgn a != sgn b) from rfl]
          omega
    · have hza : za = false := by rw [← ZA.out]; exact inf_not_z a IA.out
      subst hza
      cases ib
      · skip
        have SP2 : Hid (S = (sgnB (sgn a != sgn b) + 9218868437227405312, 0)) := by show _ = _; rw [← SP.out]; rfl
        clear SP
        go_enter Try.func42, Try.ntmps42
        go_wp2_with fail
        refine (pNo _ _ _ _ h0 h1 g0 g1 (by simp [go_sem]) (by simp [go_sem])).mono ?_
        rintro e w1 ⟨rfl, rfl⟩
        rw [NN.out]
        go_wp2_with (first | (go_at_call_of 20 a; refine (neg_any _ _ h0 h1).mono ?_; rintro e w' ⟨rfl, rfl⟩; rw [SA.out]) | (go_at_call_of 20 b; refine (neg_any _ _ g0 g1).mono ?_; rintro e w' ⟨rfl, rfl⟩; rw [SB.out]) | (go_at_call_of 24 a; refine (finite_any _ _ h0 h1).mono ?_; rintro e w' ⟨rfl, rfl⟩; rw [FA.out]) | (go_at_call_of 24 b; refine (finite_any _ _ g0 g1).mono ?_; rintro e w' ⟨rfl, rfl⟩; rw [FB.out]) | (go_at_call_of 63 a; refine (pIsZ _ _ h0 h1).mono ?_; rintro e w' ⟨rfl, rfl⟩; rw [ZA.out]) | (go_at_call_of 63 b; refine (pIsZ _ _ g0 g1).mono ?_; rintro e w' ⟨rfl, rfl⟩; rw [ZB.out]) | (go_at_call 71; refine (pInf _ _).mono ?_; rintro e w' ⟨rfl, rfl⟩) | (go_at_call 51; refine (make_any _ _ _ _ (by omega) (by omega)).mono ?_; rintro e w' ⟨rfl, rfl⟩))
        go_ret2
        refine ⟨?_, bmore (Below.refl _ _) _⟩
        rw [SP2.out]
        all_goals rfl
      · skip
        have SP2 : Hid (S = (9221120237041090560, 16)) := by show _ = _; rw [← SP.out]; rfl
        clear SP
        go_enter Try.func42, Try.ntmps42
        go_wp2_with fail
        refine (pNo _ _ _ _ h0 h1 g0 g1 (by simp [go_sem]) (by simp [go_sem])).mono ?_
        rintro e w1 ⟨rfl, rfl⟩
        rw [NN.out]
        go_wp2_with (first | (go_at_call_of 20 a; refine (neg_any _ _ h0 h1).mono ?_; rintro e w' ⟨rfl, rfl⟩; rw [SA.out]) | (go_at_call_of 20 b; refine (neg_any _ _ g0 g1).mono ?_; rintro e w' ⟨rfl, rfl⟩; rw [SB.out]) | (go_at_call_of 24 a; refine (finite_any _ _ h0 h1).mono ?_; rintro e w' ⟨rfl, rfl⟩; rw [FA.out]) | (go_at_call_of 24 b; refine (finite_any _ _ g0 g1).mono ?_; rintro e w' ⟨rfl, rfl⟩; rw [FB.out]) | (go_at_call_of 63 a; refine (pIsZ _ _ h0 h1).mono ?_; rintro e w' ⟨rfl, rfl⟩; rw [ZA.out]) | (go_at_call_of 63 b; refine (pIsZ _ _ g0 g1).mono ?_; rintro e w' ⟨rfl, rfl⟩; rw [ZB.out]) | (go_at_call 71; refine (pInf _ _).mono ?_; rintro e w' ⟨rfl, rfl⟩) | (go_at_call 51; refine (make_any _ _ _ _ (by omega) (by omega)).mono ?_; rintro e w' ⟨rfl, rfl⟩))
        go_ret2
        refine ⟨?_, bmore (Below.refl _ _) _⟩
        rw [SP2.out]
        all_goals rfl
end Go.Proofs.Ytbflkcpcbnkpbaa
