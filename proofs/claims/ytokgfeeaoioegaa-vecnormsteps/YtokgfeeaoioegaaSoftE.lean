/-
  What soft's Add, Sub, Mul and Div return: addS, mulS, divS, at all patterns.
-/
import Derived.Test.YtokgfeeaoioegaaSoftD
import Derived.Test.YtokgfeeaoioegaaDivD
namespace Go.Proofs.Ytokgfeeaoioegaa
open Go.RowKit
set_option linter.unusedVariables false

theorem fin_inf (b : Int) (h : isNan b = false) : decide (b / 4503599627370496 % 2048 < 2047) = !isInf b := by
  unfold isNan mag at h
  unfold isInf mag
  rw [decide_eq_false_iff_not] at h
  rw [Bool.eq_iff_iff]
  simp only [Bool.not_eq_true', decide_eq_true_eq, decide_eq_false_iff_not]
  omega
set_option maxHeartbeats 1000000 in
theorem pAdd (a b : Int) (w : World) (h0 : 0 ≤ a) (h1 : a < 18446744073709551616) (g0 : 0 ≤ b) (g1 : b < 18446744073709551616) :
    Calls Try.prog 81 #[.int .u64 a, .int .u64 b] w fun e w' => e = .returned (.tuple #[.int .u64 (addS a b).1, .int .u8 (addS a b).2]) ∧ Below w.heap.size w w' := by
  obtain ⟨na, hna⟩ : ∃ x, isNan a = x := ⟨_, rfl⟩
  obtain ⟨nb, hnb⟩ : ∃ x, isNan b = x := ⟨_, rfl⟩
  obtain ⟨ia, hia⟩ : ∃ x, isInf a = x := ⟨_, rfl⟩
  obtain ⟨ib, hib⟩ : ∃ x, isInf b = x := ⟨_, rfl⟩
  obtain ⟨za, hza⟩ : ∃ x, isZ a = x := ⟨_, rfl⟩
  obtain ⟨zb, hzb⟩ : ∃ x, isZ b = x := ⟨_, rfl⟩
  have NA : Hid (_ = _) := hna
  have NB : Hid (_ = _) := hnb
  have IA : Hid (_ = _) := hia
  have IB : Hid (_ = _) := hib
  have ZA : Hid (_ = _) := hza
  have ZB : Hid (_ = _) := hzb
  have SA : Hid (decide (9223372036854775808 ≤ a) = sgn a) := rfl
  have SB : Hid (decide (9223372036854775808 ≤ b) = sgn b) := rfl
  have NN : Hid ((isNan a || isNan b) = (na || nb)) := by show _ = _; rw [hna, hnb]
  obtain ⟨S, hS⟩ : ∃ S, addS a b = S := ⟨_, rfl⟩
  rw [hS]
  unfold addS at hS
  rw [hna, hnb, hia, hib, hza, hzb] at hS
  have SP : Hid (_ = S) := hS
  clear hS
  clear hna hnb hia hib hza hzb
  by_cases hn : (na || nb) = true
  · have SP2 : Hid (S = (9221120237041090560, nanF a b)) := by show _ = _; rw [← SP.out, if_pos hn]
    rw [hn] at NN
    clear SP
    go_enter Try.func81, Try.ntmps81
    go_wp2_with fail
    refine (pNo _ _ _ _ h0 h1 g0 g1 (by simp [go_sem]) (by simp [go_sem])).mono ?_
    rintro e w1 ⟨rfl, rfl⟩
    rw [NN.out]
    go_wp2
    go_ret2
    refine ⟨?_, bmore (Below.refl _ _) _⟩
    rw [SP2.out]
    all_goals rfl
  · have hn2 : na = false ∧ nb = false := by revert hn; cases na <;> cases nb <;> simp
    obtain ⟨rfl, rfl⟩ := hn2
    rw [show (false || false) = false from rfl] at NN
    have FA : Hid (_ = _) := fin_inf a NA.out
    have FB : Hid (_ = _) := fin_inf b NB.out
    rw [IA.out] at FA
    rw [IB.out] at FB
    clear hn
    cases ia
    · cases ib
      · have ma := mag_fin a NA.out IA.out
        have mb := mag_fin b NB.out IB.out
        by_cases hz : (za && zb) = true
        · have hz2 : za = true ∧ zb = true := by revert hz; cases za <;> cases zb <;> simp
          obtain ⟨rfl, rfl⟩ := hz2
          have SP2 : Hid (S = (sgnB (sgn a && sgn b), 0)) := by show _ = _; rw [← SP.out]; rfl
          clear SP
          have hab : bits .and .u64 a b = sgnB (sgn a && sgn b) := by
            rcases zero_two a h0 h1 ZA.out with h | h <;> rcases zero_two b g0 g1 ZB.out with g | g <;> rw [h, g] <;> decide
          have HAB : Hid (_ = _) := hab
          clear hab
          go_enter Try.func81, Try.ntmps81
          go_wp2_with fail
          refine (pNo _ _ _ _ h0 h1 g0 g1 (by simp [go_sem]) (by simp [go_sem])).mono ?_
          rintro e w1 ⟨rfl, rfl⟩
          rw [NN.out]
          go_wp2_with (first | (go_at_call_of 57 a; refine (finite_any _ _ h0 h1).mono ?_; rintro e w' ⟨rfl, rfl⟩; rw [FA.out]) | (go_at_call_of 57 b; refine (finite_any _ _ g0 g1).mono ?_; rintro e w' ⟨rfl, rfl⟩; rw [FB.out]) | (go_at_call_of 110 a; refine (pIsZ _ _ h0 h1).mono ?_; rintro e w' ⟨rfl, rfl⟩; rw [ZA.out]) | (go_at_call_of 110 b; refine (pIsZ _ _ g0 g1).mono ?_; rintro e w' ⟨rfl, rfl⟩; rw [ZB.out]))
          go_ret2
          refine ⟨?_, bmore (Below.refl _ _) _⟩
          rw [SP2.out, HAB.out]
          all_goals rfl
        · have SP2 : Hid (S = rndS (sv a + sv b)) := by
            show _ = _
            rw [← SP.out, if_neg (by simp), if_neg (by simp), if_neg (by simp), if_neg (by simp), if_neg hz]
          have HZ : Hid (¬ (za && zb) = true) := hz
          clear SP
          have hzz : mag a ≠ 0 ∨ mag b ≠ 0 := by
            have h1 := ZA.out
            have h2 := ZB.out
            unfold isZ at h1 h2
            rcases Nat.eq_zero_or_pos (mag a) with k | k
            · rcases Nat.eq_zero_or_pos (mag b) with k2 | k2
              · exfalso; apply hz; rw [← h1, ← h2, k, k2]; rfl
              · right; omega
            · left; omega
          have HZZ : Hid (_ ∨ _) := hzz
          have MA : Hid ((mag a : Int) = a % 9223372036854775808) := by show _ = _; unfold mag; omega
          have MB : Hid ((mag b : Int) = b % 9223372036854775808) := by show _ = _; unfold mag; omega
          clear hzz hz
          by_cases hlt : a % 9223372036854775808 < b % 9223372036854775808
          · have sc : Hid (_ = _) := sv_comm a b
            cases za
            all_goals
              cases zb
              all_goals
                first
                  | (exfalso; exact HZ.out rfl; done)
                  | skip
              all_goals
                go_enter Try.func81, Try.ntmps81
                go_wp2_with fail
                refine (pNo _ _ _ _ h0 h1 g0 g1 (by simp [go_sem]) (by simp [go_sem])).mono ?_
                rintro e w1 ⟨rfl, rfl⟩
                rw [NN.out]
                go_wp2_with (first | (go_at_call_of 57 a; refine (finite_any _ _ h0 h1).mono ?_; rintro e w' ⟨rfl, rfl⟩; rw [FA.out]) | (go_at_call_of 57 b; refine (finite_any _ _ g0 g1).mono ?_; rintro e w' ⟨rfl, rfl⟩; rw [FB.out]) | (go_at_call_of 110 a; refine (pIsZ _ _ h0 h1).mono ?_; rintro e w' ⟨rfl, rfl⟩; rw [ZA.out]) | (go_at_call_of 110 b; refine (pIsZ _ _ g0 g1).mono ?_; rintro e w' ⟨rfl, rfl⟩; rw [ZB.out]) | (go_at_call_of 48 a; refine (abs_any _ _ h0 h1).mono ?_; rintro e w' ⟨rfl, rfl⟩) | (go_at_call_of 48 b; refine (abs_any _ _ g0 g1).mono ?_; rintro e w' ⟨rfl, rfl⟩) | fail)
                refine (pAddN b a _ g0 g1 h0 h1 mb (by have := MA.out; have := MB.out; omega) (by have := MA.out; have := MB.out; omega)).mono ?_
                rintro e w' ⟨rfl, hb'⟩
                go_wp2
                go_ret2
                refine ⟨?_, (bmore (Below.refl _ _) _).trans (hb'.mono (by simp))⟩
                rw [SP2.out, sc.out]
                all_goals rfl
          · cases za
            all_goals
              cases zb
              all_goals
                first
                  | (exfalso; exact HZ.out rfl; done)
                  | skip
              all_goals
                go_enter Try.func81, Try.ntmps81
                go_wp2_with fail
                refine (pNo _ _ _ _ h0 h1 g0 g1 (by simp [go_sem]) (by simp [go_sem])).mono ?_
                rintro e w1 ⟨rfl, rfl⟩
                rw [NN.out]
                go_wp2_with (first | (go_at_call_of 57 a; refine (finite_any _ _ h0 h1).mono ?_; rintro e w' ⟨rfl, rfl⟩; rw [FA.out]) | (go_at_call_of 57 b; refine (finite_any _ _ g0 g1).mono ?_; rintro e w' ⟨rfl, rfl⟩; rw [FB.out]) | (go_at_call_of 110 a; refine (pIsZ _ _ h0 h1).mono ?_; rintro e w' ⟨rfl, rfl⟩; rw [ZA.out]) | (go_at_call_of 110 b; refine (pIsZ _ _ g0 g1).mono ?_; rintro e w' ⟨rfl, rfl⟩; rw [ZB.out]) | (go_at_call_of 48 a; refine (abs_any _ _ h0 h1).mono ?_; rintro e w' ⟨rfl, rfl⟩) | (go_at_call_of 48 b; refine (abs_any _ _ g0 g1).mono ?_; rintro e w' ⟨rfl, rfl⟩) | fail)
                refine (pAddN a b _ h0 h1 g0 g1 ma (by have := MA.out; have := MB.out; omega) (by have := MA.out; have := MB.out; have := HZZ.out; omega)).mono ?_
                rintro e w' ⟨rfl, hb'⟩
                go_wp2
                go_ret2
                refine ⟨?_, (bmore (Below.refl _ _) _).trans (hb'.mono (by simp))⟩
                rw [SP2.out]
                all_goals rfl
      · have SP2 : Hid (S = (b, 0)) := by show _ = _; rw [← SP.out]; rfl
        clear SP
        go_enter Try.func81, Try.ntmps81
        go_wp2_with fail
        refine (pNo _ _ _ _ h0 h1 g0 g1 (by simp [go_sem]) (by simp [go_sem])).mono ?_
        rintro e w1 ⟨rfl, rfl⟩
        rw [NN.out]
        go_wp2_with (first | (go_at_call_of 57 a; refine (finite_any _ _ h0 h1).mono ?_; rintro e w' ⟨rfl, rfl⟩; rw [FA.out]) | (go_at_call_of 57 b; refine (finite_any _ _ g0 g1).mono ?_; rintro e w' ⟨rfl, rfl⟩; rw [FB.out]))
        go_ret2
        refine ⟨?_, bmore (Below.refl _ _) _⟩
        rw [SP2.out]
        all_goals rfl
    · cases ib
      · have SP2 : Hid (S = (a, 0)) := by show _ = _; rw [← SP.out]; rfl
        clear SP
        go_enter Try.func81, Try.ntmps81
        go_wp2_with fail
        refine (pNo _ _ _ _ h0 h1 g0 g1 (by simp [go_sem]) (by simp [go_sem])).mono ?_
        rintro e w1 ⟨rfl, rfl⟩
        rw [NN.out]
        go_wp2_with (first | (go_at_call_of 57 a; refine (finite_any _ _ h0 h1).mono ?_; rintro e w' ⟨rfl, rfl⟩; rw [FA.out]) | (go_at_call_of 57 b; refine (finite_any _ _ g0 g1).mono ?_; rintro e w' ⟨rfl, rfl⟩; rw [FB.out]))
        go_ret2
        refine ⟨?_, bmore (Below.refl _ _) _⟩
        rw [SP2.out]
        all_goals rfl
      · by_cases hab : a = b
        · have SP2 : Hid (S = (a, 0)) := by show _ = _; rw [← SP.out, decide_eq_false (fun k => k hab)]; rfl
          clear SP
          subst hab
          go_enter Try.func81, Try.ntmps81
          go_wp2_with fail
          refine (pNo _ _ _ _ h0 h1 g0 g1 (by simp [go_sem]) (by simp [go_sem])).mono ?_
          rintro e w1 ⟨rfl, rfl⟩
          rw [NN.out]
          go_wp2_with (first | (go_at_call 57; refine (finite_any _ _ h0 h1).mono ?_; rintro e w' ⟨rfl, rfl⟩; rw [FA.out]))
          go_ret2
          refine ⟨?_, bmore (Below.refl _ _) _⟩
          rw [SP2.out]
          all_goals rfl
        · have SP2 : Hid (S = (9221120237041090560, 16)) := by show _ = _; rw [← SP.out, decide_eq_true hab]; rfl
          clear SP
          go_enter Try.func81, Try.ntmps81
          go_wp2_with fail
          refine (pNo _ _ _ _ h0 h1 g0 g1 (by simp [go_sem]) (by simp [go_sem])).mono ?_
          rintro e w1 ⟨rfl, rfl⟩
          rw [NN.out]
          go_wp2_with (first | (go_at_call_of 57 a; refine (finite_any _ _ h0 h1).mono ?_; rintro e w' ⟨rfl, rfl⟩; rw [FA.out]) | (go_at_call_of 57 b; refine (finite_any _ _ g0 g1).mono ?_; rintro e w' ⟨rfl, rfl⟩; rw [FB.out]))
          go_ret2
          refine ⟨?_, bmore (Below.refl _ _) _⟩
          rw [SP2.out]
          all_goals rfl
theorem pSub (a b : Int) (w : World) (h0 : 0 ≤ a) (h1 : a < 18446744073709551616) (g0 : 0 ≤ b) (g1 : b < 18446744073709551616) :
    Calls Try.prog 83 #[.int .u64 a, .int .u64 b] w fun e w' => e = .returned (.tuple #[.int .u64 (addS a (wFlip b)).1, .int .u8 (addS a (wFlip b)).2]) ∧ Below w.heap.size w w' := by
  obtain ⟨f0, f1⟩ := wFlip_bd b
  go_enter Try.func83, Try.ntmps83
  go_wp2_with fail
  refine (flip_any _ _ g0 g1).mono ?_
  rintro e w1 ⟨rfl, rfl⟩
  go_wp2_with fail
  refine (pAdd _ _ _ h0 h1 f0 f1).mono ?_
  rintro e w2 ⟨rfl, hb2⟩
  go_wp2
  go_ret2
  exact ⟨ret_eq rfl, hb2⟩
set_option maxHeartbeats 1000000 in
theorem pMul (a b : Int) (w : World) (h0 : 0 ≤ a) (h1 : a < 18446744073709551616) (g0 : 0 ≤ b) (g1 : b < 18446744073709551616) :
    Calls Try.prog 82 #[.int .u64 a, .int .u64 b] w fun e w' => e = .returned (.tuple #[.int .u64 (mulS a b).1, .int .u8 (mulS a b).2]) ∧ Below w.heap.size w w' := by
  obtain ⟨na, hna⟩ : ∃ x, isNan a = x := ⟨_, rfl⟩
  obtain ⟨nb, hnb⟩ : ∃ x, isNan b = x := ⟨_, rfl⟩
  obtain ⟨ia, hia⟩ : ∃ x, isInf a = x := ⟨_, rfl⟩
  obtain ⟨ib, hib⟩ : ∃ x, isInf b = x := ⟨_, rfl⟩
  obtain ⟨za, hza⟩ : ∃ x, isZ a = x := ⟨_, rfl⟩
  obtain ⟨zb, hzb⟩ : ∃ x, isZ b = x := ⟨_, rfl⟩
  have NA : Hid (_ = _) := hna
  have NB : Hid (_ = _) := hnb
  have IA : Hid (_ = _) := hia
  have IB : Hid (_ = _) := hib
  have ZA : Hid (_ = _) := hza
  have ZB : Hid (_ = _) := hzb
  have SA : Hid (decide (9223372036854775808 ≤ a) = sgn a) := rfl
  have SB : Hid (decide (9223372036854775808 ≤ b) = sgn b) := rfl
  have NN : Hid ((isNan a || isNan b) = (na || nb)) := by show _ = _; rw [hna, hnb]
  obtain ⟨S, hS⟩ : ∃ S, mulS a b = S := ⟨_, rfl⟩
  rw [hS]
  unfold mulS at hS
  rw [hna, hnb, hia, hib, hza, hzb] at hS
  have SP : Hid (_ = S) := hS
  clear hS
  clear hna hnb hia hib hza hzb
  by_cases hn : (na || nb) = true
  · have SP2 : Hid (S = (9221120237041090560, nanF a b)) := by show _ = _; rw [← SP.out, if_pos hn]
    rw [hn] at NN
    clear SP
    go_enter Try.func82, Try.ntmps82
    go_wp2_with fail
    refine (pNo _ _ _ _ h0 h1 g0 g1 (by simp [go_sem]) (by simp [go_sem])).mono ?_
    rintro e w1 ⟨rfl, rfl⟩
    rw [NN.out]
    go_wp2
    go_ret2
    refine ⟨?_, bmore (Below.refl _ _) _⟩
    rw [SP2.out]
    all_goals rfl
  · have hn2 : na = false ∧ nb = false := by revert hn; cases na <;> cases nb <;> simp
    obtain ⟨rfl, rfl⟩ := hn2
    rw [show (false || false) = false from rfl] at NN
    have FA : Hid (_ = _) := fin_inf a NA.out
    have FB : Hid (_ = _) := fin_inf b NB.out
    rw [IA.out] at FA
    rw [IB.out] at FB
    clear hn
    cases ia
    · cases ib
      · have ma := mag_fin a NA.out IA.out
        have mb := mag_fin b NB.out IB.out
        obtain ⟨p1, p2, p3, p4⟩ := parts_bd a
        obtain ⟨q1, q2, q3, q4⟩ := parts_bd b
        have SP2 : Hid (S = (sgnB (sgn a != sgn b) + ((numR ((wMant a).toNat * (wMant b).toNat) (clampE (wPow a + wPow b)) false : Nat) : Int), ((flagR ((wMant a).toNat * (wMant b).toNat) (clampE (wPow a + wPow b)) false : Nat) : Int))) := by
          show _ = _
          rw [← SP.out, if_neg (by simp), if_neg (by simp), if_neg (by simp), clampE_in _ (by omega) (by omega), (numR_false _ _).1, (numR_false _ _).2, parts_V a ma, parts_V b mb, (mul_lay _ _ _ _ p3 q3).1, (mul_lay _ _ _ _ p3 q3).2]
        clear SP
        go_enter Try.func82, Try.ntmps82
        go_wp2_with fail
        refine (pNo _ _ _ _ h0 h1 g0 g1 (by simp [go_sem]) (by simp [go_sem])).mono ?_
        rintro e w1 ⟨rfl, rfl⟩
        rw [NN.out]
        go_wp2_with (first | (go_at_call_of 65 a; refine (neg_any _ _ h0 h1).mono ?_; rintro e w' ⟨rfl, rfl⟩; rw [SA.out]) | (go_at_call_of 65 b; refine (neg_any _ _ g0 g1).mono ?_; rintro e w' ⟨rfl, rfl⟩; rw [SB.out]) | (go_at_call_of 57 a; refine (finite_any _ _ h0 h1).mono ?_; rintro e w' ⟨rfl, rfl⟩; rw [FA.out]) | (go_at_call_of 57 b; refine (finite_any _ _ g0 g1).mono ?_; rintro e w' ⟨rfl, rfl⟩; rw [FB.out]) | (go_at_call_of 63 a; refine (parts_any _ _ h0 h1).mono ?_; rintro e w' ⟨rfl, rfl⟩) | (go_at_call_of 63 b; refine (parts_any _ _ g0 g1).mono ?_; rintro e w' ⟨rfl, rfl⟩) | fail)
        refine (wMul _ _ _ p1 (by omega) q1 (by omega)).mono ?_
        rintro e w2 ⟨u, l, rfl, k0, k1, k2, k3, k4, hb2⟩
        have K4 : Hid (_ = _) := k4
        clear k4
        go_wp2_with fail
        refine (pRound _ _ _ _ _ _ k0 k1 k2 k3).mono ?_
        rintro e w3 ⟨rfl, hb3⟩
        rw [K4.out]
        go_wp2
        go_ret2
        refine ⟨?_, bstep ((bmore (Below.refl _ _) _).trans (hb2.mono (by simp))) hb3⟩
        rw [SP2.out]
        all_goals rfl
      · cases za
        · have SP2 : Hid (S = (sgnB (sgn a != sgn b) + 9218868437227405312, 0)) := by show _ = _; rw [← SP.out, ← ZB.out, inf_not_z b IB.out]; rfl
          have hzb : zb = false := by rw [← ZB.out]; exact inf_not_z b IB.out
          subst hzb
          clear SP
          go_enter Try.func82, Try.ntmps82
          go_wp2_with fail
          refine (pNo _ _ _ _ h0 h1 g0 g1 (by simp [go_sem]) (by simp [go_sem])).mono ?_
          rintro e w1 ⟨rfl, rfl⟩
          rw [NN.out]
          go_wp2_with (first | (go_at_call_of 65 a; refine (neg_any _ _ h0 h1).mono ?_; rintro e w' ⟨rfl, rfl⟩; rw [SA.out]) | (go_at_call_of 65 b; refine (neg_any _ _ g0 g1).mono ?_; rintro e w' ⟨rfl, rfl⟩; rw [SB.out]) | (go_at_call_of 57 a; refine (finite_any _ _ h0 h1).mono ?_; rintro e w' ⟨rfl, rfl⟩; rw [FA.out]) | (go_at_call_of 57 b; refine (finite_any _ _ g0 g1).mono ?_; rintro e w' ⟨rfl, rfl⟩; rw [FB.out]) | (go_at_call_of 110 a; refine (pIsZ _ _ h0 h1).mono ?_; rintro e w' ⟨rfl, rfl⟩; rw [ZA.out]) | (go_at_call_of 110 b; refine (pIsZ _ _ g0 g1).mono ?_; rintro e w' ⟨rfl, rfl⟩; rw [ZB.out]) | (go_at_call 112; refine (pInf _ _).mono ?_; rintro e w' ⟨rfl, rfl⟩))
          go_ret2
          refine ⟨?_, bmore (Below.refl _ _) _⟩
          rw [SP2.out]
          all_goals rfl
        · have SP2 : Hid (S = (9221120237041090560, 16)) := by show _ = _; rw [← SP.out]; rfl
          clear SP
          go_enter Try.func82, Try.ntmps82
          go_wp2_with fail
          refine (pNo _ _ _ _ h0 h1 g0 g1 (by simp [go_sem]) (by simp [go_sem])).mono ?_
          rintro e w1 ⟨rfl, rfl⟩
          rw [NN.out]
          go_wp2_with (first | (go_at_call_of 65 a; refine (neg_any _ _ h0 h1).mono ?_; rintro e w' ⟨rfl, rfl⟩; rw [SA.out]) | (go_at_call_of 65 b; refine (neg_any _ _ g0 g1).mono ?_; rintro e w' ⟨rfl, rfl⟩; rw [SB.out]) | (go_at_call_of 57 a; refine (finite_any _ _ h0 h1).mono ?_; rintro e w' ⟨rfl, rfl⟩; rw [FA.out]) | (go_at_call_of 57 b; refine (finite_any _ _ g0 g1).mono ?_; rintro e w' ⟨rfl, rfl⟩; rw [FB.out]) | (go_at_call_of 110 a; refine (pIsZ _ _ h0 h1).mono ?_; rintro e w' ⟨rfl, rfl⟩; rw [ZA.out]) | (go_at_call_of 110 b; refine (pIsZ _ _ g0 g1).mono ?_; rintro e w' ⟨rfl, rfl⟩; rw [ZB.out]) | (go_at_call 112; refine (pInf _ _).mono ?_; rintro e w' ⟨rfl, rfl⟩))
          go_ret2
          refine ⟨?_, bmore (Below.refl _ _) _⟩
          rw [SP2.out]
          all_goals rfl
    · have hza : za = false := by rw [← ZA.out]; exact inf_not_z a IA.out
      subst hza
      cases zb
      · have SP2 : Hid (S = (sgnB (sgn a != sgn b) + 9218868437227405312, 0)) := by show _ = _; rw [← SP.out]; cases ib <;> rfl
        clear SP
        go_enter Try.func82, Try.ntmps82
        go_wp2_with fail
        refine (pNo _ _ _ _ h0 h1 g0 g1 (by simp [go_sem]) (by simp [go_sem])).mono ?_
        rintro e w1 ⟨rfl, rfl⟩
        rw [NN.out]
        go_wp2_with (first | (go_at_call_of 65 a; refine (neg_any _ _ h0 h1).mono ?_; rintro e w' ⟨rfl, rfl⟩; rw [SA.out]) | (go_at_call_of 65 b; refine (neg_any _ _ g0 g1).mono ?_; rintro e w' ⟨rfl, rfl⟩; rw [SB.out]) | (go_at_call_of 57 a; refine (finite_any _ _ h0 h1).mono ?_; rintro e w' ⟨rfl, rfl⟩; rw [FA.out]) | (go_at_call_of 57 b; refine (finite_any _ _ g0 g1).mono ?_; rintro e w' ⟨rfl, rfl⟩; rw [FB.out]) | (go_at_call_of 110 a; refine (pIsZ _ _ h0 h1).mono ?_; rintro e w' ⟨rfl, rfl⟩; rw [ZA.out]) | (go_at_call_of 110 b; refine (pIsZ _ _ g0 g1).mono ?_; rintro e w' ⟨rfl, rfl⟩; rw [ZB.out]) | (go_at_call 112; refine (pInf _ _).mono ?_; rintro e w' ⟨rfl, rfl⟩))
        go_ret2
        refine ⟨?_, bmore (Below.refl _ _) _⟩
        rw [SP2.out]
        all_goals rfl
      · have SP2 : Hid (S = (9221120237041090560, 16)) := by show _ = _; rw [← SP.out]; cases ib <;> rfl
        clear SP
        go_enter Try.func82, Try.ntmps82
        go_wp2_with fail
        refine (pNo _ _ _ _ h0 h1 g0 g1 (by simp [go_sem]) (by simp [go_sem])).mono ?_
        rintro e w1 ⟨rfl, rfl⟩
        rw [NN.out]
        go_wp2_with (first | (go_at_call_of 65 a; refine (neg_any _ _ h0 h1).mono ?_; rintro e w' ⟨rfl, rfl⟩; rw [SA.out]) | (go_at_call_of 65 b; refine (neg_any _ _ g0 g1).mono ?_; rintro e w' ⟨rfl, rfl⟩; rw [SB.out]) | (go_at_call_of 57 a; refine (finite_any _ _ h0 h1).mono ?_; rintro e w' ⟨rfl, rfl⟩; rw [FA.out]) | (go_at_call_of 57 b; refine (finite_any _ _ g0 g1).mono ?_; rintro e w' ⟨rfl, rfl⟩; rw [FB.out]) | (go_at_call_of 110 a; refine (pIsZ _ _ h0 h1).mono ?_; rintro e w' ⟨rfl, rfl⟩; rw [ZA.out]) | (go_at_call_of 110 b; refine (pIsZ _ _ g0 g1).mono ?_; rintro e w' ⟨rfl, rfl⟩; rw [ZB.out]) | (go_at_call 112; refine (pInf _ _).mono ?_; rintro e w' ⟨rfl, rfl⟩))
        go_ret2
        refine ⟨?_, bmore (Below.refl _ _) _⟩
        rw [SP2.out]
        all_goals rfl
end Go.Proofs.Ytokgfeeaoioegaa
