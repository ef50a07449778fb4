/-
  What the reference's Sqrt returns: sqrtS, at every pattern.
-/
import Derived.Test.YteohkpiecidicaaRef05S
import Derived.Test.YteohkpiecidicaaRef05N
import Derived.Test.YteohkpiecidicaaRef04E
namespace Go.Proofs.Yteohkpiecidicaa
open Go.RowKit
set_option linter.unusedVariables false

theorem cmp_ne (m n : Nat) : (!(cmpI m n == 0)) = decide (m ≠ n) := by
  unfold cmpI
  rw [Bool.eq_iff_iff]
  simp only [Bool.not_eq_true', beq_eq_false_iff_ne, ne_eq, decide_eq_true_eq]
  repeat' split
  all_goals omega
theorem sqrt_raw (a : Int) (ma : mag a < 9218868437227405312) (mz : mag a ≠ 0) (n : Nat) (H : Int) (hn : 120 ≤ n) (hn2 : n ≤ 121) (hH : (rE a : Int) - 1074 - n + 120 = 2 * H) (Y : Nat) (hY : rX a * 2 ^ n = Y) :
    rootN (V (mag a)) = numM (isq Y) (H - 60) (decide (isq Y * isq Y ≠ Y)) ∧ rootF (V (mag a)) = flagM (isq Y) (H - 60) (decide (isq Y * isq Y ≠ Y)) := by
  have hp := rX_zero a ma
  have ra := root_at (rX a) n ((rE a : Int) - 1074) (H - 60) (by omega) (by omega) (by omega) (isq_big _ _ (by omega) (by omega))
  rw [hY, show ((rE a : Int) - 1074 + 1074).toNat = rE a by omega, ← raw_V a ma] at ra
  exact ⟨ra.1.symm, ra.2.symm⟩
set_option maxRecDepth 100000 in
set_option maxHeartbeats 2000000 in
theorem q5Sqrt (a : Int) (w : World) (h0 : 0 ≤ a) (h1 : a < 18446744073709551616) :
    Calls Try.prog 17 #[.int .u64 a] w fun e w' => e = .returned (.tuple #[.int .u64 (sqrtS a).1, .int .i64 (sqrtS a).2]) ∧ Below w.heap.size w w' := by
  obtain ⟨na, hna⟩ : ∃ x, isNan a = x := ⟨_, rfl⟩
  obtain ⟨za, hza⟩ : ∃ x, isZ a = x := ⟨_, rfl⟩
  obtain ⟨sa, hsa⟩ : ∃ x, sgn a = x := ⟨_, rfl⟩
  have NA : Hid (_ = _) := hna
  have ZA : Hid (_ = _) := hza
  have SA : Hid (_ = _) := hsa
  obtain ⟨S, hS⟩ : ∃ S, sqrtS a = S := ⟨_, rfl⟩
  rw [hS]
  have SP := hS
  unfold sqrtS at SP
  rw [hna, hza, hsa] at SP
  cases na
  · cases za
    · by_cases hinf : a = 9218868437227405312
      · have SP2 : Hid (S = (a, 0)) := by show _ = _; rw [← SP, if_neg (by simp), if_neg (by simp), if_pos hinf]
        clear SP hna hza hsa hS
        subst hinf
        go_enter Try.func17, Try.ntmps17
        go_wp2_with fail
        refine (q5Nan1 _ _ _ h0 h1 (by simp [go_sem])).mono ?_
        rintro e w1 ⟨rfl, rfl⟩
        rw [NA.out]
        go_wp2_with (first | (go_at_call 48; refine (q4Zero _ _ h0 h1).mono ?_; rintro e w' ⟨rfl, rfl⟩; rw [ZA.out]) | (go_at_call 58; refine (q4Neg _ _ h0 h1).mono ?_; rintro e w' ⟨rfl, rfl⟩; rw [SA.out]))
        go_ret2
        refine ⟨?_, bmore (Below.refl _ _) _⟩
        rw [SP2.out]
        all_goals rfl
      · have hinf2 : (a == 9218868437227405312) = false := by rw [beq_eq_false_iff_ne]; exact hinf
        cases sa
        · have ma : mag a < 9218868437227405312 := by
            unfold isNan at hna
            rw [decide_eq_false_iff_not] at hna
            unfold sgn at hsa
            rw [decide_eq_false_iff_not] at hsa
            unfold mag at *
            omega
          have mz := (z_not a).1 hza
          have SP2 : Hid (S = (((rootN (V (mag a)) : Nat) : Int), ((rootF (V (mag a)) : Nat) : Int))) := by show _ = _; rw [← SP, if_neg (by simp), if_neg (by simp), if_neg hinf, if_neg (by simp)]
          have sr := sqrt_raw a ma mz
          obtain ⟨fa0, fa1, pa0, pa1, ca1, ca2⟩ := cut_facts a
          have xa1 := rX_lt a
          have ea1 := rE_lt a
          obtain ⟨XA, hXA⟩ : ∃ x, rX a = x := ⟨_, rfl⟩
          obtain ⟨EA, hEA⟩ : ∃ x, rE a = x := ⟨_, rfl⟩
          obtain ⟨fa, hfa⟩ : ∃ x, a % 4503599627370496 = x := ⟨_, rfl⟩
          obtain ⟨pa, hpa⟩ : ∃ x, a / 4503599627370496 % 2048 = x := ⟨_, rfl⟩
          rw [hXA, hEA] at sr ca1 ca2
          rw [hXA] at xa1
          rw [hEA] at ea1
          rw [hfa] at fa0 fa1 ca1 ca2
          rw [hpa] at pa0 pa1 ca1 ca2
          have FA : Hid (_ = _) := hfa
          have PA : Hid (_ = _) := hpa
          have SR : Hid (∀ (n : Nat) (H : Int), 120 ≤ n → n ≤ 121 → (EA : Int) - 1074 - n + 120 = 2 * H → ∀ Y : Nat, XA * 2 ^ n = Y → S.1 = ((numM (isq Y) (H - 60) (decide (isq Y * isq Y ≠ Y)) : Nat) : Int) ∧ S.2 = ((flagM (isq Y) (H - 60) (decide (isq Y * isq Y ≠ Y)) : Nat) : Int)) := by
            show ∀ (n : Nat) (H : Int), _
            intro n H q1 q2 q3 Y q4
            obtain ⟨s1, s2⟩ := sr n H q1 q2 q3 Y q4
            rw [SP2.out, s1, s2]
            exact ⟨rfl, rfl⟩
          have la : (bl XA).length ≤ 53 := (bl_length_le XA 53).2 (by omega)
          have wa : IntKind.u64.wrap (fa + 4503599627370496) = fa + 4503599627370496 := by rw [IntKind.wrap_u64]; omega
          have CA1 : Hid (_ → _) := ca1
          have CA2 : Hid (_ → _) := ca2
          clear SP SP2 sr hXA hEA hfa hpa ca1 ca2 ma mz hna hza hsa hS hinf
          go_enter Try.func17, Try.ntmps17
          go_wp2_with fail
          refine (q5Nan1 _ _ _ h0 h1 (by simp [go_sem])).mono ?_
          rintro e w1 ⟨rfl, hw1⟩
          have hbw : Below w.heap.size w w1 := by rw [hw1]; exact bmore (Below.refl _ _) _
          clear hw1
          rw [NA.out]
          go_upto_if 37 with (first | (go_at_call 48; refine (q4Zero _ _ h0 h1).mono ?_; rintro e w' ⟨rfl, rfl⟩; rw [ZA.out]) | (go_at_call 58; refine (q4Neg _ _ h0 h1).mono ?_; rintro e w' ⟨rfl, rfl⟩; rw [SA.out]) | (go_at_call 59; refine (q4Parts _ _ h0 h1).mono ?_; rintro e w' ⟨rfl, rfl⟩; rw [FA.out, PA.out]))
          go_cut [7, 8] (fun t x wx => t = .int .i64 (EA : Int) ∧ x = .int .u64 (XA : Int) ∧ Below w.heap.size w wx)
          case first =>
            by_cases hp : pa = 0
            · obtain ⟨u1, u2⟩ := CA1.out hp
              subst hp
              go_wp2
              go_meet
              exact ⟨int_eq (by omega), int_eq (by omega), hbw⟩
            · obtain ⟨u1, u2⟩ := CA2.out hp
              have U : Hid (_ ∧ _) := ⟨u1, u2⟩
              have hp2 : 0 < pa := by omega
              clear u1 u2
              go_wp2
              go_meet
              exact ⟨int_eq (by have := U.out.1; omega), int_eq (by have := U.out.2; omega), hbw⟩
          case rest =>
            obtain ⟨rfl, rfl, hbw⟩ := hcut
            clear FA PA CA1 CA2 wa fa0 fa1 pa0 pa1
            by_cases ev : ((EA : Int) - 1074) % 2 = 0
            · obtain ⟨H, hH⟩ : ∃ H, (EA : Int) - 1074 = 2 * H := ⟨((EA : Int) - 1074) / 2, by omega⟩
              have t1 : ((EA : Int) - 1074).tmod 2 = 0 := by rw [hH]; exact Int.mul_tmod_right _ _
              have t2 : ((EA : Int) - 1074).tdiv 2 = H := by rw [hH]; exact Int.mul_tdiv_cancel_left _ (by decide)
              have hb0 : -2000 ≤ H := by omega
              have hb1 : H ≤ 2000 := by omega
              obtain ⟨Y, hY⟩ : ∃ Y, XA * 2 ^ 120 = Y := ⟨_, rfl⟩
              have RT : Hid (_ ∧ _) := SR.out 120 H (by omega) (by omega) (by omega) Y hY
              have BX : Hid (2 ^ 120 * XA = Y) := by show _ = _; rw [Nat.mul_comm]; exact hY
              have ly : (bl Y).length ≤ 174 := by rw [bl_length_le] at la ⊢; rw [← hY]; omega
              have lr := sq_len (isq Y) Y 200 (isq_spec Y).1 (by rw [bl_length_le] at ly; exact Nat.lt_of_lt_of_le ly (Nat.pow_le_pow_right (by decide) (by decide)))
              clear hH ev hY SR
              go_wp2_with fail
              refine (rOf _ _ (by omega) (by omega)).mono ?_
              rintro e w2 ⟨v2, rfl, own2, hb2⟩
              rw [Int.toNat_natCast] at own2
              have hbx := bstep hbw hb2
              clear hb2 hbw
              go_wp2_with fail
              refine (rUp _ _ _ _ own2.sees (bl_bin _) (by omega) (by omega)).mono ?_
              rintro e w4 ⟨v4, rfl, own4, hb4⟩
              rw [val_bl, show (120 : Int).toNat = 120 from rfl, BX.out] at own4
              have hby := bstep hbx hb4
              clear hb4 hbx own2
              go_wp2_with fail
              refine (r2Sqrt _ _ _ own4.sees (bl_bin _) (by omega)).mono ?_
              rintro e w5 ⟨v5, rfl, own5, hb5⟩
              rw [val_bl] at own5
              replace own4 := own4.below hb5
              have hbz := bstep hby hb5
              clear hb5 hby
              obtain ⟨R, hR⟩ : ∃ R, isq Y = R := ⟨_, rfl⟩
              rw [hR] at own5 lr
              have HR : Hid (_ = _) := hR
              clear hR
              go_wp2_with fail
              refine (rMul _ _ _ _ _ own5.sees own5.sees (bl_bin _) (bl_bin _) (by omega) (by omega)).mono ?_
              rintro e w6 ⟨v6, rfl, own6, hb6⟩
              rw [val_bl] at own6
              replace own4 := own4.below hb6
              replace own5 := own5.below hb6
              have hbu := bstep hbz hb6
              have lq := sq_lenQ R 200 lr
              clear hb6 hbz
              go_wp2_with fail
              refine (rCmp _ _ _ _ _ own6.sees own4.sees (bl_bin _) (bl_bin _) (by omega) (by omega)).mono ?_
              rintro e w7 ⟨rfl, hb7⟩
              rw [val_bl, val_bl]
              replace own5 := own5.below hb7
              have hbv := bstep hbu hb7
              clear hb7 hbu own4 own6
              obtain ⟨C, hC⟩ : ∃ C, cmpI (R * R) Y = C := ⟨_, rfl⟩
              have hcd : (C != 0) = decide (R * R ≠ Y) := by rw [← hC]; exact cmp_ne _ _
              obtain ⟨md, hmd⟩ : ∃ md, decide (R * R ≠ Y) = md := ⟨_, rfl⟩
              rw [hmd] at hcd
              have HMD : Hid (_ = _) := hmd
              rw [hC]
              clear hC hmd
              go_wp2_with fail
              first | rw [hcd] | skip
              refine (r3Round _ _ _ _ (H - 60) _ own5.sees (bl_bin _) (by omega) (by omega) (by omega)).mono ?_
              rintro e w9 ⟨B, F, rfl, hB, hF, hb9⟩
              have HB : Hid (B = ((numM R (H - 60) md : Nat) : Int)) := by
                show _ = _
                rw [hB, val_bl, ← hcd]
                unfold sgnB
                simp
              have HF : Hid (F = ((flagM R (H - 60) md : Nat) : Int)) := by
                show _ = _
                rw [hF, val_bl, ← hcd]
              have hbq := bstep hbv hb9
              clear hB hF hb9
              go_wp2_with fail
              go_region
              all_goals go_wp2
              all_goals go_ret2
              all_goals refine ⟨?_, (bmore hbq _).drew⟩
              all_goals (rw [RT.out.1, RT.out.2, HR.out, HMD.out, HB.out, HF.out]; rfl)
            · obtain ⟨H, hH⟩ : ∃ H, (EA : Int) - 1074 - 1 = 2 * H := ⟨((EA : Int) - 1074 - 1) / 2, by omega⟩
              have t2 : ((EA : Int) - 1074 - 1).tdiv 2 = H := by rw [hH]; exact Int.mul_tdiv_cancel_left _ (by decide)
              obtain ⟨t, t1⟩ : ∃ t, ((EA : Int) - 1074).tmod 2 = t := ⟨_, rfl⟩
              have t3 : (t == 0) = false := by
                rw [beq_eq_false_iff_ne]
                intro h
                rw [h] at t1
                have := Int.dvd_of_tmod_eq_zero t1
                omega
              have hb0 : -2000 ≤ H := by omega
              have hb1 : H ≤ 2000 := by omega
              obtain ⟨Y, hY⟩ : ∃ Y, XA * 2 ^ 121 = Y := ⟨_, rfl⟩
              have RT : Hid (_ ∧ _) := SR.out 121 H (by omega) (by omega) (by omega) Y hY
              have BX : Hid (2 ^ 120 * (2 ^ 1 * XA) = Y) := by show _ = _; rw [← hY, ← Nat.mul_assoc, ← Nat.pow_add, Nat.mul_comm]
              have ly : (bl Y).length ≤ 174 := by rw [bl_length_le] at la ⊢; rw [← hY]; omega
              have lr := sq_len (isq Y) Y 200 (isq_spec Y).1 (by rw [bl_length_le] at ly; exact Nat.lt_of_lt_of_le ly (Nat.pow_le_pow_right (by decide) (by decide)))
              clear hH ev hY SR
              go_wp2_with fail
              refine (rOf _ _ (by omega) (by omega)).mono ?_
              rintro e w2 ⟨v2, rfl, own2, hb2⟩
              rw [Int.toNat_natCast] at own2
              have hbx := bstep hbw hb2
              clear hb2 hbw
              go_wp2_with fail
              refine (rUp _ _ _ _ own2.sees (bl_bin _) (by omega) (by omega)).mono ?_
              rintro e w3 ⟨v3, rfl, own3, hb3⟩
              rw [val_bl, show (1 : Int).toNat = 1 from rfl] at own3
              replace hbx := bstep hbx hb3
              clear hb3 own2
              have own2 := own3
              have l2 : (bl (2 ^ 1 * XA)).length ≤ 54 := by rw [bl_length_le] at la ⊢; omega
              clear own3
              go_wp2_with fail
              refine (rUp _ _ _ _ own2.sees (bl_bin _) (by omega) (by omega)).mono ?_
              rintro e w4 ⟨v4, rfl, own4, hb4⟩
              rw [val_bl, show (120 : Int).toNat = 120 from rfl, BX.out] at own4
              have hby := bstep hbx hb4
              clear hb4 hbx own2
              go_wp2_with fail
              refine (r2Sqrt _ _ _ own4.sees (bl_bin _) (by omega)).mono ?_
              rintro e w5 ⟨v5, rfl, own5, hb5⟩
              rw [val_bl] at own5
              replace own4 := own4.below hb5
              have hbz := bstep hby hb5
              clear hb5 hby
              obtain ⟨R, hR⟩ : ∃ R, isq Y = R := ⟨_, rfl⟩
              rw [hR] at own5 lr
              have HR : Hid (_ = _) := hR
              clear hR
              go_wp2_with fail
              refine (rMul _ _ _ _ _ own5.sees own5.sees (bl_bin _) (bl_bin _) (by omega) (by omega)).mono ?_
              rintro e w6 ⟨v6, rfl, own6, hb6⟩
              rw [val_bl] at own6
              replace own4 := own4.below hb6
              replace own5 := own5.below hb6
              have hbu := bstep hbz hb6
              have lq := sq_lenQ R 200 lr
              clear hb6 hbz
              go_wp2_with fail
              refine (rCmp _ _ _ _ _ own6.sees own4.sees (bl_bin _) (bl_bin _) (by omega) (by omega)).mono ?_
              rintro e w7 ⟨rfl, hb7⟩
              rw [val_bl, val_bl]
              replace own5 := own5.below hb7
              have hbv := bstep hbu hb7
              clear hb7 hbu own4 own6
              obtain ⟨C, hC⟩ : ∃ C, cmpI (R * R) Y = C := ⟨_, rfl⟩
              have hcd : (C != 0) = decide (R * R ≠ Y) := by rw [← hC]; exact cmp_ne _ _
              obtain ⟨md, hmd⟩ : ∃ md, decide (R * R ≠ Y) = md := ⟨_, rfl⟩
              rw [hmd] at hcd
              have HMD : Hid (_ = _) := hmd
              rw [hC]
              clear hC hmd
              go_wp2_with fail
              first | rw [hcd] | skip
              refine (r3Round _ _ _ _ (H - 60) _ own5.sees (bl_bin _) (by omega) (by omega) (by omega)).mono ?_
              rintro e w9 ⟨B, F, rfl, hB, hF, hb9⟩
              have HB : Hid (B = ((numM R (H - 60) md : Nat) : Int)) := by
                show _ = _
                rw [hB, val_bl, ← hcd]
                unfold sgnB
                simp
              have HF : Hid (F = ((flagM R (H - 60) md : Nat) : Int)) := by
                show _ = _
                rw [hF, val_bl, ← hcd]
              have hbq := bstep hbv hb9
              clear hB hF hb9
              go_wp2_with fail
              go_region
              all_goals go_wp2
              all_goals go_ret2
              all_goals refine ⟨?_, (bmore hbq _).drew⟩
              all_goals (rw [RT.out.1, RT.out.2, HR.out, HMD.out, HB.out, HF.out]; rfl)
        · have SP2 : Hid (S = (9221120237041090560, 16)) := by show _ = _; rw [← SP, if_neg (by simp), if_neg (by simp), if_neg hinf, if_pos rfl]
          clear SP hna hza hsa hS hinf
          go_enter Try.func17, Try.ntmps17
          go_wp2_with fail
          refine (q5Nan1 _ _ _ h0 h1 (by simp [go_sem])).mono ?_
          rintro e w1 ⟨rfl, rfl⟩
          rw [NA.out]
          go_wp2_with (first | (go_at_call 48; refine (q4Zero _ _ h0 h1).mono ?_; rintro e w' ⟨rfl, rfl⟩; rw [ZA.out]) | (go_at_call 58; refine (q4Neg _ _ h0 h1).mono ?_; rintro e w' ⟨rfl, rfl⟩; rw [SA.out]))
          go_ret2
          refine ⟨?_, bmore (Below.refl _ _) _⟩
          rw [SP2.out]
          all_goals rfl
    · have SP2 : Hid (S = (a, 0)) := by show _ = _; rw [← SP, if_neg (by simp), if_pos rfl]
      clear SP hna hza hsa hS
      go_enter Try.func17, Try.ntmps17
      go_wp2_with fail
      refine (q5Nan1 _ _ _ h0 h1 (by simp [go_sem])).mono ?_
      rintro e w1 ⟨rfl, rfl⟩
      rw [NA.out]
      go_wp2_with (first | (go_at_call 48; refine (q4Zero _ _ h0 h1).mono ?_; rintro e w' ⟨rfl, rfl⟩; rw [ZA.out]) | (go_at_call 58; refine (q4Neg _ _ h0 h1).mono ?_; rintro e w' ⟨rfl, rfl⟩; rw [SA.out]))
      go_ret2
      refine ⟨?_, bmore (Below.refl _ _) _⟩
      rw [SP2.out]
      all_goals rfl
  · have SP2 : Hid (S = (9221120237041090560, nanF a a)) := by show _ = _; rw [← SP, if_pos rfl]
    clear SP hna hza hsa hS
    go_enter Try.func17, Try.ntmps17
    go_wp2_with fail
    refine (q5Nan1 _ _ _ h0 h1 (by simp [go_sem])).mono ?_
    rintro e w1 ⟨rfl, rfl⟩
    rw [NA.out]
    go_wp2_with (first | (go_at_call 48; refine (q4Zero _ _ h0 h1).mono ?_; rintro e w' ⟨rfl, rfl⟩; rw [ZA.out]) | (go_at_call 58; refine (q4Neg _ _ h0 h1).mono ?_; rintro e w' ⟨rfl, rfl⟩; rw [SA.out]))
    go_ret2
    refine ⟨?_, bmore (Below.refl _ _) _⟩
    rw [SP2.out]
    all_goals rfl
end Go.Proofs.Yteohkpiecidicaa
