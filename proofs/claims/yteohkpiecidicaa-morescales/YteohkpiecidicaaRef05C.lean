/-
  What the reference's Scale returns: scaleS, at every argument.
-/
import Derived.Test.YteohkpiecidicaaRef05N
import Derived.Test.YteohkpiecidicaaRef04E
namespace Go.Proofs.Yteohkpiecidicaa
open Go.RowKit
set_option linter.unusedVariables false

theorem scale_raw (a n : Int) (ma : mag a < 9218868437227405312) (hz : mag a ≠ 0) (c : Int) (hc : 5000 ≤ c) :
    numP (V (mag a)) (n - 1074) = numP (rX a) ((rE a : Int) - 1074 + min (max n (-c)) c) ∧ flagP (V (mag a)) (n - 1074) = flagP (rX a) ((rE a : Int) - 1074 + min (max n (-c)) c) := by
  have hx := rX_lt a
  have hp := rX_zero a ma
  have hf := (fin_mag a).2 ma
  have he : rE a ≤ 2045 := by
    obtain ⟨q1, q2, q3, q4, q5, q6⟩ := cut_facts a
    by_cases h : a / 4503599627370496 % 2048 = 0
    · have := (q5 h).1; omega
    · have := (q6 h).1; omega
  have cl := num_clamp (rX a) ((rE a : Int) - 1074) n c (by omega) hx (by omega) (by omega) hc
  rw [raw_V a ma, numP_scale, flagP_scale, cl.1, cl.2, show n - 1074 + ((rE a : Nat) : Int) = (rE a : Int) - 1074 + n by omega]
  exact ⟨rfl, rfl⟩
theorem q5Scale (a n : Int) (w : World) (h0 : 0 ≤ a) (h1 : a < 18446744073709551616) (n0 : -9223372036854775808 ≤ n) (n1 : n ≤ 9223372036854775807) :
    Calls Try.prog 21 #[.int .u64 a, .int .i64 n] w fun e w' => e = .returned (.tuple #[.int .u64 (scaleS a n).1, .int .i64 (scaleS a n).2]) ∧ Below w.heap.size w w' := by
  obtain ⟨na, hna⟩ : ∃ x, isNan a = x := ⟨_, rfl⟩
  obtain ⟨ia, hia⟩ : ∃ x, isInf a = x := ⟨_, rfl⟩
  obtain ⟨za, hza⟩ : ∃ x, isZ a = x := ⟨_, rfl⟩
  obtain ⟨sa, hsa⟩ : ∃ x, sgn a = x := ⟨_, rfl⟩
  have NA : Hid (_ = _) := hna
  have IA : Hid (_ = _) := hia
  have ZA : Hid (_ = _) := hza
  have SA : Hid (_ = _) := hsa
  obtain ⟨S, hS⟩ : ∃ S, scaleS a n = S := ⟨_, rfl⟩
  rw [hS]
  have SP := hS
  unfold scaleS at SP
  rw [hna, hia, hza, hsa] at SP
  cases na
  · cases hiz : (ia || za)
    · have hi : ia = false ∧ za = false := by revert hiz; cases ia <;> cases za <;> simp
      obtain ⟨rfl, rfl⟩ := hi
      have ma := mag_fin a NA.out IA.out
      have mz := (z_not a).1 ZA.out
      have sr := scale_raw a n ma mz 5000 (by omega)
      obtain ⟨fa0, fa1, pa0, pa1, ca1, ca2⟩ := cut_facts a
      have xa1 := rX_lt a
      have hf := (fin_mag a).2 ma
      obtain ⟨XA, hXA⟩ : ∃ x, rX a = x := ⟨_, rfl⟩
      obtain ⟨EA, hEA⟩ : ∃ x, rE a = x := ⟨_, rfl⟩
      obtain ⟨fa, hfa⟩ : ∃ x, a % 4503599627370496 = x := ⟨_, rfl⟩
      obtain ⟨pa, hpa⟩ : ∃ x, a / 4503599627370496 % 2048 = x := ⟨_, rfl⟩
      rw [hXA, hEA] at sr ca1 ca2
      rw [hXA] at xa1
      rw [hfa] at fa0 fa1 ca1 ca2
      rw [hpa] at pa0 pa1 ca1 ca2 hf
      obtain ⟨N, hN⟩ : ∃ N, min (max n (-5000)) 5000 = N := ⟨_, rfl⟩
      rw [hN] at sr
      have FA : Hid (_ = _) := hfa
      have PA : Hid (_ = _) := hpa
      have SP2 : Hid (S = (sgnB sa + ((numP XA ((EA : Int) - 1074 + N) : Nat) : Int), ((flagP XA ((EA : Int) - 1074 + N) : Nat) : Int))) := by
        show _ = _
        rw [← SP, if_neg (by simp), if_neg (by simp), sr.1, sr.2]
      have la : (bl XA).length ≤ 53 := (bl_length_le XA 53).2 (by omega)
      have wa : IntKind.u64.wrap (fa + 4503599627370496) = fa + 4503599627370496 := by rw [IntKind.wrap_u64]; omega
      have CA1 : Hid (_ → _) := ca1
      have CA2 : Hid (_ → _) := ca2
      have HN : Hid (_ = _) := hN
      clear SP sr hXA hEA hfa hpa hN ca1 ca2 ma mz hna hia hza hsa hS hiz
      go_enter Try.func21, Try.ntmps21
      go_wp2_with fail
      refine (q5Nan1 _ _ _ h0 h1 (by simp [go_sem])).mono ?_
      rintro e w1 ⟨rfl, hw1⟩
      have hbw : Below w.heap.size w w1 := by rw [hw1]; exact bmore (Below.refl _ _) _
      clear hw1
      rw [NA.out]
      go_upto_if 34 with (first | (go_at_call 47; refine (q4Inf _ _ h0 h1).mono ?_; rintro e w' ⟨rfl, rfl⟩; rw [IA.out]) | (go_at_call 48; refine (q4Zero _ _ h0 h1).mono ?_; rintro e w' ⟨rfl, rfl⟩; rw [ZA.out]) | (go_at_call 59; refine (q4Parts _ _ h0 h1).mono ?_; rintro e w' ⟨rfl, rfl⟩; rw [FA.out, PA.out]))
      go_cut [9, 10] (fun t x wx => t = .int .i64 (EA : Int) ∧ x = .int .u64 (XA : Int) ∧ Below w.heap.size w wx)
      case first =>
        by_cases hp : pa = 0
        · obtain ⟨u1, u2⟩ := CA1.out hp
          subst hp
          go_wp2
          go_meet
          exact ⟨int_eq (by omega), int_eq (by omega), hbw⟩
        · obtain ⟨u1, u2⟩ := CA2.out hp
          have U : Hid (_ ∧ _) := ⟨u1, u2⟩
          have hp2 : 0 < pa := by omega
          clear u1 u2
          go_wp2
          go_meet
          exact ⟨int_eq (by have := U.out.1; omega), int_eq (by have := U.out.2; omega), hbw⟩
      case rest =>
        obtain ⟨rfl, rfl, hbw⟩ := hcut
        have EB : (EA : Int) ≤ 2046 := by
          by_cases h : pa = 0
          · have := (CA1.out h).1; omega
          · have := (CA2.out h).1; omega
        go_upto_if 40 with fail
        go_cut [1] (fun t wx => t = .int .i64 (min n 5000) ∧ Below w.heap.size w wx)
        case first =>
          by_cases c1 : 5000 < n
          · have e1 : min n 5000 = 5000 := by omega
            go_wp2
            go_meet
            exact ⟨int_eq e1.symm, hbw⟩
          · have e1 : min n 5000 = n := by omega
            go_wp2
            go_meet
            exact ⟨int_eq e1.symm, hbw⟩
        case rest =>
          obtain ⟨rfl, hbw⟩ := hcut
          obtain ⟨M, hM⟩ : ∃ M, min n 5000 = M := ⟨_, rfl⟩
          rw [hM]
          have N0 : -5000 ≤ N := by have := HN.out; omega
          have N1 : N ≤ 5000 := by have := HN.out; omega
          have MN : M < -5000 ∧ N = -5000 ∨ ¬ M < -5000 ∧ N = M := by have := HN.out; omega
          clear hM HN
          rcases MN with ⟨c2, rfl⟩ | ⟨c2, rfl⟩
          all_goals
            go_wp2_with (first | (go_at_call 58; refine (q4Neg _ _ h0 h1).mono ?_; rintro e w' ⟨rfl, rfl⟩; rw [SA.out]) | fail)
            refine (rOf _ _ (by omega) (by omega)).mono ?_
            rintro e w2 ⟨v2, rfl, own2, hb2⟩
            rw [Int.toNat_natCast] at own2
            have hbx := bstep hbw hb2
            clear hb2
            go_wp2_with fail
            refine (r3Round _ _ _ _ _ _ own2.sees (bl_bin _) (by omega) (by omega) (by omega)).mono ?_
            rintro e w9 ⟨B, F, rfl, hB, hF, hb9⟩
            rw [val_bl, numM_false] at hB
            rw [val_bl, flagM_false] at hF
            have HB : Hid (_ = _) := hB
            have HF : Hid (_ = _) := hF
            have hbz := bstep hbx hb9
            clear hB hF hb9
            go_wp2_with fail
            go_region
            all_goals go_wp2
            all_goals go_ret2
            all_goals refine ⟨?_, (bmore hbz _).drew⟩
            all_goals (rw [SP2.out, HB.out, HF.out]; rfl)
    · have SP2 : Hid (S = (a, 0)) := by show _ = _; rw [← SP, if_neg (by simp), hiz, if_pos rfl]
      clear SP hna hia hza hsa hS
      cases ia
      · obtain rfl : za = true := by revert hiz; simp
        go_enter Try.func21, Try.ntmps21
        go_wp2_with fail
        refine (q5Nan1 _ _ _ h0 h1 (by simp [go_sem])).mono ?_
        rintro e w1 ⟨rfl, rfl⟩
        rw [NA.out]
        go_wp2_with (first | (go_at_call 47; refine (q4Inf _ _ h0 h1).mono ?_; rintro e w' ⟨rfl, rfl⟩; rw [IA.out]) | (go_at_call 48; refine (q4Zero _ _ h0 h1).mono ?_; rintro e w' ⟨rfl, rfl⟩; rw [ZA.out]))
        go_ret2
        refine ⟨?_, bmore (Below.refl _ _) _⟩
        rw [SP2.out]
        all_goals rfl
      · go_enter Try.func21, Try.ntmps21
        go_wp2_with fail
        refine (q5Nan1 _ _ _ h0 h1 (by simp [go_sem])).mono ?_
        rintro e w1 ⟨rfl, rfl⟩
        rw [NA.out]
        go_wp2_with (first | (go_at_call 47; refine (q4Inf _ _ h0 h1).mono ?_; rintro e w' ⟨rfl, rfl⟩; rw [IA.out]) | (go_at_call 48; refine (q4Zero _ _ h0 h1).mono ?_; rintro e w' ⟨rfl, rfl⟩; rw [ZA.out]))
        go_ret2
        refine ⟨?_, bmore (Below.refl _ _) _⟩
        rw [SP2.out]
        all_goals rfl
  · have SP2 : Hid (S = (9221120237041090560, nanF a a)) := by show _ = _; rw [← SP, if_pos rfl]
    clear SP hna hia hza hsa hS
    go_enter Try.func21, Try.ntmps21
    go_wp2_with fail
    refine (q5Nan1 _ _ _ h0 h1 (by simp [go_sem])).mono ?_
    rintro e w1 ⟨rfl, rfl⟩
    rw [NA.out]
    go_wp2
    go_ret2
    refine ⟨?_, bmore (Below.refl _ _) _⟩
    rw [SP2.out]
    all_goals rfl
end Go.Proofs.Yteohkpiecidicaa
