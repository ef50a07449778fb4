/-
  What the reference's Mul of layer 4 returns: mulS, at all patterns.
-/
import Derived.Test.YtgpgmnmifhkmbaaRef04C
import Derived.Test.YtgpgmnmifhkmbaaRndM
import Derived.RegionTactic
import Derived.Deep.RegionWith
import Derived.Deep.RegionHeld3
import Derived.ChangeAlike
import Derived.Deep.DeepCutAuto
namespace Go.Proofs.Ytgpgmnmifhkmbaa
open Go.RowKit
set_option linter.unusedVariables false

theorem cut_facts (b : Int) : 0 ≤ b % 4503599627370496 ∧ b % 4503599627370496 < 4503599627370496 ∧ 0 ≤ b / 4503599627370496 % 2048 ∧ b / 4503599627370496 % 2048 < 2048 ∧ (b / 4503599627370496 % 2048 = 0 → rE b = 0 ∧ (rX b : Int) = b % 4503599627370496) ∧ (b / 4503599627370496 % 2048 ≠ 0 → (rE b : Int) = b / 4503599627370496 % 2048 - 1 ∧ (rX b : Int) = b % 4503599627370496 + 4503599627370496) := by
  refine ⟨by omega, by omega, by omega, by omega, fun h => ?_, fun h => ?_⟩
  · unfold rE rX; rw [if_pos h]; omega
  · unfold rE rX; rw [if_neg h]; omega
theorem raw_mul (x y e g : Nat) : numP (x * 2 ^ e * (y * 2 ^ g)) (-2148) = numP (x * y) ((e : Int) + (g : Int) - 2148) ∧ flagP (x * 2 ^ e * (y * 2 ^ g)) (-2148) = flagP (x * y) ((e : Int) + (g : Int) - 2148) := by
  have h : x * 2 ^ e * (y * 2 ^ g) = x * y * 2 ^ (e + g) := by rw [Nat.pow_add]; grind
  rw [h, numP_scale, flagP_scale, show (-2148 : Int) + ((e + g : Nat) : Int) = (e : Int) + (g : Int) - 2148 by omega]
  exact ⟨rfl, rfl⟩
set_option maxRecDepth 100000 in
set_option maxHeartbeats 2000000 in
theorem q4Mul (a b : Int) (w : World) (h0 : 0 ≤ a) (h1 : a < 18446744073709551616) (g0 : 0 ≤ b) (g1 : b < 18446744073709551616) :
    Calls Try.prog 24 #[.int .u64 a, .int .u64 b] w fun e w' => e = .returned (.tuple #[.int .u64 (mulS a b).1, .int .i64 (mulS a b).2]) ∧ Below w.heap.size w w' := by
  obtain ⟨na, hna⟩ : ∃ x, isNan a = x := ⟨_, rfl⟩
  obtain ⟨nb, hnb⟩ : ∃ x, isNan b = x := ⟨_, rfl⟩
  obtain ⟨ia, hia⟩ : ∃ x, isInf a = x := ⟨_, rfl⟩
  obtain ⟨ib, hib⟩ : ∃ x, isInf b = x := ⟨_, rfl⟩
  obtain ⟨za, hza⟩ : ∃ x, isZ a = x := ⟨_, rfl⟩
  obtain ⟨zb, hzb⟩ : ∃ x, isZ b = x := ⟨_, rfl⟩
  obtain ⟨sa, hsa⟩ : ∃ x, sgn a = x := ⟨_, rfl⟩
  obtain ⟨sb, hsb⟩ : ∃ x, sgn b = x := ⟨_, rfl⟩
  have NA : Hid (_ = _) := hna
  have NB : Hid (_ = _) := hnb
  have IA : Hid (_ = _) := hia
  have IB : Hid (_ = _) := hib
  have ZA : Hid (_ = _) := hza
  have ZB : Hid (_ = _) := hzb
  have SA : Hid (_ = _) := hsa
  have SB : Hid (_ = _) := hsb
  have NN : Hid ((isNan a || isNan b) = (na || nb)) := by show _ = _; rw [hna, hnb]
  obtain ⟨S, hS⟩ : ∃ S, mulS a b = S := ⟨_, rfl⟩
  rw [hS]
  unfold mulS at hS
  rw [hna, hnb, hia, hib, hza, hzb, hsa, hsb] at hS
  have SP : Hid (_ = S) := hS
  clear hS
  clear hna hnb hia hib hza hzb hsa hsb
  by_cases hn : (na || nb) = true
  · have SP2 : Hid (S = (9221120237041090560, nanF a b)) := by show _ = _; rw [← SP.out, if_pos hn]
    rw [hn] at NN
    clear SP
    go_enter Try.func24, Try.ntmps24
    go_wp2_with fail
    refine (q4Nans _ _ _ _ h0 h1 g0 g1 (by simp [go_sem]) (by simp [go_sem])).mono ?_
    rintro e w1 ⟨rfl, rfl⟩
    rw [NN.out]
    go_wp2
    go_ret2
    refine ⟨?_, bmore (Below.refl _ _) _⟩
    rw [SP2.out]
    all_goals rfl
  · have hn2 : na = false ∧ nb = false := by revert hn; cases na <;> cases nb <;> simp
    obtain ⟨rfl, rfl⟩ := hn2
    rw [show (false || false) = false from rfl] at NN
    clear hn
    cases ia
    · cases ib
      · skip
        have ma := mag_fin a NA.out IA.out
        have mb := mag_fin b NB.out IB.out
        have rva := raw_V a ma
        have rvb := raw_V b mb
        have xa1 := rX_lt a
        have xb1 := rX_lt b
        have ea1 := rE_lt a
        have eb1 := rE_lt b
        have CA := cut_facts a
        have CB := cut_facts b
        obtain ⟨XA, hXA⟩ : ∃ x, rX a = x := ⟨_, rfl⟩
        obtain ⟨XB, hXB⟩ : ∃ x, rX b = x := ⟨_, rfl⟩
        obtain ⟨EA, hEA⟩ : ∃ x, rE a = x := ⟨_, rfl⟩
        obtain ⟨EB, hEB⟩ : ∃ x, rE b = x := ⟨_, rfl⟩
        obtain ⟨fa, hfa⟩ : ∃ x, a % 4503599627370496 = x := ⟨_, rfl⟩
        obtain ⟨fb, hfb⟩ : ∃ x, b % 4503599627370496 = x := ⟨_, rfl⟩
        obtain ⟨pa, hpa⟩ : ∃ x, a / 4503599627370496 % 2048 = x := ⟨_, rfl⟩
        obtain ⟨pb, hpb⟩ : ∃ x, b / 4503599627370496 % 2048 = x := ⟨_, rfl⟩
        rw [hXA, hEA, hfa, hpa] at CA
        rw [hXB, hEB, hfb, hpb] at CB
        rw [hXA] at xa1
        rw [hXB] at xb1
        rw [hEA] at ea1
        rw [hEB] at eb1
        rw [hXA, hEA] at rva
        rw [hXB, hEB] at rvb
        have FA : Hid (_ = _) := hfa
        have FB : Hid (_ = _) := hfb
        have PA : Hid (_ = _) := hpa
        have PB : Hid (_ = _) := hpb
        obtain ⟨fa0, fa1, pa0, pa1, ca1, ca2⟩ := CA
        obtain ⟨fb0, fb1, pb0, pb1, cb1, cb2⟩ := CB
        have CA1 : Hid (_ → _) := ca1
        have CA2 : Hid (_ → _) := ca2
        have CB1 : Hid (_ → _) := cb1
        have CB2 : Hid (_ → _) := cb2
        have RVA : Hid (_ = _) := rva
        have RVB : Hid (_ = _) := rvb
        have la : (bl XA).length ≤ 53 := (bl_length_le XA 53).2 (by omega)
        have lb : (bl XB).length ≤ 53 := (bl_length_le XB 53).2 (by omega)
        have wa : IntKind.u64.wrap (fa + 4503599627370496) = fa + 4503599627370496 := by rw [IntKind.wrap_u64]; omega
        have wb : IntKind.u64.wrap (fb + 4503599627370496) = fb + 4503599627370496 := by rw [IntKind.wrap_u64]; omega
        have SP2 : Hid (S = (sgnB (sa != sb) + ((numP (XA * XB) ((EA : Int) + (EB : Int) - 2148) : Nat) : Int), ((flagP (XA * XB) ((EA : Int) + (EB : Int) - 2148) : Nat) : Int))) := by
          show _ = _
          rw [← SP.out, if_neg (by simp), if_neg (by simp), if_neg (by simp), rva, rvb, (raw_mul _ _ _ _).1, (raw_mul _ _ _ _).2]
        have lab : (bl (XA * XB)).length ≤ 106 := by
          rw [bl_length_le] at la lb ⊢
          rw [show 106 = 53 + 53 from rfl, Nat.pow_add]
          exact Nat.mul_lt_mul'' la lb
        have hne1 : IntKind.i64.wrap ((EA : Int) + (EB : Int)) = (EA : Int) + (EB : Int) := by rw [IntKind.wrap_i64]; omega
        have HXA : Hid (_ = _) := hXA
        have HXB : Hid (_ = _) := hXB
        clear rva rvb hXA hXB hEA hEB hfa hfb hpa hpb ca1 ca2 cb1 cb2
        clear SP
        cases za
        all_goals
          go_enter Try.func24, Try.ntmps24
          go_wp2_with fail
          refine (q4Nans _ _ _ _ h0 h1 g0 g1 (by simp [go_sem]) (by simp [go_sem])).mono ?_
          rintro e w1 ⟨rfl, hw1⟩
          have hbw : Below w.heap.size w w1 := by rw [hw1]; exact bmore (Below.refl _ _) _
          clear hw1
          rw [NN.out]
          go_upto_if 65 with (first | (go_at_call_of 55 a; refine (q4Neg _ _ h0 h1).mono ?_; rintro e w' ⟨rfl, rfl⟩; rw [SA.out]) | (go_at_call_of 55 b; refine (q4Neg _ _ g0 g1).mono ?_; rintro e w' ⟨rfl, rfl⟩; rw [SB.out]) | (go_at_call_of 52 a; refine (q4Inf _ _ h0 h1).mono ?_; rintro e w' ⟨rfl, rfl⟩; rw [IA.out]) | (go_at_call_of 52 b; refine (q4Inf _ _ g0 g1).mono ?_; rintro e w' ⟨rfl, rfl⟩; rw [IB.out]) | (go_at_call_of 53 a; refine (q4Zero _ _ h0 h1).mono ?_; rintro e w' ⟨rfl, rfl⟩; rw [ZA.out]) | (go_at_call_of 53 b; refine (q4Zero _ _ g0 g1).mono ?_; rintro e w' ⟨rfl, rfl⟩; rw [ZB.out]) | (go_at_call_of 58 a; refine (q4Parts _ _ h0 h1).mono ?_; rintro e w' ⟨rfl, rfl⟩; rw [FA.out, PA.out]) | (go_at_call_of 58 b; refine (q4Parts _ _ g0 g1).mono ?_; rintro e w' ⟨rfl, rfl⟩; rw [FB.out, PB.out]))
          go_cut [10, 11] (fun t x wx => t = .int .i64 (EA : Int) ∧ x = .int .u64 (XA : Int) ∧ Below w.heap.size w wx)
          case first =>
            by_cases hp : pa = 0
            · obtain ⟨u1, u2⟩ := CA1.out hp
              subst hp
              go_wp2
              go_meet
              exact ⟨int_eq (by omega), int_eq (by omega), hbw⟩
            · obtain ⟨u1, u2⟩ := CA2.out hp
              have U : Hid (_ ∧ _) := ⟨u1, u2⟩
              have hp2 : 0 < pa := by omega
              clear u1 u2
              go_wp2
              go_meet
              exact ⟨int_eq (by have := U.out.1; omega), int_eq (by have := U.out.2; omega), hbw⟩
          case rest =>
            obtain ⟨rfl, rfl, hbw⟩ := hcut
            go_upto_if 71 with fail
            go_cut [13, 14] (fun t x wx => t = .int .i64 (EB : Int) ∧ x = .int .u64 (XB : Int) ∧ Below w.heap.size w wx)
            case first =>
              by_cases hp : pb = 0
              · obtain ⟨u1, u2⟩ := CB1.out hp
                subst hp
                go_wp2
                go_meet
                exact ⟨int_eq (by omega), int_eq (by omega), hbw⟩
              · obtain ⟨u1, u2⟩ := CB2.out hp
                have U : Hid (_ ∧ _) := ⟨u1, u2⟩
                have hp2 : 0 < pb := by omega
                clear u1 u2
                go_wp2
                go_meet
                exact ⟨int_eq (by have := U.out.1; omega), int_eq (by have := U.out.2; omega), hbw⟩
            case rest =>
              obtain ⟨rfl, rfl, hbw⟩ := hcut
              go_wp2_with fail
              refine (rOf _ _ (by omega) (by omega)).mono ?_
              rintro e w2 ⟨v2, rfl, own2, hb2⟩
              rw [Int.toNat_natCast] at own2
              go_wp2_with fail
              refine (rOf _ _ (by omega) (by omega)).mono ?_
              rintro e w3 ⟨v3, rfl, own3, hb3⟩
              rw [Int.toNat_natCast] at own3
              replace own2 := own2.below hb3
              go_wp2_with fail
              refine (rMul _ _ _ _ _ own2.sees own3.sees (bl_bin _) (bl_bin _) (by omega) (by omega)).mono ?_
              rintro e w4 ⟨v4, rfl, own4, hb4⟩
              rw [val_bl, val_bl] at own4
              have hbx := bstep (bstep (bstep hbw hb2) hb3) hb4
              clear hb2 hb3 hb4 own2 own3
              go_wp2_with fail
              refine (r3Round _ _ _ _ ((EA : Int) + (EB : Int) - 2148) _ own4.sees (bl_bin _) (by omega) (by omega) (by omega)).mono ?_
              rintro e w9 ⟨B, F, rfl, hB, hF, hb9⟩
              rw [val_bl, numM_false] at hB
              rw [val_bl, flagM_false] at hF
              have HB : Hid (_ = _) := hB
              have HF : Hid (_ = _) := hF
              have hbz := bstep hbx hb9
              clear hB hF hb9
              go_wp2_with fail
              go_region
              all_goals go_wp2
              all_goals go_ret2
              all_goals refine ⟨?_, (bmore hbz _).drew⟩
              all_goals (rw [SP2.out, HB.out, HF.out]; rfl)
      · cases za
        · have hzb : zb = false := by rw [← ZB.out]; exact inf_not_z b IB.out
          subst hzb
          have SP2 : Hid (S = (sgnB (sa != sb) + 9218868437227405312, 0)) := by show _ = _; rw [← SP.out]; rfl
          clear SP
          go_enter Try.func24, Try.ntmps24
          go_wp2_with fail
          refine (q4Nans _ _ _ _ h0 h1 g0 g1 (by simp [go_sem]) (by simp [go_sem])).mono ?_
          rintro e w1 ⟨rfl, rfl⟩
          rw [NN.out]
          go_wp2_with (first | (go_at_call_of 55 a; refine (q4Neg _ _ h0 h1).mono ?_; rintro e w' ⟨rfl, rfl⟩; rw [SA.out]) | (go_at_call_of 55 b; refine (q4Neg _ _ g0 g1).mono ?_; rintro e w' ⟨rfl, rfl⟩; rw [SB.out]) | (go_at_call_of 52 a; refine (q4Inf _ _ h0 h1).mono ?_; rintro e w' ⟨rfl, rfl⟩; rw [IA.out]) | (go_at_call_of 52 b; refine (q4Inf _ _ g0 g1).mono ?_; rintro e w' ⟨rfl, rfl⟩; rw [IB.out]) | (go_at_call_of 53 a; refine (q4Zero _ _ h0 h1).mono ?_; rintro e w' ⟨rfl, rfl⟩; rw [ZA.out]) | (go_at_call_of 53 b; refine (q4Zero _ _ g0 g1).mono ?_; rintro e w' ⟨rfl, rfl⟩; rw [ZB.out]) | (go_at_call 54; refine (q4Signed _ _ _ (by omega) (by omega)).mono ?_; rintro e w' ⟨rfl, rfl⟩))
          go_ret2
          refine ⟨?_, bmore (Below.refl _ _) _⟩
          rw [SP2.out]
          all_goals rfl
        · skip
          have SP2 : Hid (S = (9221120237041090560, 16)) := by show _ = _; rw [← SP.out]; rfl
          clear SP
          go_enter Try.func24, Try.ntmps24
          go_wp2_with fail
          refine (q4Nans _ _ _ _ h0 h1 g0 g1 (by simp [go_sem]) (by simp [go_sem])).mono ?_
          rintro e w1 ⟨rfl, rfl⟩
          rw [NN.out]
          go_wp2_with (first | (go_at_call_of 55 a; refine (q4Neg _ _ h0 h1).mono ?_; rintro e w' ⟨rfl, rfl⟩; rw [SA.out]) | (go_at_call_of 55 b; refine (q4Neg _ _ g0 g1).mono ?_; rintro e w' ⟨rfl, rfl⟩; rw [SB.out]) | (go_at_call_of 52 a; refine (q4Inf _ _ h0 h1).mono ?_; rintro e w' ⟨rfl, rfl⟩; rw [IA.out]) | (go_at_call_of 52 b; refine (q4Inf _ _ g0 g1).mono ?_; rintro e w' ⟨rfl, rfl⟩; rw [IB.out]) | (go_at_call_of 53 a; refine (q4Zero _ _ h0 h1).mono ?_; rintro e w' ⟨rfl, rfl⟩; rw [ZA.out]) | (go_at_call_of 53 b; refine (q4Zero _ _ g0 g1).mono ?_; rintro e w' ⟨rfl, rfl⟩; rw [ZB.out]) | (go_at_call 54; refine (q4Signed _ _ _ (by omega) (by omega)).mono ?_; rintro e w' ⟨rfl, rfl⟩))
          go_ret2
          refine ⟨?_, bmore (Below.refl _ _) _⟩
          rw [SP2.out]
          all_goals rfl
    · have hza : za = false := by rw [← ZA.out]; exact inf_not_z a IA.out
      subst hza
      cases zb
      · skip
        have SP2 : Hid (S = (sgnB (sa != sb) + 9218868437227405312, 0)) := by show _ = _; rw [← SP.out]; cases ib <;> rfl
        clear SP
        go_enter Try.func24, Try.ntmps24
        go_wp2_with fail
        refine (q4Nans _ _ _ _ h0 h1 g0 g1 (by simp [go_sem]) (by simp [go_sem])).mono ?_
        rintro e w1 ⟨rfl, rfl⟩
        rw [NN.out]
        go_wp2_with (first | (go_at_call_of 55 a; refine (q4Neg _ _ h0 h1).mono ?_; rintro e w' ⟨rfl, rfl⟩; rw [SA.out]) | (go_at_call_of 55 b; refine (q4Neg _ _ g0 g1).mono ?_; rintro e w' ⟨rfl, rfl⟩; rw [SB.out]) | (go_at_call_of 52 a; refine (q4Inf _ _ h0 h1).mono ?_; rintro e w' ⟨rfl, rfl⟩; rw [IA.out]) | (go_at_call_of 52 b; refine (q4Inf _ _ g0 g1).mono ?_; rintro e w' ⟨rfl, rfl⟩; rw [IB.out]) | (go_at_call_of 53 a; refine (q4Zero _ _ h0 h1).mono ?_; rintro e w' ⟨rfl, rfl⟩; rw [ZA.out]) | (go_at_call_of 53 b; refine (q4Zero _ _ g0 g1).mono ?_; rintro e w' ⟨rfl, rfl⟩; rw [ZB.out]) | (go_at_call 54; refine (q4Signed _ _ _ (by omega) (by omega)).mono ?_; rintro e w' ⟨rfl, rfl⟩))
        go_ret2
        refine ⟨?_, bmore (Below.refl _ _) _⟩
        rw [SP2.out]
        all_goals rfl
      · skip
        have SP2 : Hid (S = (9221120237041090560, 16)) := by show _ = _; rw [← SP.out]; cases ib <;> rfl
        clear SP
        go_enter Try.func24, Try.ntmps24
        go_wp2_with fail
        refine (q4Nans _ _ _ _ h0 h1 g0 g1 (by simp [go_sem]) (by simp [go_sem])).mono ?_
        rintro e w1 ⟨rfl, rfl⟩
        rw [NN.out]
        go_wp2_with (first | (go_at_call_of 55 a; refine (q4Neg _ _ h0 h1).mono ?_; rintro e w' ⟨rfl, rfl⟩; rw [SA.out]) | (go_at_call_of 55 b; refine (q4Neg _ _ g0 g1).mono ?_; rintro e w' ⟨rfl, rfl⟩; rw [SB.out]) | (go_at_call_of 52 a; refine (q4Inf _ _ h0 h1).mono ?_; rintro e w' ⟨rfl, rfl⟩; rw [IA.out]) | (go_at_call_of 52 b; refine (q4Inf _ _ g0 g1).mono ?_; rintro e w' ⟨rfl, rfl⟩; rw [IB.out]) | (go_at_call_of 53 a; refine (q4Zero _ _ h0 h1).mono ?_; rintro e w' ⟨rfl, rfl⟩; rw [ZA.out]) | (go_at_call_of 53 b; refine (q4Zero _ _ g0 g1).mono ?_; rintro e w' ⟨rfl, rfl⟩; rw [ZB.out]) | (go_at_call 54; refine (q4Signed _ _ _ (by omega) (by omega)).mono ?_; rintro e w' ⟨rfl, rfl⟩))
        go_ret2
        refine ⟨?_, bmore (Below.refl _ _) _⟩
        rw [SP2.out]
        all_goals rfl
end Go.Proofs.Ytgpgmnmifhkmbaa
