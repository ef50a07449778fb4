/-
  What the reference's Div of layer 4 returns: divS, at all patterns.
-/
import Derived.Test.YtbflkcpcbnkpbaaRef04C
import Derived.Test.YtbflkcpcbnkpbaaRndM
import Derived.Test.YtbflkcpcbnkpbaaRef04E
import Derived.RegionTactic
import Derived.Deep.RegionWith
import Derived.Deep.RegionHeld3
import Derived.ChangeAlike
import Derived.Deep.DeepCutAuto
namespace Go.Proofs.Ytbflkcpcbnkpbaa
open Go.RowKit
set_option linter.unusedVariables false

theorem raw_quo (x y e g : Nat) (hx : 0 < x) (hy : 0 < y) (hy1 : y < 9007199254740992) (he : e ≤ 2500) (hg : g ≤ 2500) :
    quoN (x * 2 ^ e) (y * 2 ^ g) = numM (2 ^ 200 * x / y) ((e : Int) - (g : Int) - 200) (decide (2 ^ 200 * x % y ≠ 0)) ∧ quoF (x * 2 ^ e) (y * 2 ^ g) = flagM (2 ^ 200 * x / y) ((e : Int) - (g : Int) - 200) (decide (2 ^ 200 * x % y ≠ 0)) := by
  have hq : 18014398509481984 ≤ x * 2 ^ 200 / (y * 2 ^ 0) := by
    rw [Nat.pow_zero, Nat.mul_one, Nat.le_div_iff_mul_le hy]
    have h1 : 18014398509481984 * y ≤ 18014398509481984 * 9007199254740992 := Nat.mul_le_mul_left _ (by omega)
    have h2 : 18014398509481984 * 9007199254740992 ≤ 1 * 2 ^ 200 := by decide
    exact Nat.le_trans h1 (Nat.le_trans h2 (Nat.mul_le_mul_right _ hx))
  have q := quo_lay x y e g 200 0 ((e : Int) - (g : Int) - 200) hx hy hq (by omega) he hg (by omega)
  rw [Nat.pow_zero, Nat.mul_one, Nat.mul_comm x] at q
  exact ⟨q.1.symm, q.2.symm⟩
set_option maxRecDepth 100000 in
set_option maxHeartbeats 2000000 in
theorem q4Div (a b : Int) (w : World) (h0 : 0 ≤ a) (h1 : a < 18446744073709551616) (g0 : 0 ≤ b) (g1 : b < 18446744073709551616) :
    Calls Try.prog 43 #[.int .u64 a, .int .u64 b] w fun e w' => e = .returned (.tuple #[.int .u64 (divS a b).1, .int .i64 (divS a b).2]) ∧ Below w.heap.size w w' := by
  obtain ⟨na, hna⟩ : ∃ x, isNan a = x := ⟨_, rfl⟩
  obtain ⟨nb, hnb⟩ : ∃ x, isNan b = x := ⟨_, rfl⟩
  obtain ⟨ia, hia⟩ : ∃ x, isInf a = x := ⟨_, rfl⟩
  obtain ⟨ib, hib⟩ : ∃ x, isInf b = x := ⟨_, rfl⟩
  obtain ⟨za, hza⟩ : ∃ x, isZ a = x := ⟨_, rfl⟩
  obtain ⟨zb, hzb⟩ : ∃ x, isZ b = x := ⟨_, rfl⟩
  obtain ⟨sa, hsa⟩ : ∃ x, sgn a = x := ⟨_, rfl⟩
  obtain ⟨sb, hsb⟩ : ∃ x, sgn b = x := ⟨_, rfl⟩
  have NA : Hid (_ = _) := hna
  have NB : Hid (_ = _) := hnb
  have IA : Hid (_ = _) := hia
  have IB : Hid (_ = _) := hib
  have ZA : Hid (_ = _) := hza
  have ZB : Hid (_ = _) := hzb
  have SA : Hid (_ = _) := hsa
  have SB : Hid (_ = _) := hsb
  have NN : Hid ((isNan a || isNan b) = (na || nb)) := by show _ = _; rw [hna, hnb]
  obtain ⟨S, hS⟩ : ∃ S, divS a b = S := ⟨_, rfl⟩
  rw [hS]
  unfold divS at hS
  rw [hna, hnb, hia, hib, hza, hzb, hsa, hsb] at hS
  have SP : Hid (_ = S) := hS
  clear hS
  clear hna hnb hia hib hza hzb hsa hsb
  by_cases hn : (na || nb) = true
  · have SP2 : Hid (S = (9221120237041090560, nanF a b)) := by show _ = _; rw [← SP.out, if_pos hn]
    rw [hn] at NN
    clear SP
    go_enter Try.func43, Try.ntmps43
    go_wp2_with fail
    refine (q4Nans _ _ _ _ h0 h1 g0 g1 (by simp [go_sem]) (by simp [go_sem])).mono ?_
    rintro e w1 ⟨rfl, rfl⟩
    rw [NN.out]
    go_wp2
    go_ret2
    refine ⟨?_, bmore (Below.refl _ _) _⟩
    rw [SP2.out]
    all_goals rfl
  · have hn2 : na = false ∧ nb = false := by revert hn; cases na <;> cases nb <;> simp
    obtain ⟨rfl, rfl⟩ := hn2
    rw [show (false || false) = false from rfl] at NN
    clear hn
    cases ia
    · cases ib
      · cases za
        · cases zb
          · skip
            have ma := mag_fin a NA.out IA.out
            have mb := mag_fin b NB.out IB.out
            have rva := raw_V a ma
            have rvb := raw_V b mb
            have xa1 := rX_lt a
            have xb1 := rX_lt b
            have ea1 := rE_lt a
            have eb1 := rE_lt b
            have CA := cut_facts a
            have CB := cut_facts b
            obtain ⟨XA, hXA⟩ : ∃ x, rX a = x := ⟨_, rfl⟩
            obtain ⟨XB, hXB⟩ : ∃ x, rX b = x := ⟨_, rfl⟩
            obtain ⟨EA, hEA⟩ : ∃ x, rE a = x := ⟨_, rfl⟩
            obtain ⟨EB, hEB⟩ : ∃ x, rE b = x := ⟨_, rfl⟩
            obtain ⟨fa, hfa⟩ : ∃ x, a % 4503599627370496 = x := ⟨_, rfl⟩
            obtain ⟨fb, hfb⟩ : ∃ x, b % 4503599627370496 = x := ⟨_, rfl⟩
            obtain ⟨pa, hpa⟩ : ∃ x, a / 4503599627370496 % 2048 = x := ⟨_, rfl⟩
            obtain ⟨pb, hpb⟩ : ∃ x, b / 4503599627370496 % 2048 = x := ⟨_, rfl⟩
            rw [hXA, hEA, hfa, hpa] at CA
            rw [hXB, hEB, hfb, hpb] at CB
            rw [hXA] at xa1
            rw [hXB] at xb1
            rw [hEA] at ea1
            rw [hEB] at eb1
            rw [hXA, hEA] at rva
            rw [hXB, hEB] at rvb
            have FA : Hid (_ = _) := hfa
            have FB : Hid (_ = _) := hfb
            have PA : Hid (_ = _) := hpa
            have PB : Hid (_ = _) := hpb
            obtain ⟨fa0, fa1, pa0, pa1, ca1, ca2⟩ := CA
            obtain ⟨fb0, fb1, pb0, pb1, cb1, cb2⟩ := CB
            have CA1 : Hid (_ → _) := ca1
            have CA2 : Hid (_ → _) := ca2
            have CB1 : Hid (_ → _) := cb1
            have CB2 : Hid (_ → _) := cb2
            have RVA : Hid (_ = _) := rva
            have RVB : Hid (_ = _) := rvb
            have la : (bl XA).length ≤ 53 := (bl_length_le XA 53).2 (by omega)
            have lb : (bl XB).length ≤ 53 := (bl_length_le XB 53).2 (by omega)
            have wa : IntKind.u64.wrap (fa + 4503599627370496) = fa + 4503599627370496 := by rw [IntKind.wrap_u64]; omega
            have wb : IntKind.u64.wrap (fb + 4503599627370496) = fb + 4503599627370496 := by rw [IntKind.wrap_u64]; omega
            have xa0 : 0 < XA := by
              rcases Nat.eq_zero_or_pos XA with k | k
              · have h1 := (rX_zero a ma).1 (hXA.trans k)
                have h2 := ZA.out
                unfold isZ at h2
                rw [h1] at h2
                simp at h2
              · exact k
            have xb0 : 0 < XB := by
              rcases Nat.eq_zero_or_pos XB with k | k
              · have h1 := (rX_zero b mb).1 (hXB.trans k)
                have h2 := ZB.out
                unfold isZ at h2
                rw [h1] at h2
                simp at h2
              · exact k
            have SP2 : Hid (S = (sgnB (sa != sb) + ((numM (2 ^ 200 * XA / XB) ((EA : Int) - (EB : Int) - 200) (decide (2 ^ 200 * XA % XB ≠ 0)) : Nat) : Int), ((flagM (2 ^ 200 * XA / XB) ((EA : Int) - (EB : Int) - 200) (decide (2 ^ 200 * XA % XB ≠ 0)) : Nat) : Int))) := by
              show _ = _
              rw [← SP.out, if_neg (by simp), if_neg (by simp), if_neg (by simp), if_neg (by simp), if_neg (by simp), rva, rvb, (raw_quo _ _ _ _ xa0 xb0 xb1 (by omega) (by omega)).1, (raw_quo _ _ _ _ xa0 xb0 xb1 (by omega) (by omega)).2]
            have lup := up_len (bl XA) 200 (bl_bin _)
            rw [val_bl] at lup
            have lq : (bl (2 ^ 200 * XA / XB)).length ≤ 300 := Nat.le_trans (len_mono _ _ (Nat.div_le_self _ _)) (by omega)
            have HXA : Hid (_ = _) := hXA
            have HXB : Hid (_ = _) := hXB
            clear rva rvb hXA hXB hEA hEB hfa hfb hpa hpb ca1 ca2 cb1 cb2
            clear SP
            go_enter Try.func43, Try.ntmps43
            go_wp2_with fail
            refine (q4Nans _ _ _ _ h0 h1 g0 g1 (by simp [go_sem]) (by simp [go_sem])).mono ?_
            rintro e w1 ⟨rfl, hw1⟩
            have hbw : Below w.heap.size w w1 := by rw [hw1]; exact bmore (Below.refl _ _) _
            clear hw1
            rw [NN.out]
            go_upto_if 75 with (first | (go_at_call_of 69 a; refine (q4Neg _ _ h0 h1).mono ?_; rintro e w' ⟨rfl, rfl⟩; rw [SA.out]) | (go_at_call_of 69 b; refine (q4Neg _ _ g0 g1).mono ?_; rintro e w' ⟨rfl, rfl⟩; rw [SB.out]) | (go_at_call_of 66 a; refine (q4Inf _ _ h0 h1).mono ?_; rintro e w' ⟨rfl, rfl⟩; rw [IA.out]) | (go_at_call_of 66 b; refine (q4Inf _ _ g0 g1).mono ?_; rintro e w' ⟨rfl, rfl⟩; rw [IB.out]) | (go_at_call_of 67 a; refine (q4Zero _ _ h0 h1).mono ?_; rintro e w' ⟨rfl, rfl⟩; rw [ZA.out]) | (go_at_call_of 67 b; refine (q4Zero _ _ g0 g1).mono ?_; rintro e w' ⟨rfl, rfl⟩; rw [ZB.out]) | (go_at_call_of 73 a; refine (q4Parts _ _ h0 h1).mono ?_; rintro e w' ⟨rfl, rfl⟩; rw [FA.out, PA.out]) | (go_at_call_of 73 b; refine (q4Parts _ _ g0 g1).mono ?_; rintro e w' ⟨rfl, rfl⟩; rw [FB.out, PB.out]))
            go_cut [10, 11] (fun t x wx => t = .int .i64 (EA : Int) ∧ x = .int .u64 (XA : Int) ∧ Below w.heap.size w wx)
            case first =>
              by_cases hp : pa = 0
              · obtain ⟨u1, u2⟩ := CA1.out hp
                subst hp
                go_wp2
                go_meet
                exact ⟨int_eq (by omega), int_eq (by omega), hbw⟩
              · obtain ⟨u1, u2⟩ := CA2.out hp
                have U : Hid (_ ∧ _) := ⟨u1, u2⟩
                have hp2 : 0 < pa := by omega
                clear u1 u2
                go_wp2
                go_meet
                exact ⟨int_eq (by have := U.out.1; omega), int_eq (by have := U.out.2; omega), hbw⟩
            case rest =>
              obtain ⟨rfl, rfl, hbw⟩ := hcut
              go_upto_if 81 with fail
              go_cut [13, 14] (fun t x wx => t = .int .i64 (EB : Int) ∧ x = .int .u64 (XB : Int) ∧ Below w.heap.size w wx)
              case first =>
                by_cases hp : pb = 0
                · obtain ⟨u1, u2⟩ := CB1.out hp
                  subst hp
                  go_wp2
                  go_meet
                  exact ⟨int_eq (by omega), int_eq (by omega), hbw⟩
                · obtain ⟨u1, u2⟩ := CB2.out hp
                  have U : Hid (_ ∧ _) := ⟨u1, u2⟩
                  have hp2 : 0 < pb := by omega
                  clear u1 u2
                  go_wp2
                  go_meet
                  exact ⟨int_eq (by have := U.out.1; omega), int_eq (by have := U.out.2; omega), hbw⟩
              case rest =>
                obtain ⟨rfl, rfl, hbw⟩ := hcut
                go_wp2_with fail
                refine (rOf _ _ (by omega) (by omega)).mono ?_
                rintro e w2 ⟨v2, rfl, own2, hb2⟩
                rw [Int.toNat_natCast] at own2
                go_wp2_with fail
                refine (rUp _ _ _ _ own2.sees (bl_bin _) (by omega) (by omega)).mono ?_
                rintro e w3 ⟨v3, rfl, own3, hb3⟩
                rw [val_bl, show (200 : Int).toNat = 200 from rfl] at own3
                have hbx := bstep (bstep hbw hb2) hb3
                clear hb2 hb3 own2
                obtain ⟨U, hU⟩ : ∃ U, 2 ^ 200 * XA = U := ⟨_, rfl⟩
                rw [hU] at own3 lup lq SP2
                clear hU
                go_wp2_with fail
                refine (rOf _ _ (by omega) (by omega)).mono ?_
                rintro e w4 ⟨v4, rfl, own4, hb4⟩
                rw [Int.toNat_natCast] at own4
                replace own3 := own3.below hb4
                replace hbx := bstep hbx hb4
                clear hb4
                go_wp2_with fail
                refine (rDiv _ _ _ _ _ own3.sees own4.sees (bl_bin _) (bl_bin _) (by omega) (by omega) (by rw [val_bl]; exact xb0)).mono ?_
                rintro e w5 ⟨v5, v6, rfl, own5, own6, hb5⟩
                rw [val_bl, val_bl] at own5 own6
                replace hbx := bstep hbx hb5
                clear hb5 own3 own4
                obtain ⟨Q, hQ⟩ : ∃ Q, U / XB = Q := ⟨_, rfl⟩
                obtain ⟨T, hT⟩ : ∃ T, U % XB = T := ⟨_, rfl⟩
                rw [hQ] at own5 lq SP2
                rw [hT] at own6 SP2
                clear hQ hT
                obtain ⟨b6, o6, c6, rfl, hbb6, hcc6, hm6, hcell6⟩ := own6.sees
                clear hcell6 own6
                obtain ⟨L6, hL6⟩ : ∃ L, (bl T).length = L := ⟨_, rfl⟩
                rw [hL6] at hcc6 ⊢
                by_cases hT0 : T = 0
                · have h0l : L6 = 0 := by rw [← hL6]; exact (bl_nil_iff _).2 hT0
                  have SP3 : Hid (S = (sgnB (sa != sb) + ((numM Q ((EA : Int) - (EB : Int) - 200) false : Nat) : Int), ((flagM Q ((EA : Int) - (EB : Int) - 200) false : Nat) : Int))) := by
                    show _ = _
                    rw [SP2.out, decide_eq_false (fun k => k hT0)]
                  clear hL6 hT0
                  subst h0l
                  go_wp2_with fail
                  refine (r3Round _ _ _ _ ((EA : Int) - (EB : Int) - 200) _ own5.sees (bl_bin _) (by omega) (by omega) (by omega)).mono ?_
                  rintro e w9 ⟨B, F, rfl, hB, hF, hb9⟩
                  rw [val_bl] at hB
                  rw [val_bl] at hF
                  have HB : Hid (_ = _) := hB
                  have HF : Hid (_ = _) := hF
                  have hbz := bstep hbx hb9
                  clear hB hF hb9
                  go_wp2_with fail
                  go_region
                  all_goals go_wp2
                  all_goals go_ret2
                  all_goals refine ⟨?_, (bmore hbz _).drew⟩
                  all_goals (rw [SP3.out, HB.out, HF.out]; rfl)
                · have h0l : 0 < L6 := by rw [← hL6]; exact (bl_length_lt _ 0).2 (by rw [Nat.pow_zero]; omega)
                  have h0i : (0 : Int) < (L6 : Int) := by omega
                  have SP3 : Hid (S = (sgnB (sa != sb) + ((numM Q ((EA : Int) - (EB : Int) - 200) true : Nat) : Int), ((flagM Q ((EA : Int) - (EB : Int) - 200) true : Nat) : Int))) := by
                    show _ = _
                    rw [SP2.out, decide_eq_true hT0]
                  clear hL6 hT0
                  go_wp2_with fail
                  refine (r3Round _ _ _ _ ((EA : Int) - (EB : Int) - 200) _ own5.sees (bl_bin _) (by omega) (by omega) (by omega)).mono ?_
                  rintro e w9 ⟨B, F, rfl, hB, hF, hb9⟩
                  rw [val_bl] at hB
                  rw [val_bl] at hF
                  have HB : Hid (_ = _) := hB
                  have HF : Hid (_ = _) := hF
                  have hbz := bstep hbx hb9
                  clear hB hF hb9
                  go_wp2_with fail
                  go_region
                  all_goals go_wp2
                  all_goals go_ret2
                  all_goals refine ⟨?_, (bmore hbz _).drew⟩
                  all_goals (rw [SP3.out, HB.out, HF.out]; rfl)
          · skip
            have SP2 : Hid (S = (sgnB (sa != sb) + 9218868437227405312, 8)) := by show _ = _; rw [← SP.out]; rfl
            clear SP
            go_enter Try.func43, Try.ntmps43
            go_wp2_with fail
            refine (q4Nans _ _ _ _ h0 h1 g0 g1 (by simp [go_sem]) (by simp [go_sem])).mono ?_
            rintro e w1 ⟨rfl, rfl⟩
            rw [NN.out]
            go_wp2_with (first | (go_at_call_of 69 a; refine (q4Neg _ _ h0 h1).mono ?_; rintro e w' ⟨rfl, rfl⟩; rw [SA.out]) | (go_at_call_of 69 b; refine (q4Neg _ _ g0 g1).mono ?_; rintro e w' ⟨rfl, rfl⟩; rw [SB.out]) | (go_at_call_of 66 a; refine (q4Inf _ _ h0 h1).mono ?_; rintro e w' ⟨rfl, rfl⟩; rw [IA.out]) | (go_at_call_of 66 b; refine (q4Inf _ _ g0 g1).mono ?_; rintro e w' ⟨rfl, rfl⟩; rw [IB.out]) | (go_at_call_of 67 a; refine (q4Zero _ _ h0 h1).mono ?_; rintro e w' ⟨rfl, rfl⟩; rw [ZA.out]) | (go_at_call_of 67 b; refine (q4Zero _ _ g0 g1).mono ?_; rintro e w' ⟨rfl, rfl⟩; rw [ZB.out]) | (go_at_call 68; refine (q4Signed _ _ _ (by omega) (by omega)).mono ?_; rintro e w' ⟨rfl, rfl⟩))
            go_ret2
            refine ⟨?_, bmore (Below.refl _ _) _⟩
            rw [SP2.out]
            all_goals rfl
        · cases zb
          · skip
            have SP2 : Hid (S = (sgnB (sa != sb), 0)) := by show _ = _; rw [← SP.out]; rfl
            clear SP
            go_enter Try.func43, Try.ntmps43
            go_wp2_with fail
            refine (q4Nans _ _ _ _ h0 h1 g0 g1 (by simp [go_sem]) (by simp [go_sem])).mono ?_
            rintro e w1 ⟨rfl, rfl⟩
            rw [NN.out]
            go_wp2_with (first | (go_at_call_of 69 a; refine (q4Neg _ _ h0 h1).mono ?_; rintro e w' ⟨rfl, rfl⟩; rw [SA.out]) | (go_at_call_of 69 b; refine (q4Neg _ _ g0 g1).mono ?_; rintro e w' ⟨rfl, rfl⟩; rw [SB.out]) | (go_at_call_of 66 a; refine (q4Inf _ _ h0 h1).mono ?_; rintro e w' ⟨rfl, rfl⟩; rw [IA.out]) | (go_at_call_of 66 b; refine (q4Inf _ _ g0 g1).mono ?_; rintro e w' ⟨rfl, rfl⟩; rw [IB.out]) | (go_at_call_of 67 a; refine (q4Zero _ _ h0 h1).mono ?_; rintro e w' ⟨rfl, rfl⟩; rw [ZA.out]) | (go_at_call_of 67 b; refine (q4Zero _ _ g0 g1).mono ?_; rintro e w' ⟨rfl, rfl⟩; rw [ZB.out]) | (go_at_call 68; refine (q4Signed _ _ _ (by omega) (by omega)).mono ?_; rintro e w' ⟨rfl, rfl⟩))
            go_ret2
            refine ⟨?_, bmore (Below.refl _ _) _⟩
            rw [SP2.out]
            refine ret_eq (tup2 (int_eq ?_) rfl)
            first | rfl | (simp; done) | omega
          · skip
            have SP2 : Hid (S = (9221120237041090560, 16)) := by show _ = _; rw [← SP.out]; rfl
            clear SP
            go_enter Try.func43, Try.ntmps43
            go_wp2_with fail
            refine (q4Nans _ _ _ _ h0 h1 g0 g1 (by simp [go_sem]) (by simp [go_sem])).mono ?_
            rintro e w1 ⟨rfl, rfl⟩
            rw [NN.out]
            go_wp2_with (first | (go_at_call_of 69 a; refine (q4Neg _ _ h0 h1).mono ?_; rintro e w' ⟨rfl, rfl⟩; rw [SA.out]) | (go_at_call_of 69 b; refine (q4Neg _ _ g0 g1).mono ?_; rintro e w' ⟨rfl, rfl⟩; rw [SB.out]) | (go_at_call_of 66 a; refine (q4Inf _ _ h0 h1).mono ?_; rintro e w' ⟨rfl, rfl⟩; rw [IA.out]) | (go_at_call_of 66 b; refine (q4Inf _ _ g0 g1).mono ?_; rintro e w' ⟨rfl, rfl⟩; rw [IB.out]) | (go_at_call_of 67 a; refine (q4Zero _ _ h0 h1).mono ?_; rintro e w' ⟨rfl, rfl⟩; rw [ZA.out]) | (go_at_call_of 67 b; refine (q4Zero _ _ g0 g1).mono ?_; rintro e w' ⟨rfl, rfl⟩; rw [ZB.out]) | (go_at_call 68; refine (q4Signed _ _ _ (by omega) (by omega)).mono ?_; rintro e w' ⟨rfl, rfl⟩))
            go_ret2
            refine ⟨?_, bmore (Below.refl _ _) _⟩
            rw [SP2.out]
            all_goals rfl
      · have hzb : zb = false := by rw [← ZB.out]; exact inf_not_z b IB.out
        subst hzb
        cases za
        all_goals
          have SP2 : Hid (S = (sgnB (sa != sb), 0)) := by show _ = _; rw [← SP.out]; rfl
          clear SP
          go_enter Try.func43, Try.ntmps43
          go_wp2_with fail
          refine (q4Nans _ _ _ _ h0 h1 g0 g1 (by simp [go_sem]) (by simp [go_sem])).mono ?_
          rintro e w1 ⟨rfl, rfl⟩
          rw [NN.out]
          go_wp2_with (first | (go_at_call_of 69 a; refine (q4Neg _ _ h0 h1).mono ?_; rintro e w' ⟨rfl, rfl⟩; rw [SA.out]) | (go_at_call_of 69 b; refine (q4Neg _ _ g0 g1).mono ?_; rintro e w' ⟨rfl, rfl⟩; rw [SB.out]) | (go_at_call_of 66 a; refine (q4Inf _ _ h0 h1).mono ?_; rintro e w' ⟨rfl, rfl⟩; rw [IA.out]) | (go_at_call_of 66 b; refine (q4Inf _ _ g0 g1).mono ?_; rintro e w' ⟨rfl, rfl⟩; rw [IB.out]) | (go_at_call_of 67 a; refine (q4Zero _ _ h0 h1).mono ?_; rintro e w' ⟨rfl, rfl⟩; rw [ZA.out]) | (go_at_call_of 67 b; refine (q4Zero _ _ g0 g1).mono ?_; rintro e w' ⟨rfl, rfl⟩; rw [ZB.out]) | (go_at_call 68; refine (q4Signed _ _ _ (by omega) (by omega)).mono ?_; rintro e w' ⟨rfl, rfl⟩))
          go_ret2
          refine ⟨?_, bmore (Below.refl _ _) _⟩
          rw [SP2.out]
          refine ret_eq (tup2 (int_eq ?_) rfl)
          first | rfl | (simp; done) | omega
    · have hza : za = false := by rw [← ZA.out]; exact inf_not_z a IA.out
      subst hza
      cases ib
      · skip
        have SP2 : Hid (S = (sgnB (sa != sb) + 9218868437227405312, 0)) := by show _ = _; rw [← SP.out]; rfl
        clear SP
        go_enter Try.func43, Try.ntmps43
        go_wp2_with fail
        refine (q4Nans _ _ _ _ h0 h1 g0 g1 (by simp [go_sem]) (by simp [go_sem])).mono ?_
        rintro e w1 ⟨rfl, rfl⟩
        rw [NN.out]
        go_wp2_with (first | (go_at_call_of 69 a; refine (q4Neg _ _ h0 h1).mono ?_; rintro e w' ⟨rfl, rfl⟩; rw [SA.out]) | (go_at_call_of 69 b; refine (q4Neg _ _ g0 g1).mono ?_; rintro e w' ⟨rfl, rfl⟩; rw [SB.out]) | (go_at_call_of 66 a; refine (q4Inf _ _ h0 h1).mono ?_; rintro e w' ⟨rfl, rfl⟩; rw [IA.out]) | (go_at_call_of 66 b; refine (q4Inf _ _ g0 g1).mono ?_; rintro e w' ⟨rfl, rfl⟩; rw [IB.out]) | (go_at_call_of 67 a; refine (q4Zero _ _ h0 h1).mono ?_; rintro e w' ⟨rfl, rfl⟩; rw [ZA.out]) | (go_at_call_of 67 b; refine (q4Zero _ _ g0 g1).mono ?_; rintro e w' ⟨rfl, rfl⟩; rw [ZB.out]) | (go_at_call 68; refine (q4Signed _ _ _ (by omega) (by omega)).mono ?_; rintro e w' ⟨rfl, rfl⟩))
        go_ret2
        refine ⟨?_, bmore (Below.refl _ _) _⟩
        rw [SP2.out]
        all_goals rfl
      · skip
        have SP2 : Hid (S = (9221120237041090560, 16)) := by show _ = _; rw [← SP.out]; rfl
        clear SP
        go_enter Try.func43, Try.ntmps43
        go_wp2_with fail
        refine (q4Nans _ _ _ _ h0 h1 g0 g1 (by simp [go_sem]) (by simp [go_sem])).mono ?_
        rintro e w1 ⟨rfl, rfl⟩
        rw [NN.out]
        go_wp2_with (first | (go_at_call_of 69 a; refine (q4Neg _ _ h0 h1).mono ?_; rintro e w' ⟨rfl, rfl⟩; rw [SA.out]) | (go_at_call_of 69 b; refine (q4Neg _ _ g0 g1).mono ?_; rintro e w' ⟨rfl, rfl⟩; rw [SB.out]) | (go_at_call_of 66 a; refine (q4Inf _ _ h0 h1).mono ?_; rintro e w' ⟨rfl, rfl⟩; rw [IA.out]) | (go_at_call_of 66 b; refine (q4Inf _ _ g0 g1).mono ?_; rintro e w' ⟨rfl, rfl⟩; rw [IB.out]) | (go_at_call_of 67 a; refine (q4Zero _ _ h0 h1).mono ?_; rintro e w' ⟨rfl, rfl⟩; rw [ZA.out]) | (go_at_call_of 67 b; refine (q4Zero _ _ g0 g1).mono ?_; rintro e w' ⟨rfl, rfl⟩; rw [ZB.out]) | (go_at_call 68; refine (q4Signed _ _ _ (by omega) (by omega)).mono ?_; rintro e w' ⟨rfl, rfl⟩))
        go_ret2
        refine ⟨?_, bmore (Below.refl _ _) _⟩
        rw [SP2.out]
        all_goals rfl
end Go.Proofs.Ytbflkcpcbnkpbaa
