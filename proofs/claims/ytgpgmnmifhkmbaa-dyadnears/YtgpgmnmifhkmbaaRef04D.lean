/-
  What the reference's Add of layer 4 returns: addS, at all patterns.
-/
import Derived.Test.YtgpgmnmifhkmbaaRef04C
import Derived.Test.YtgpgmnmifhkmbaaRndM
import Derived.RegionTactic
import Derived.Deep.RegionWith
import Derived.Deep.RegionHeld3
import Derived.ChangeAlike
import Derived.Deep.DeepCutAuto
namespace Go.Proofs.Ytgpgmnmifhkmbaa
open Go.RowKit
set_option linter.unusedVariables false

set_option maxRecDepth 100000 in
set_option maxHeartbeats 2000000 in
theorem q4Add (a b : Int) (w : World) (h0 : 0 ≤ a) (h1 : a < 18446744073709551616) (g0 : 0 ≤ b) (g1 : b < 18446744073709551616) :
    Calls Try.prog 23 #[.int .u64 a, .int .u64 b] w fun e w' => e = .returned (.tuple #[.int .u64 (addS a b).1, .int .i64 (addS a b).2]) ∧ Below w.heap.size w w' := by
  obtain ⟨na, hna⟩ : ∃ x, isNan a = x := ⟨_, rfl⟩
  obtain ⟨nb, hnb⟩ : ∃ x, isNan b = x := ⟨_, rfl⟩
  obtain ⟨ia, hia⟩ : ∃ x, isInf a = x := ⟨_, rfl⟩
  obtain ⟨ib, hib⟩ : ∃ x, isInf b = x := ⟨_, rfl⟩
  obtain ⟨za, hza⟩ : ∃ x, isZ a = x := ⟨_, rfl⟩
  obtain ⟨zb, hzb⟩ : ∃ x, isZ b = x := ⟨_, rfl⟩
  obtain ⟨sa, hsa⟩ : ∃ x, sgn a = x := ⟨_, rfl⟩
  obtain ⟨sb, hsb⟩ : ∃ x, sgn b = x := ⟨_, rfl⟩
  have NA : Hid (_ = _) := hna
  have NB : Hid (_ = _) := hnb
  have IA : Hid (_ = _) := hia
  have IB : Hid (_ = _) := hib
  have ZA : Hid (_ = _) := hza
  have ZB : Hid (_ = _) := hzb
  have SA : Hid (_ = _) := hsa
  have SB : Hid (_ = _) := hsb
  have NN : Hid ((isNan a || isNan b) = (na || nb)) := by show _ = _; rw [hna, hnb]
  obtain ⟨S, hS⟩ : ∃ S, addS a b = S := ⟨_, rfl⟩
  rw [hS]
  unfold addS at hS
  rw [hna, hnb, hia, hib, hza, hzb, hsa, hsb] at hS
  have SP : Hid (_ = S) := hS
  clear hS
  clear hna hnb hia hib hza hzb hsa hsb
  by_cases hn : (na || nb) = true
  · have SP2 : Hid (S = (9221120237041090560, nanF a b)) := by show _ = _; rw [← SP.out, if_pos hn]
    rw [hn] at NN
    clear SP
    go_enter Try.func23, Try.ntmps23
    go_wp2_with fail
    refine (q4Nans _ _ _ _ h0 h1 g0 g1 (by simp [go_sem]) (by simp [go_sem])).mono ?_
    rintro e w1 ⟨rfl, rfl⟩
    rw [NN.out]
    go_wp2
    go_ret2
    refine ⟨?_, bmore (Below.refl _ _) _⟩
    rw [SP2.out]
    all_goals rfl
  · have hn2 : na = false ∧ nb = false := by revert hn; cases na <;> cases nb <;> simp
    obtain ⟨rfl, rfl⟩ := hn2
    rw [show (false || false) = false from rfl] at NN
    clear hn
    cases ia
    · cases ib
      · by_cases hz : (za && zb) = true
        · have hz2 : za = true ∧ zb = true := by revert hz; cases za <;> cases zb <;> simp
          obtain ⟨rfl, rfl⟩ := hz2
          have SP2 : Hid (S = (sgnB (sa && sb), 0)) := by show _ = _; rw [← SP.out]; rfl
          clear SP
          cases sa
          all_goals
            go_enter Try.func23, Try.ntmps23
            go_wp2_with fail
            refine (q4Nans _ _ _ _ h0 h1 g0 g1 (by simp [go_sem]) (by simp [go_sem])).mono ?_
            rintro e w1 ⟨rfl, rfl⟩
            rw [NN.out]
            go_wp2_with (first | (go_at_call_of 52 a; refine (q4Inf _ _ h0 h1).mono ?_; rintro e w' ⟨rfl, rfl⟩; rw [IA.out]) | (go_at_call_of 52 b; refine (q4Inf _ _ g0 g1).mono ?_; rintro e w' ⟨rfl, rfl⟩; rw [IB.out]) | (go_at_call_of 53 a; refine (q4Zero _ _ h0 h1).mono ?_; rintro e w' ⟨rfl, rfl⟩; rw [ZA.out]) | (go_at_call_of 53 b; refine (q4Zero _ _ g0 g1).mono ?_; rintro e w' ⟨rfl, rfl⟩; rw [ZB.out]) | (go_at_call_of 55 a; refine (q4Neg _ _ h0 h1).mono ?_; rintro e w' ⟨rfl, rfl⟩; rw [SA.out]) | (go_at_call_of 55 b; refine (q4Neg _ _ g0 g1).mono ?_; rintro e w' ⟨rfl, rfl⟩; rw [SB.out]) | (go_at_call 54; refine (q4Signed _ _ _ (by omega) (by omega)).mono ?_; rintro e w' ⟨rfl, rfl⟩))
            go_ret2
            refine ⟨?_, bmore (Below.refl _ _) _⟩
            rw [SP2.out]
            refine ret_eq (tup2 (int_eq ?_) rfl)
            first | rfl | (simp; done) | omega
        · have ma := mag_fin a NA.out IA.out
          have mb := mag_fin b NB.out IB.out
          have SP1 : Hid (S = rndS (sv a + sv b)) := by
            show _ = _
            rw [← SP.out, if_neg (by simp), if_neg (by simp), if_neg (by simp), if_neg (by simp), if_neg hz]
          clear SP
          have la := V_len a ma
          have lb := V_len b mb
          have lab := add_len _ _ _ la lb
          have hpos : Hid (0 < V (mag a) + V (mag b)) := by
            show _ < _
            rcases Nat.eq_zero_or_pos (mag a) with k | k
            · rcases Nat.eq_zero_or_pos (mag b) with k2 | k2
              · exfalso; apply hz; rw [← ZA.out, ← ZB.out]; unfold isZ; rw [k, k2]; rfl
              · have := V_pos _ k2; omega
            · have := V_pos _ k; omega
          have HZ : Hid (¬ (za && zb) = true) := hz
          clear hz
          obtain ⟨VA, hVA⟩ : ∃ x, V (mag a) = x := ⟨_, rfl⟩
          obtain ⟨VB, hVB⟩ : ∃ x, V (mag b) = x := ⟨_, rfl⟩
          have rs := rnd_same' a b
          have rd := rnd_diff a b
          have rd2 := rnd_diff b a
          rw [hVA] at la lab
          rw [hVB] at lb lab
          rw [hVA, hVB] at hpos rs rd rd2
          rw [SA.out, SB.out] at rs rd rd2
          have RS : Hid (_ → _ → _) := rs
          have RD : Hid (_ → _ → _) := rd
          have RD2 : Hid (_ → _ → _) := rd2
          have HVA : Hid (_ = _) := hVA
          have HVB : Hid (_ = _) := hVB
          clear rs rd rd2 hVA hVB
          have hzc : za = false ∨ (za = true ∧ zb = false) := by have := HZ.out; revert this; cases za <;> cases zb <;> simp
          clear HZ
          rcases hzc with rfl | ⟨rfl, rfl⟩
          all_goals
            go_enter Try.func23, Try.ntmps23
            go_wp2_with fail
            refine (q4Nans _ _ _ _ h0 h1 g0 g1 (by simp [go_sem]) (by simp [go_sem])).mono ?_
            rintro e w1 ⟨rfl, rfl⟩
            rw [NN.out]
            go_wp2_with (first | (go_at_call_of 52 a; refine (q4Inf _ _ h0 h1).mono ?_; rintro e w' ⟨rfl, rfl⟩; rw [IA.out]) | (go_at_call_of 52 b; refine (q4Inf _ _ g0 g1).mono ?_; rintro e w' ⟨rfl, rfl⟩; rw [IB.out]) | (go_at_call_of 53 a; refine (q4Zero _ _ h0 h1).mono ?_; rintro e w' ⟨rfl, rfl⟩; rw [ZA.out]) | (go_at_call_of 53 b; refine (q4Zero _ _ g0 g1).mono ?_; rintro e w' ⟨rfl, rfl⟩; rw [ZB.out]) | fail)
            refine (q4Whole _ _ h0 h1 ma).mono ?_
            rintro e w2 ⟨v2, rfl, own2, hb2⟩
            rw [HVA.out] at own2
            go_wp2_with fail
            refine (q4Whole _ _ g0 g1 mb).mono ?_
            rintro e w3 ⟨v3, rfl, own3, hb3⟩
            rw [HVB.out] at own3
            replace own2 := own2.below hb3
            have hbx : Below w.heap.size w w3 := bstep ((bmore (Below.refl _ _) _).trans (hb2.mono (by simp))) hb3
            clear hb2 hb3
            go_wp2_with fail
            refine (q4Neg _ _ h0 h1).mono ?_
            rintro e w' ⟨rfl, rfl⟩
            rw [SA.out]
            go_wp2_with fail
            refine (rAdd _ _ _ _ _ own2.sees own3.sees (bl_bin _) (bl_bin _) (by omega) (by omega)).mono ?_
            rintro e w4 ⟨v4, rfl, own4, hb4⟩
            rw [val_bl, val_bl] at own4
            replace own2 := own2.below hb4
            replace own3 := own3.below hb4
            replace hbx := bstep hbx hb4
            clear hb4
            by_cases hss : sa = sb
            · have SP2 : Hid (S = (sgnB sa + ((numP (VA + VB) (-1074) : Nat) : Int), ((flagP (VA + VB) (-1074) : Nat) : Int))) := by
                show _ = _; rw [SP1.out]; exact RS.out hss hpos.out
              subst hss
              clear own2 own3
              go_wp2_with (first | (go_at_call_of 55 a; refine (q4Neg _ _ h0 h1).mono ?_; rintro e w' ⟨rfl, rfl⟩; rw [SA.out]) | (go_at_call_of 55 b; refine (q4Neg _ _ g0 g1).mono ?_; rintro e w' ⟨rfl, rfl⟩; rw [SB.out]) | fail)
              go_wp2_with fail
              refine (r3Round _ _ _ _ (-1074) _ own4.sees (bl_bin _) (by omega) (by omega) (by omega)).mono ?_
              rintro e w9 ⟨B, F, rfl, hB, hF, hb9⟩
              rw [val_bl, numM_false] at hB
              rw [val_bl, flagM_false] at hF
              have HB : Hid (_ = _) := hB
              have HF : Hid (_ = _) := hF
              have hbz := bstep hbx hb9
              clear hB hF hb9
              go_wp2_with fail
              go_region
              all_goals go_wp2
              all_goals go_ret2
              all_goals refine ⟨?_, (bmore hbz _).drew⟩
              all_goals (rw [SP2.out, HB.out, HF.out]; rfl)
            · have hbn : (sa != sb) = true := by simpa using hss
              have hbe : (sa == sb) = false := by simpa using hss
              clear own4
              go_wp2_with (first | (go_at_call_of 55 a; refine (q4Neg _ _ h0 h1).mono ?_; rintro e w' ⟨rfl, rfl⟩; rw [SA.out]) | (go_at_call_of 55 b; refine (q4Neg _ _ g0 g1).mono ?_; rintro e w' ⟨rfl, rfl⟩; rw [SB.out]) | fail)
              refine (rCmp _ _ _ _ _ own2.sees own3.sees (bl_bin _) (bl_bin _) (by omega) (by omega)).mono ?_
              rintro e w5 ⟨rfl, hb5⟩
              rw [val_bl, val_bl]
              replace own2 := own2.below hb5
              replace own3 := own3.below hb5
              replace hbx := bstep hbx hb5
              clear hb5
              by_cases hlt : VA < VB
              · have hc : cmpI VA VB = -1 := by unfold cmpI; rw [if_pos hlt]
                rw [hc]
                have SP2 : Hid (S = (sgnB sb + ((numP (VB - VA) (-1074) : Nat) : Int), ((flagP (VB - VA) (-1074) : Nat) : Int))) := by
                  show _ = _
                  rw [SP1.out, sv_comm, RD2.out (fun k => hss k.symm) (by omega), decide_eq_true (by omega), Bool.and_true]
                have hl5 := sub_len VB VA _ lb
                have hne : 0 < (bl (VB - VA)).length := (bl_length_lt _ 0).2 (by rw [Nat.pow_zero]; omega)
                clear hc
                go_wp2_with (first | (go_at_call_of 55 a; refine (q4Neg _ _ h0 h1).mono ?_; rintro e w' ⟨rfl, rfl⟩; rw [SA.out]) | (go_at_call_of 55 b; refine (q4Neg _ _ g0 g1).mono ?_; rintro e w' ⟨rfl, rfl⟩; rw [SB.out]) | fail)
                refine (rSub _ _ _ _ _ own3.sees own2.sees (bl_bin _) (bl_bin _) (by omega) (by omega) (by rw [val_bl, val_bl]; omega)).mono ?_
                rintro e w6 ⟨v6, rfl, own6, hb6⟩
                rw [val_bl, val_bl] at own6
                replace hbx := bstep hbx hb6
                clear hb6 own2 own3
                have own6' := own6
                obtain ⟨b6, o6, c6, rfl, hbb6, hcc6, hm6, hcell6⟩ := own6.sees
                clear hcell6 own6
                obtain ⟨L6, hL6⟩ : ∃ L, (bl (VB - VA)).length = L := ⟨_, rfl⟩
                rw [hL6] at own6' hne hcc6 hl5 ⊢
                have HL6 : Hid (_ = _) := hL6
                clear hL6
                have hne0 : ((L6 : Int) == 0) = false := by rw [beq_eq_false_iff_ne]; omega
                go_wp2_with fail
                refine (r3Round _ _ _ _ (-1074) _ own6'.sees (bl_bin _) (by have := HL6.out; omega) (by omega) (by omega)).mono ?_
                rintro e w9 ⟨B, F, rfl, hB, hF, hb9⟩
                rw [val_bl, numM_false] at hB
                rw [val_bl, flagM_false] at hF
                have HB : Hid (_ = _) := hB
                have HF : Hid (_ = _) := hF
                have hbz := bstep hbx hb9
                clear hB hF hb9
                go_wp2_with fail
                go_region
                all_goals go_wp2
                all_goals go_ret2
                all_goals refine ⟨?_, (bmore hbz _).drew⟩
                all_goals (rw [SP2.out, HB.out, HF.out]; rfl)
              · have hc : ¬ cmpI VA VB < 0 := by unfold cmpI; rw [if_neg hlt]; split <;> omega
                obtain ⟨c, hcc⟩ : ∃ c, cmpI VA VB = c := ⟨_, rfl⟩
                rw [hcc]
                rw [hcc] at hc
                clear hcc
                have SP3 : Hid (S = (sgnB (sa && decide (VA ≠ VB)) + ((numP (VA - VB) (-1074) : Nat) : Int), ((flagP (VA - VB) (-1074) : Nat) : Int))) := by
                  show _ = _
                  rw [SP1.out, RD.out hss (by omega)]
                have hl5 := sub_len VA VB _ la
                go_wp2_with (first | (go_at_call_of 55 a; refine (q4Neg _ _ h0 h1).mono ?_; rintro e w' ⟨rfl, rfl⟩; rw [SA.out]) | (go_at_call_of 55 b; refine (q4Neg _ _ g0 g1).mono ?_; rintro e w' ⟨rfl, rfl⟩; rw [SB.out]) | fail)
                refine (rSub _ _ _ _ _ own2.sees own3.sees (bl_bin _) (bl_bin _) (by omega) (by omega) (by rw [val_bl, val_bl]; omega)).mono ?_
                rintro e w6 ⟨v6, rfl, own6, hb6⟩
                rw [val_bl, val_bl] at own6
                replace hbx := bstep hbx hb6
                clear hb6 own2 own3
                have own6' := own6
                obtain ⟨b6, o6, c6, rfl, hbb6, hcc6, hm6, hcell6⟩ := own6.sees
                clear hcell6 own6
                obtain ⟨L6, hL6⟩ : ∃ L, (bl (VA - VB)).length = L := ⟨_, rfl⟩
                rw [hL6] at own6' hcc6 hl5 ⊢
                have HL6 : Hid (_ = _) := hL6
                clear hL6
                by_cases he : VA = VB
                · have h0l : L6 = 0 := by rw [← HL6.out]; exact (bl_nil_iff _).2 (by omega)
                  have HE : Hid (VA = VB) := he
                  have SP2 : Hid (S = (0, 0)) := by
                    show _ = _
                    rw [SP3.out, decide_eq_false (fun k => k he), Bool.and_false, show VA - VB = 0 by omega]
                    unfold numP flagP patP
                    simp [sgnB]
                  clear own6' he hlt
                  subst h0l
                  go_wp2
                  go_ret2
                  refine ⟨?_, hbx⟩
                  rw [SP2.out]
                  all_goals rfl
                · have hne : 0 < L6 := by rw [← HL6.out]; exact (bl_length_lt _ 0).2 (by rw [Nat.pow_zero]; omega)
                  have hne0 : ((L6 : Int) == 0) = false := by rw [beq_eq_false_iff_ne]; omega
                  have SP2 : Hid (S = (sgnB sa + ((numP (VA - VB) (-1074) : Nat) : Int), ((flagP (VA - VB) (-1074) : Nat) : Int))) := by
                    show _ = _
                    rw [SP3.out, decide_eq_true he, Bool.and_true]
                  go_wp2_with fail
                  refine (r3Round _ _ _ _ (-1074) _ own6'.sees (bl_bin _) (by have := HL6.out; omega) (by omega) (by omega)).mono ?_
                  rintro e w9 ⟨B, F, rfl, hB, hF, hb9⟩
                  rw [val_bl, numM_false] at hB
                  rw [val_bl, flagM_false] at hF
                  have HB : Hid (_ = _) := hB
                  have HF : Hid (_ = _) := hF
                  have hbz := bstep hbx hb9
                  clear hB hF hb9
                  go_wp2_with fail
                  go_region
                  all_goals go_wp2
                  all_goals go_ret2
                  all_goals refine ⟨?_, (bmore hbz _).drew⟩
                  all_goals (rw [SP2.out, HB.out, HF.out]; rfl)
      · skip
        have SP2 : Hid (S = (b, 0)) := by show _ = _; rw [← SP.out]; rfl
        clear SP
        go_enter Try.func23, Try.ntmps23
        go_wp2_with fail
        refine (q4Nans _ _ _ _ h0 h1 g0 g1 (by simp [go_sem]) (by simp [go_sem])).mono ?_
        rintro e w1 ⟨rfl, rfl⟩
        rw [NN.out]
        go_wp2_with (first | (go_at_call_of 52 a; refine (q4Inf _ _ h0 h1).mono ?_; rintro e w' ⟨rfl, rfl⟩; rw [IA.out]) | (go_at_call_of 52 b; refine (q4Inf _ _ g0 g1).mono ?_; rintro e w' ⟨rfl, rfl⟩; rw [IB.out]))
        go_ret2
        refine ⟨?_, bmore (Below.refl _ _) _⟩
        rw [SP2.out]
        all_goals rfl
    · cases ib
      · skip
        have SP2 : Hid (S = (a, 0)) := by show _ = _; rw [← SP.out]; rfl
        clear SP
        go_enter Try.func23, Try.ntmps23
        go_wp2_with fail
        refine (q4Nans _ _ _ _ h0 h1 g0 g1 (by simp [go_sem]) (by simp [go_sem])).mono ?_
        rintro e w1 ⟨rfl, rfl⟩
        rw [NN.out]
        go_wp2_with (first | (go_at_call_of 52 a; refine (q4Inf _ _ h0 h1).mono ?_; rintro e w' ⟨rfl, rfl⟩; rw [IA.out]) | (go_at_call_of 52 b; refine (q4Inf _ _ g0 g1).mono ?_; rintro e w' ⟨rfl, rfl⟩; rw [IB.out]))
        go_ret2
        refine ⟨?_, bmore (Below.refl _ _) _⟩
        rw [SP2.out]
        all_goals rfl
      · by_cases hab : a = b
        · have SP2 : Hid (S = (a, 0)) := by show _ = _; rw [← SP.out, decide_eq_false (fun k => k hab)]; rfl
          clear SP
          subst hab
          go_enter Try.func23, Try.ntmps23
          go_wp2_with fail
          refine (q4Nans _ _ _ _ h0 h1 g0 g1 (by simp [go_sem]) (by simp [go_sem])).mono ?_
          rintro e w1 ⟨rfl, rfl⟩
          rw [NN.out]
          go_wp2_with (go_at_call 52; refine (q4Inf _ _ h0 h1).mono ?_; rintro e w' ⟨rfl, rfl⟩; rw [IA.out])
          go_ret2
          refine ⟨?_, bmore (Below.refl _ _) _⟩
          rw [SP2.out]
          all_goals rfl
        · skip
          have SP2 : Hid (S = (9221120237041090560, 16)) := by show _ = _; rw [← SP.out, decide_eq_true hab]; rfl
          clear SP
          go_enter Try.func23, Try.ntmps23
          go_wp2_with fail
          refine (q4Nans _ _ _ _ h0 h1 g0 g1 (by simp [go_sem]) (by simp [go_sem])).mono ?_
          rintro e w1 ⟨rfl, rfl⟩
          rw [NN.out]
          go_wp2_with (first | (go_at_call_of 52 a; refine (q4Inf _ _ h0 h1).mono ?_; rintro e w' ⟨rfl, rfl⟩; rw [IA.out]) | (go_at_call_of 52 b; refine (q4Inf _ _ g0 g1).mono ?_; rintro e w' ⟨rfl, rfl⟩; rw [IB.out]))
          go_ret2
          refine ⟨?_, bmore (Below.refl _ _) _⟩
          rw [SP2.out]
          all_goals rfl
end Go.Proofs.Ytgpgmnmifhkmbaa
