/-
  What the reference's Round of layer 3 returns: the pattern nearest to a list of bits times 2^E, a little more if told so, and the flags.
-/
import Derived.Test.YtgpgmnmifhkmbaaRef02E
import Derived.Test.YtgpgmnmifhkmbaaRoundS
import Derived.Deep.DeepCutAuto
namespace Go.Proofs.Ytgpgmnmifhkmbaa
open Go.RowKit
set_option linter.unusedVariables false
/-- The result's block, still as it was made. -/
structure Box (w wx : World) : Prop where
  below : Below w.heap.size w wx
  size : w.heap.size < wx.heap.size
  c0 : wx.cell? ⟨w.heap.size, 0, none⟩ = some (.int .u64 0)
  c1 : wx.cell? ⟨w.heap.size, 1, none⟩ = some (.int .i64 0)
  f0 : wx.frozen? ⟨w.heap.size, 0, none⟩ = false
  f1 : wx.frozen? ⟨w.heap.size, 1, none⟩ = false
theorem Box.new (w : World) : Box w (w.alloc (.cells #[.int .u64 0, .int .i64 0] 76)) := by
  refine ⟨(Below.refl _ _).alloc (Nat.le_refl _) _, by simp, ?_, ?_, ?_, ?_⟩ <;> simp [go_sem]
theorem Box.later {w wx wy : World} (h : Box w wx) (hb : Below wx.heap.size wx wy) : Box w wy := by
  refine ⟨h.below.trans (hb.mono (Nat.le_of_lt h.size)), Nat.lt_of_lt_of_le h.size hb.size, ?_, ?_, ?_, ?_⟩
  · rw [hb.cell (p := ⟨w.heap.size, 0, none⟩) h.size]; exact h.c0
  · rw [hb.cell (p := ⟨w.heap.size, 1, none⟩) h.size]; exact h.c1
  · rw [hb.frozen (p := ⟨w.heap.size, 0, none⟩) h.size]; exact h.f0
  · rw [hb.frozen (p := ⟨w.heap.size, 1, none⟩) h.size]; exact h.f1
theorem flag_not_over (Y : Nat) (e : Int) (lo sm : Bool) (F : Int) (h : patP Y e < 9218868437227405312) (hY : ¬ Y = 0) (h1 : lostP Y e = lo) (h2 : smallP Y e = sm) (hF : (if lo then (if sm then 3 else 1) else 0 : Int) = F) : F = ((flagP Y e : Nat) : Int) := by
  unfold flagP
  rw [if_neg (by omega), h1, h2, ← hF]
  cases lo <;> cases sm <;> simp [hY]
theorem small_under (Y : Nat) (e : Int) (h : smallP Y e = true) : patP Y e < 9218868437227405312 := by
  unfold smallP at h
  rw [decide_eq_true_eq] at h
  have hk := keptP_le Y e
  have hl : lastP Y e = -1074 := by unfold lastP; omega
  unfold patP
  split
  · decide
  · rw [hl, show ((-1074 : Int) + 1074).toNat = 0 by rfl]
    omega
theorem flag_or (lo sm : Bool) (F : Int) (h : sm = false) (hF : (if lo then (if sm then 3 else 1) else 0 : Int) = F) : bits .or .i64 (wrap64 (wrap64 (F.tdiv 2) * 2)) 5 = 5 := by
  subst h
  subst hF
  cases lo <;> decide +kernel

set_option maxRecDepth 100000 in
set_option maxHeartbeats 2000000 in
theorem r3Round (neg more : Bool) (v : Value) (xs : List Int) (E : Int) (w : World) (hs : Sees w v xs) (hx : Bin xs) (hl : xs.length ≤ 20000) (he0 : -10000 ≤ E) (he1 : E ≤ 10000) :
    Calls Try.prog 57 #[.bool neg, v, .int .i64 E, .bool more] w fun e w' => ∃ B F : Int, e = .returned (.agg #[.int .u64 B, .int .i64 F]) ∧ B = sgnB neg + (numM (val xs) E more : Nat) ∧ F = (flagM (val xs) E more : Nat) ∧ Below w.heap.size w w' := by
  obtain ⟨s, hsg⟩ : ∃ s : Int, sgnB neg = s := ⟨_, rfl⟩
  obtain ⟨Y, hY⟩ : ∃ Y : Nat, val xs * 2 ^ 2 + more.toNat = Y := ⟨_, rfl⟩
  rw [hsg]
  unfold numM flagM
  rw [hY]
  have HS : Hid (sgnB neg = s) := hsg
  have HY : Hid (val xs * 2 ^ 2 + more.toNat = Y) := hY
  have hlY : (bl Y).length ≤ xs.length + 2 := by
    have h1 := val_lt xs hx
    have : more.toNat ≤ 1 := Bool.toNat_le more
    rw [bl_length_le, ← hY, Nat.pow_add]
    omega
  clear hsg hY
  go_enter Try.func57, Try.ntmps57
  go_upto_if 23 with fail
  go_cut [9] (fun t wx => t = .int .u64 s ∧ Box w wx ∧ Sees wx v xs)
  case first =>
    cases neg
    · go_wp2
      go_meet
      exact ⟨by rw [← HS.out]; rfl, Box.new w, hs.alloc _⟩
    · go_wp2
      go_meet
      exact ⟨by rw [← HS.out]; rfl, Box.new w, hs.alloc _⟩
  case rest =>
    obtain ⟨rfl, bx, hse⟩ := hcut
    go_upto_if 28 with fail
    refine (rUp _ _ _ _ hse hx (by omega) (by omega)).mono ?_
    rintro e w1 ⟨v1, rfl, own1, hb1⟩
    replace bx := bx.later hb1
    clear hb1 hse
    go_upto_if 28 with fail
    go_cut [10] (fun t wx => Own wx 0 t (bl Y) ∧ Box w wx)
    case first =>
      cases more
      · have e : (2 ^ (2 : Int).toNat * val xs) = Y := by rw [← HY.out, show (2 : Int).toNat = 2 by rfl, Nat.mul_comm]; rfl
        rw [e] at own1
        go_wp2
        go_meet
        exact ⟨own1.base (Nat.zero_le _), bx⟩
      · have e : (2 ^ (2 : Int).toNat * val xs) + val [1] = Y := by rw [← HY.out, show (2 : Int).toNat = 2 by rfl, Nat.mul_comm]; rfl
        have hl1 : (bl (2 ^ (2 : Int).toNat * val xs)).length ≤ 20002 := by
          refine Nat.le_trans (len_mono _ Y (by omega)) (by omega)
        go_wp2_with fail
        refine (rAdd _ _ _ _ _ (own1.alloc _).sees (Own.one w1 0 1 (Nat.zero_le _)).sees (bl_bin _) (Bin.mk (Or.inr rfl) Bin.nil) (by omega) (by simp)).mono ?_
        rintro e2 w2 ⟨v2, rfl, own2, hb2⟩
        replace bx := (bx.later ((Below.refl _ _).alloc (Nat.le_refl _) (.cells #[.int .i64 1] 3))).later hb2
        rw [val_bl, e] at own2
        clear hb2 own1
        go_wp2
        go_meet
        exact ⟨own2.base (Nat.zero_le _), bx⟩
    case rest =>
      obtain ⟨own, bx⟩ := hcut
      clear own1 HY
      obtain ⟨b, o, c, rfl, hb, hc, hm, hcell⟩ := own.sees
      by_cases hY0 : Y = 0
      · have hL0 : (bl Y).length = 0 := (bl_nil_iff Y).2 hY0
        have c0 := bx.c0
        have c1 := bx.c1
        have f0 := bx.f0
        have f1 := bx.f1
        have E1 : Hid ((numP Y (E - ((2 : Nat) : Int)) : Nat) = 0 ∧ (flagP Y (E - ((2 : Nat) : Int)) : Nat) = 0) := by
          subst hY0
          have : patP 0 (E - ((2 : Nat) : Int)) = 0 := by unfold patP; rw [if_pos rfl]
          refine ⟨by unfold numP; rw [this]; rfl, ?_⟩
          unfold flagP
          rw [this, if_neg (by decide), if_neg (by simp)]
        clear hcell
        rw [hL0]
        go_wp2
        refine bodyPost_ret (v := .agg #[.int .u64 s, .int .i64 0]) (by simp [results, Try.results57, go_sem, *]) rfl ⟨s, 0, rfl, by rw [E1.out.1]; simp, by rw [E1.out.2]; rfl, ?_⟩
        exact (bx.below.setCell (by simp) _).setCell (by simp) _
      · have hL0 : 0 < (bl Y).length := by have := bl_nil_iff Y; omega
        have hLz : (((bl Y).length : Int) == 0) = false := by rw [beq_eq_false_iff_ne]; omega
        go_upto_if 43 with fail
        go_cut [11] (fun t wx => t = .int .i64 (lastP Y (E - 2)) ∧ wx = wc)
        case first =>
          by_cases h43 : E - 2 + ((bl Y).length : Int) - 53 < -1074
          · have e : (-1074 : Int) = lastP Y (E - 2) := by unfold lastP; omega
            clear hcell
            go_wp2
            go_meet
            first | exact ⟨int_eq e, rfl⟩ | exact ⟨rfl, rfl⟩
          · have e : E - 2 + ((bl Y).length : Int) - 53 = lastP Y (E - 2) := by unfold lastP; omega
            clear hcell
            go_wp2
            go_meet
            first | exact ⟨int_eq e, rfl⟩ | exact ⟨rfl, rfl⟩
        case rest =>
          obtain ⟨rfl, rfl⟩ := hcut
          obtain ⟨L, hL⟩ : ∃ L, lastP Y (E - 2) = L := ⟨_, rfl⟩
          have hLb : L = max (E - 2 + ((bl Y).length : Int) - 53) (-1074) := by rw [← hL]; rfl
          have HLb : Hid (_ = _) := hLb
          have hL1 : -1074 ≤ L := by omega
          have hL2 : L ≤ 40000 := by omega
          clear hLb
          rw [hL]
          go_upto_if 52 with fail
          go_cut [13, 14, 15, 16, 17, 18, 19] (fun k l _ _ _ _ _ wx => Own wx 0 k (bl (keptP Y (E - 2))) ∧ l = .bool (lostP Y (E - 2)) ∧ Box w wx)
          case first =>
            by_cases hgt : E - 2 < L
            · obtain ⟨N, hN⟩ : ∃ N : Nat, (L - (E - 2)).toNat = N := ⟨_, rfl⟩
              have HN : Hid (_ = _) := hN
              have hD : Y / 2 ^ N ≤ Y := Nat.div_le_self _ _
              have hlD := len_mono _ _ hD
              have hYd := Nat.div_add_mod Y (2 ^ N)
              have hlU := len_mono (2 ^ N * (Y / 2 ^ N)) Y (by omega)
              have hlF := len_mono (Y % 2 ^ N) Y (Nat.mod_le _ _)
              have e1 : Hid (Y - 2 ^ N * (Y / 2 ^ N) = Y % 2 ^ N) := by show _ = _; omega
              have hle : Hid (2 ^ N * (Y / 2 ^ N) ≤ Y) := by show _ ≤ _; omega
              have hK : Hid (keptP Y (E - 2) = rne Y N) := by show _ = _; unfold keptP rneI; rw [hL, if_pos (by omega), hN]
              have hT : Hid (lostP Y (E - 2) = lostB Y N) := by
                show _ = _
                unfold lostP lostI lostB
                rw [hL, hN, decide_eq_decide]
                exact ⟨fun h => h.2, fun h => ⟨by omega, h⟩⟩
              clear hN hYd hD
              go_wp2_with fail
              refine (rDown _ _ _ _ own.sees (bl_bin _) (by omega)).mono ?_
              rintro e3 w2 ⟨v2, rfl, own2, hb2⟩
              rw [val_bl, HN.out]
              rw [val_bl, HN.out] at own2
              replace own := own.below hb2
              replace bx := bx.later hb2
              clear hb2 hcell hb
              go_wp2_with fail
              refine (rUp _ _ _ _ own2.sees (bl_bin _) (by omega) (by omega)).mono ?_
              rintro e3 w3 ⟨v3, rfl, own3, hb3⟩
              rw [val_bl, HN.out] at own3
              replace own := own.below hb3
              replace own2 := own2.below hb3
              replace bx := bx.later hb3
              clear hb3
              go_wp2_with fail
              refine (rSub _ _ _ _ _ own.sees own3.sees (bl_bin _) (bl_bin _) (by omega) (by omega) (by rw [val_bl, val_bl]; exact hle.out)).mono ?_
              rintro e3 w4 ⟨v4, rfl, own4, hb4⟩
              rw [val_bl, val_bl, e1.out] at own4
              replace own2 := own2.below hb4
              replace bx := bx.later hb4
              clear hb4 own own3
              have hl5 : (bl (2 ^ (1 : Int).toNat * (Y % 2 ^ N))).length ≤ 20003 := by
                rw [show (1 : Int).toNat = 1 by rfl]
                refine Nat.le_trans (len_mono _ (Y * 2 ^ 1) ?_) (by rw [len_scale Y 1 (by omega)]; omega)
                have := Nat.mod_le Y (2 ^ N)
                omega
              have hN5 : N ≤ 60000 := by have := HN.out; omega
              have hl6 : (bl (2 ^ N)).length ≤ 60001 := by
                have : (bl (2 ^ N)).length ≤ N + 1 := (bl_length_le _ _).2 (by rw [Nat.pow_succ]; have := Nat.two_pow_pos N; omega)
                omega
              go_wp2_with fail
              refine (rUp _ _ _ _ own4.sees (bl_bin _) (by omega) (by omega)).mono ?_
              rintro e3 w5 ⟨v5, rfl, own5, hb5⟩
              rw [val_bl] at own5
              replace own2 := own2.below hb5
              replace bx := bx.later hb5
              clear hb5 own4
              go_wp2_with fail
              refine (rUp _ [1] _ _ (Own.one w5 0 1 (Nat.zero_le _)).sees (Bin.mk (Or.inr rfl) Bin.nil) (by simp) (by omega)).mono ?_
              rintro e3 w6 ⟨v6, rfl, own6, hb6⟩
              rw [HN.out, show val [1] = 1 from rfl, Nat.mul_one] at own6
              replace own2 := (own2.alloc _).below hb6
              replace own5 := (own5.alloc _).below hb6
              replace bx := (bx.later ((Below.refl _ _).alloc (Nat.le_refl _) (.cells #[.int .i64 1] 3))).later hb6
              clear hb6
              go_wp2_with fail
              refine (rCmp _ _ _ _ _ own5.sees own6.sees (bl_bin _) (bl_bin _) (by omega) (by omega)).mono ?_
              rintro e3 w7 ⟨rfl, hb7⟩
              rw [val_bl, val_bl, show 2 ^ (1 : Int).toNat * (Y % 2 ^ N) = 2 * (Y % 2 ^ N) from rfl]
              replace own2 := own2.below hb7
              replace bx := bx.later hb7
              clear hb7 own5 own6 hl5 hl6
              obtain ⟨C, hC⟩ : ∃ C, cmpI (2 * (Y % 2 ^ N)) (2 ^ N) = C := ⟨_, rfl⟩
              rw [hC]
              have HC : Hid (_ = _) := hC
              clear hC
              go_upto_region 21 with fail
              obtain ⟨b2, o2, c2, rfl, hb2, hc2, hm2, hcell2⟩ := own2.sees
              go_cut [19] (fun t wx => t = .bool (decide (Y / 2 ^ N % 2 = 1)) ∧ wx = w7)
              case first =>
                by_cases hD0 : Y / 2 ^ N = 0
                · have hz : (bl (Y / 2 ^ N)).length = 0 := (bl_nil_iff _).2 hD0
                  have ed : false = decide (Y / 2 ^ N % 2 = 1) := by rw [eq_comm, decide_eq_false_iff_not, hD0]; decide
                  have HE : Hid (_ = _) := ed
                  have hzn : ((bl (Y / 2 ^ N)).length : Int) ≤ 0 := by omega
                  clear hcell2 ed hz hD0
                  go_wp2
                  go_meet
                  exact ⟨by rw [← HE.out], rfl⟩
                · have hz : 0 < (bl (Y / 2 ^ N)).length := by have := bl_nil_iff (Y / 2 ^ N); omega
                  have c0 := hcell2 0 hz
                  obtain ⟨d, hd⟩ : ∃ d : Int, (bl (Y / 2 ^ N))[0]?.getD 0 = d := ⟨_, rfl⟩
                  rw [hd, Nat.add_zero] at c0
                  have hd2 : d = ((Y / 2 ^ N % 2 : Nat) : Int) := by rw [← hd, bl_pos _ hD0]; rfl
                  have HE : Hid ((d == 1) = decide (Y / 2 ^ N % 2 = 1)) := by
                    show _ = _
                    rw [hd2, Bool.eq_iff_iff, beq_iff_eq, decide_eq_true_eq]
                    omega
                  clear hcell2 hd hd2
                  go_wp2
                  go_meet
                  exact ⟨by rw [← HE.out], rfl⟩
              case rest =>
                obtain ⟨rfl, rfl⟩ := hcut
                clear hcell2
                rcases Nat.lt_trichotomy (2 * (Y % 2 ^ N)) (2 ^ N) with h3 | h3 | h3
                · have hC1 : C = -1 := by rw [← HC.out]; unfold cmpI; rw [if_pos h3]
                  have hR : Y / 2 ^ N = rne Y N := by unfold rne; rw [if_neg (by omega)]
                  subst hC1
                  clear h3 HC
                  have hKK : Hid (bl (keptP Y (E - 2)) = bl (Y / 2 ^ N)) := by show _ = _; rw [hK.out, ← hR]
                  clear hlD hR
                  go_wp2
                  go_meet
                  exact ⟨by rw [hKK.out]; exact own2.base (Nat.zero_le _), by rw [hT.out], bx⟩
                · have hC1 : C = 0 := by rw [← HC.out]; unfold cmpI; rw [if_neg (by omega), if_pos h3]
                  subst hC1
                  by_cases hod : Y / 2 ^ N % 2 = 1
                  · have hR : Y / 2 ^ N + 1 = rne Y N := by unfold rne; rw [if_pos (Or.inr ⟨h3, hod⟩)]
                    rw [show decide (Y / 2 ^ N % 2 = 1) = true from decide_eq_true hod]
                    clear h3 HC hod
                    go_wp2_with fail
                    refine (rAdd _ _ _ _ _ (own2.alloc _).sees (Own.one _ 0 1 (Nat.zero_le _)).sees (bl_bin _) (Bin.mk (Or.inr rfl) Bin.nil) (by omega) (by simp)).mono ?_
                    rintro e3 w8 ⟨v8, rfl, own8, hb8⟩
                    rw [val_bl, show val [1] = 1 from rfl, hR, ← hK.out] at own8
                    replace bx := (bx.later ((Below.refl _ _).alloc (Nat.le_refl _) (.cells #[.int .i64 1] 3))).later hb8
                    clear hb8
                    go_wp2
                    go_meet
                    exact ⟨own8.base (Nat.zero_le _), by rw [hT.out], bx⟩
                  · have hR : Y / 2 ^ N = rne Y N := by unfold rne; rw [if_neg (by omega)]
                    rw [show decide (Y / 2 ^ N % 2 = 1) = false from decide_eq_false hod]
                    clear h3 HC hod
                    have hKK : Hid (bl (keptP Y (E - 2)) = bl (Y / 2 ^ N)) := by show _ = _; rw [hK.out, ← hR]
                    clear hlD hR
                    go_wp2
                    go_meet
                    exact ⟨by rw [hKK.out]; exact own2.base (Nat.zero_le _), by rw [hT.out], bx⟩
                · have hC1 : C = 1 := by rw [← HC.out]; unfold cmpI; rw [if_neg (by omega), if_neg (by omega)]
                  have hR : Y / 2 ^ N + 1 = rne Y N := by unfold rne; rw [if_pos (Or.inl h3)]
                  subst hC1
                  clear h3 HC
                  go_wp2_with fail
                  refine (rAdd _ _ _ _ _ (own2.alloc _).sees (Own.one _ 0 1 (Nat.zero_le _)).sees (bl_bin _) (Bin.mk (Or.inr rfl) Bin.nil) (by omega) (by simp)).mono ?_
                  rintro e3 w8 ⟨v8, rfl, own8, hb8⟩
                  rw [val_bl, show val [1] = 1 from rfl, hR, ← hK.out] at own8
                  replace bx := (bx.later ((Below.refl _ _).alloc (Nat.le_refl _) (.cells #[.int .i64 1] 3))).later hb8
                  clear hb8
                  go_wp2
                  go_meet
                  exact ⟨own8.base (Nat.zero_le _), by rw [hT.out], bx⟩
            · have e : bl (2 ^ (E - 2 - L).toNat * val (bl Y)) = bl (keptP Y (E - 2)) := by
                rw [val_bl]
                unfold keptP rneI
                rw [hL, if_neg (by omega), Nat.mul_comm, show (-(L - (E - 2))).toNat = (E - 2 - L).toNat by omega]
              have e2 : false = lostP Y (E - 2) := by
                unfold lostP lostI
                rw [hL, eq_comm, decide_eq_false_iff_not]
                omega
              go_wp2_with fail
              refine (rUp _ _ _ _ own.sees (bl_bin _) (by omega) (by omega)).mono ?_
              rintro e3 w2 ⟨v2, rfl, own2, hb2⟩
              rw [e] at own2
              replace bx := bx.later hb2
              clear hb2 hcell
              go_wp2
              go_meet
              exact ⟨own2.base (Nat.zero_le _), by first | rfl | rw [e2], bx⟩
          case rest =>
            obtain ⟨ownK, rfl, bx⟩ := hcut
            have hsb : s = 0 ∨ s = 9223372036854775808 := by rw [← HS.out]; unfold sgnB; split <;> simp
            have hsb1 : 0 ≤ s := by omega
            have hsb2 : s ≤ 9223372036854775808 := by omega
            have hK1 := keptP_le Y (E - 2)
            have hK2 : 4503599627370496 ≤ keptP Y (E - 2) ∨ L = -1074 := by
              by_cases g : L = -1074
              · exact Or.inr g
              · exact Or.inl (keptP_ge Y (E - 2) (by omega) (by omega))
            have HP : Hid (patP Y (E - ((2 : Nat) : Int)) = keptP Y (E - 2) + (L + 1074).toNat * 4503599627370496) := by
              show _ = _
              unfold patP
              rw [if_neg hY0, show E - ((2 : Nat) : Int) = E - 2 from rfl, hL]
            obtain ⟨K, hKe⟩ : ∃ K, keptP Y (E - 2) = K := ⟨_, rfl⟩
            obtain ⟨lo, hlo⟩ : ∃ lo, lostP Y (E - 2) = lo := ⟨_, rfl⟩
            obtain ⟨sm, hsm⟩ : ∃ sm, decide (E - 2 + ((bl Y).length : Int) < -1021) = sm := ⟨_, rfl⟩
            rw [hKe] at ownK hK1 hK2 HP
            rw [hlo, hsm]
            obtain ⟨F, hF⟩ : ∃ F : Int, (if lo then (if sm then 3 else 1) else 0 : Int) = F := ⟨_, rfl⟩
            have HF : Hid (_ = _) := hF
            have HLO : Hid (_ = _) := hlo
            have HSM : Hid (_ = _) := hsm
            clear hsb hF hlo hsm hKe
            go_upto_if 104 with fail
            go_cut [20] (fun t wx => t = .int .i64 F ∧ wx = wc)
            case first =>
              cases lo
              · go_wp2
                go_meet
                exact ⟨by rw [← HF.out]; rfl, rfl⟩
              · cases sm
                · go_wp2
                  go_meet
                  exact ⟨by rw [← HF.out]; rfl, rfl⟩
                · go_wp2
                  go_meet
                  exact ⟨by rw [← HF.out]; rfl, rfl⟩
            case rest =>
              obtain ⟨rfl, rfl⟩ := hcut
              obtain ⟨b3, o3, c3, rfl, hb3, hc3, hm3, hcell3⟩ := ownK.sees
              clear hcell3
              have hlK : (bl K).length ≤ 54 := (bl_length_le K 54).2 (by omega)
              go_upto_if 108 with fail
              go_cut [13, 11] (fun k l wx => ∃ (K' : Nat) (l' : Int), Own wx 0 k (bl K') ∧ l = .int .i64 l' ∧ K' < 9007199254740992 ∧ (4503599627370496 ≤ K' ∨ l' = -1074) ∧ -1074 ≤ l' ∧ l' ≤ 40001 ∧ Hid (K + (L + 1074).toNat * 4503599627370496 = K' + (l' + 1074).toNat * 4503599627370496) ∧ Box w wx)
              case first =>
                by_cases h54 : K = 9007199254740992
                · have hl54 : 53 < (bl K).length := (bl_length_lt K 53).2 (by omega)
                  have hb54 : (((bl K).length : Int) == 54) = true := by rw [beq_iff_eq]; omega
                  have H54 : Hid (_ = _) := h54
                  clear h54 hl54
                  go_wp2_with fail
                  refine (rDown _ _ _ _ ownK.sees (bl_bin _) (by omega)).mono ?_
                  rintro e5 w9 ⟨v9, rfl, own9, hb9⟩
                  rw [val_bl]
                  rw [val_bl] at own9
                  replace bx := bx.later hb9
                  clear hb9
                  go_wp2
                  go_meet
                  have h54 := H54.out
                  refine ⟨K / 2 ^ (1 : Int).toNat, L + 1, own9.base (Nat.zero_le _), rfl, ?_, ?_, by omega, by omega, ?_, bx⟩
                  · rw [show (1 : Int).toNat = 1 by rfl]; omega
                  · rw [show (1 : Int).toNat = 1 by rfl]; omega
                  · show _ = _
                    rw [show (1 : Int).toNat = 1 by rfl, show (L + 1 + 1074).toNat = (L + 1074).toNat + 1 by omega]
                    omega
                · have hl54 : (bl K).length ≤ 53 := (bl_length_le K 53).2 (by omega)
                  have hb54 : (((bl K).length : Int) == 54) = false := by rw [beq_eq_false_iff_ne]; omega
                  have HR : Hid (K < 9007199254740992 ∧ (4503599627370496 ≤ K ∨ L = -1074)) := ⟨by omega, hK2⟩
                  clear h54 hl54 hK2 hK1
                  go_wp2
                  go_meet
                  exact ⟨K, L, ownK, rfl, HR.out.1, HR.out.2, hL1, by omega, rfl, bx⟩
              case rest =>
                obtain ⟨K', l', own', rfl, k1, k2, l1, l2, HK, bx⟩ := hcut
                have hlK' : (bl K').length ≤ 53 := (bl_length_le K' 53).2 (by omega)
                obtain ⟨b4, o4, c4, rfl, hb4, hc4, hm4, hcell4⟩ := own'.sees
                clear hcell4 hK2 hK1
                go_wp2_with fail
                refine (rNum _ _ _ own'.sees (bl_bin _) (by omega)).mono ?_
                rintro e5 w9 ⟨rfl, rfl⟩
                rw [val_bl, show ((K' : Nat) : Int) % 18446744073709551616 = K' by omega]
                have c0 := bx.c0
                have c1 := bx.c1
                have f0 := bx.f0
                have f1 := bx.f1
                have HPP : Hid (patP Y (E - ((2 : Nat) : Int)) = K' + (l' + 1074).toNat * 4503599627370496) := HP.out.trans HK.out
                clear HP HK
                by_cases h53 : K' < 4503599627370496
                · have hl53 : (bl K').length ≤ 52 := (bl_length_le K' 52).2 (by omega)
                  have hP : Hid (patP Y (E - ((2 : Nat) : Int)) = K') := by show _ = _; rw [HPP.out, show (l' + 1074).toNat = 0 by omega]; omega
                  go_wp2
                  refine bodyPost_ret (v := .agg #[.int .u64 (s + (K' : Int)), .int .i64 F]) (by simp [results, Try.results57, go_sem, *]) rfl ⟨_, _, rfl, ?_, ?_, ?_⟩
                  · unfold numP; rw [hP.out]; omega
                  · exact flag_not_over Y _ lo sm F (by rw [hP.out]; omega) hY0 HLO.out HSM.out HF.out
                  · exact (bx.below.setCell (by simp) _).setCell (by simp) _
                · have hl53 : 52 < (bl K').length := (bl_length_lt K' 52).2 (by omega)
                  by_cases hov : 2047 ≤ l' + 1075
                  · have hP : Hid (9218868437227405312 ≤ patP Y (E - ((2 : Nat) : Int))) := by show _ ≤ _; rw [HPP.out]; omega
                    have hsm : sm = false := by
                      cases sm
                      · rfl
                      · have := small_under Y (E - ((2 : Nat) : Int)) HSM.out
                        have := hP.out
                        omega
                    have HO : Hid (_ = _) := flag_or lo sm F hsm HF.out
                    go_wp2
                    rw [HO.out]
                    refine bodyPost_ret (v := .agg #[.int .u64 (s + 9218868437227405312), .int .i64 5]) (by simp [results, Try.results57, go_sem, *]) rfl ⟨_, _, rfl, ?_, ?_, ?_⟩
                    · unfold numP; have := hP.out; omega
                    · unfold flagP; rw [if_pos hP.out]; rfl
                    · exact (bx.below.setCell (by simp) _).setCell (by simp) _
                  · have hP : Hid (patP Y (E - ((2 : Nat) : Int)) < 9218868437227405312 ∧ ((patP Y (E - ((2 : Nat) : Int)) : Nat) : Int) = (l' + 1074) * 4503599627370496 + K') := by
                      show _ ∧ _
                      rw [HPP.out]
                      omega
                    go_wp2
                    refine bodyPost_ret (v := .agg #[.int .u64 (s + (l' + 1075) * 4503599627370496 + (K' : Int) - 4503599627370496), .int .i64 F]) (by simp [results, Try.results57, go_sem, *]) rfl ⟨_, _, rfl, ?_, ?_, ?_⟩
                    · unfold numP; have := hP.out; omega
                    · exact flag_not_over Y _ lo sm F hP.out.1 hY0 HLO.out HSM.out HF.out
                    · exact (bx.below.setCell (by simp) _).setCell (by simp) _
end Go.Proofs.Ytgpgmnmifhkmbaa
