/-
  What the helper 'value' of the laws of layer 6 returns: two patterns held against each other by what they stand for. For patterns that are no Nans.
-/
import Derived.Test.YteohkpiecidicaaOrderC
import Derived.Test.YteohkpiecidicaaRef04C
namespace Go.Proofs.Yteohkpiecidicaa
open Go.RowKit
set_option linter.unusedVariables false

theorem raw_Vx (b : Int) : V (mag b) = rX b * 2 ^ rE b := by
  unfold mag V rX rE
  by_cases h : b / 4503599627370496 % 2048 = 0
  · rw [if_pos h, h, if_pos (by omega), show (0 : Int).toNat - 1 = 0 from rfl, Nat.pow_zero, Nat.mul_one]
    omega
  · rw [if_neg h, if_neg (by omega)]
    congr 1
    · omega
    · congr 1
      omega
theorem V_lenx (b : Int) : (bl (V (mag b))).length ≤ 2100 := by
  rw [raw_Vx b]
  have h1 := rX_lt b
  have h2 := rE_lt b
  rcases Nat.eq_zero_or_pos (rX b) with h | h
  · rw [h, Nat.zero_mul, bl_zero]; simp
  · rw [len_scale _ _ h]
    have := (bl_length_le (rX b) 53).2 (by omega)
    omega
theorem q4WholeX (b : Int) (w : World) (h0 : 0 ≤ b) (h1 : b < 18446744073709551616) :
    Calls Try.prog 26 #[.int .u64 b] w fun e w' => ∃ v, e = .returned v ∧ Own w' w.heap.size v (bl (V (mag b))) ∧ Below w.heap.size w w' := by
  have RV := raw_Vx b
  have hl : ∀ x : Nat, x < 9007199254740992 → (bl x).length ≤ 53 := fun x hx => (bl_length_le x 53).2 (by omega)
  unfold rX rE at RV
  have f0 : 0 ≤ b % 4503599627370496 := by omega
  have f1 : b % 4503599627370496 < 4503599627370496 := by omega
  have e0 : 0 ≤ b / 4503599627370496 % 2048 := by omega
  have e1 : b / 4503599627370496 % 2048 < 2048 := by omega
  obtain ⟨f, hff⟩ : ∃ f, b % 4503599627370496 = f := ⟨_, rfl⟩
  obtain ⟨x, hxx⟩ : ∃ x, b / 4503599627370496 % 2048 = x := ⟨_, rfl⟩
  rw [hff] at RV f0 f1
  rw [hxx] at RV e0 e1
  have FF : Hid (_ = _) := hff
  have XX : Hid (_ = _) := hxx
  have R0 : Hid (_ = _) := RV
  clear hff hxx RV
  by_cases hz : x = 0
  · subst hz
    have R : Hid (f.toNat = V (mag b)) := by
      show _ = _
      rw [R0.out, if_pos rfl, show (0 : Int).toNat - 1 = 0 from rfl, Nat.pow_zero, Nat.mul_one]
    go_enter Try.func26, Try.ntmps26
    go_wp2_with fail
    refine (q4Parts _ _ h0 h1).mono ?_
    rintro e w1 ⟨rfl, rfl⟩
    rw [FF.out, XX.out]
    go_wp2_with fail
    refine (rOf _ _ f0 (by omega)).mono ?_
    rintro e w2 ⟨v2, rfl, own2, hb2⟩
    rw [R.out] at own2
    have OW : Hid (Own _ _ _ _) := own2
    clear own2
    go_wp2
    go_ret
    exact ⟨_, rfl, OW.out, hb2⟩
  · have R : Hid (2 ^ (x - 1).toNat * val (bl (f + 4503599627370496).toNat) = V (mag b)) := by
      show _ = _
      rw [R0.out, if_neg hz, val_bl, Nat.mul_comm, show (x - 1).toNat = x.toNat - 1 by omega]
    have hw : IntKind.u64.wrap (f + 4503599627370496) = f + 4503599627370496 := by rw [IntKind.wrap_u64]; omega
    have hl2 := hl (f + 4503599627370496).toNat (by omega)
    clear hl
    go_enter Try.func26, Try.ntmps26
    go_wp2_with fail
    refine (q4Parts _ _ h0 h1).mono ?_
    rintro e w1 ⟨rfl, rfl⟩
    rw [FF.out, XX.out]
    go_wp2_with fail
    refine (rOf _ _ (by omega) (by omega)).mono ?_
    rintro e w2 ⟨v2, rfl, own2, hb2⟩
    go_wp2_with fail
    refine (rUp _ _ _ _ own2.sees (bl_bin _) (by omega) (by omega)).mono ?_
    rintro e w3 ⟨v3, rfl, own3, hb3⟩
    rw [R.out] at own3
    have OW : Hid (Own _ _ _ _) := own3
    clear own3 own2
    go_wp2
    go_ret
    exact ⟨_, rfl, OW.out.base hb2.size, bstep hb2 hb3⟩
/-- What a pattern stands for, without its sign; infinity beyond all. -/
def vx (b : Int) : Nat := if isInf b then 2 ^ jj else V (mag b)
theorem len_pow (k : Nat) : (bl (2 ^ k)).length ≤ k + 1 := (bl_length_le _ (k + 1)).2 (Nat.pow_lt_pow_right (by decide) (by omega))
theorem vx_len (b : Int) : (bl (vx b)).length ≤ 3001 := by
  unfold vx
  split
  · have := len_pow jj; have := jj_is; omega
  · have := V_lenx b; omega
theorem V_small (p : Nat) (h : p < 9218868437227405312) : V p < 2 ^ jj := by
  have hm : mag (p : Int) = p := by unfold mag; omega
  have := V_lenx (p : Int)
  rw [hm] at this
  obtain ⟨L, hL⟩ : ∃ L : Nat, L = 2100 := ⟨_, rfl⟩
  rw [← hL] at this
  have h2 := (bl_length_le (V p) L).1 this
  exact Nat.lt_trans h2 (Nat.pow_lt_pow_right (by decide) (by have := jj_is; omega))
theorem vx_cmp (a b : Int) (ha : isNan a = false) (hb : isNan b = false) : cmpI (vx a) (vx b) = cmpZ (mag a) (mag b) := by
  have key : ∀ a b : Int, isNan a = false → isNan b = false → (vx a < vx b ↔ mag a < mag b) := by
    intro a b ha hb
    unfold isNan at ha hb
    rw [decide_eq_false_iff_not] at ha hb
    unfold vx isInf
    by_cases ia : mag a = 9218868437227405312
    · by_cases ib : mag b = 9218868437227405312
      · rw [decide_eq_true ia, decide_eq_true ib, if_pos rfl, if_pos rfl]; omega
      · rw [decide_eq_true ia, decide_eq_false ib, if_pos rfl, if_neg (by simp)]
        have := V_small (mag b) (by omega)
        omega
    · by_cases ib : mag b = 9218868437227405312
      · rw [decide_eq_false ia, decide_eq_true ib, if_neg (by simp), if_pos rfl]
        have := V_small (mag a) (by omega)
        omega
      · rw [decide_eq_false ia, decide_eq_false ib, if_neg (by simp), if_neg (by simp)]
        have := V_le_iff (mag b) (mag a)
        omega
  have k1 := key a b ha hb
  have k2 := key b a hb ha
  unfold cmpI cmpZ
  repeat' split
  all_goals omega
theorem vx_zero (b : Int) : vx b = 0 ↔ mag b = 0 := by
  unfold vx isInf
  by_cases ib : mag b = 9218868437227405312
  · rw [decide_eq_true ib, if_pos rfl]
    have := Nat.two_pow_pos jj
    omega
  · rw [decide_eq_false ib, if_neg (by simp)]
    have := V_le_iff (mag b) 0
    rw [V_zero] at this
    omega
def valS (a b : Int) : Int := if mag a = 0 ∧ mag b = 0 then 0 else if sgn a && sgn b then -(cmpZ (mag a) (mag b)) else if sgn a then -1 else if sgn b then 1 else cmpZ (mag a) (mag b)
theorem abs_mag (b : Int) : mag (b % 9223372036854775808) = mag b := by unfold mag; omega
theorem up_one (k : Nat) : 2 ^ (k : Int).toNat * val [1] = 2 ^ k := by rw [val_cons, val_nil, Int.toNat_natCast, show Int.toNat 1 + 2 * 0 = 1 from rfl, Nat.mul_one]
theorem up_n (n : Int) (k : Nat) (h : n.toNat = k) : 2 ^ n.toNat * val [1] = 2 ^ k := by rw [h, val_cons, val_nil, show Int.toNat 1 + 2 * 0 = 1 from rfl, Nat.mul_one]
theorem up_jj : 2 ^ (3000 : Int).toNat * val [1] = 2 ^ jj := up_n 3000 jj rfl
set_option maxRecDepth 100000 in
set_option maxHeartbeats 2000000 in
theorem oValue (a b : Int) (w : World) (h0 : 0 ≤ a) (h1 : a < 18446744073709551616) (g0 : 0 ≤ b) (g1 : b < 18446744073709551616) (na : isNan a = false) (nb : isNan b = false) :
    Calls Try.prog 46 #[.int .u64 a, .int .u64 b] w fun e w' => e = .returned (.int .i64 (valS a b)) ∧ Below w.heap.size w w' := by
  have hc := vx_cmp a b na nb
  have la := vx_len a
  have lb := vx_len b
  have za := vx_zero a
  have zb := vx_zero b
  have na0 := bl_nil_iff (vx a)
  have nb0 := bl_nil_iff (vx b)
  have hA : isInf a = true → 2 ^ (3000 : Int).toNat * val [1] = vx a := by intro h; unfold vx; rw [if_pos h]; exact up_jj
  have hB : isInf b = true → 2 ^ (3000 : Int).toNat * val [1] = vx b := by intro h; unfold vx; rw [if_pos h]; exact up_jj
  have hA2 : isInf a = false → V (mag a) = vx a := by intro h; unfold vx; rw [h, if_neg (by simp)]
  have hB2 : isInf b = false → V (mag b) = vx b := by intro h; unfold vx; rw [h, if_neg (by simp)]
  obtain ⟨S, hS⟩ : ∃ S, valS a b = S := ⟨_, rfl⟩
  rw [hS]
  unfold valS sgn at hS
  obtain ⟨c, hcc⟩ : ∃ c, cmpZ (mag a) (mag b) = c := ⟨_, rfl⟩
  rw [hcc] at hc hS
  obtain ⟨ia, hia⟩ : ∃ x, isInf a = x := ⟨_, rfl⟩
  obtain ⟨ib, hib⟩ : ∃ x, isInf b = x := ⟨_, rfl⟩
  rw [hia] at hA hA2
  rw [hib] at hB hB2
  obtain ⟨X, hX⟩ : ∃ x, vx a = x := ⟨_, rfl⟩
  obtain ⟨Y, hY⟩ : ∃ x, vx b = x := ⟨_, rfl⟩
  rw [hX] at hc la za na0 hA hA2
  rw [hY] at hc lb zb nb0 hB hB2
  obtain ⟨sa, hsa⟩ : ∃ s, decide (9223372036854775808 ≤ a) = s := ⟨_, rfl⟩
  obtain ⟨sb, hsb⟩ : ∃ s, decide (9223372036854775808 ≤ b) = s := ⟨_, rfl⟩
  rw [hsa, hsb] at hS
  have HC : Hid (_ = _) := hc
  have HCC : Hid (-1 ≤ c ∧ c ≤ 1) := by show _ ∧ _; rw [← hcc]; unfold cmpZ; repeat' split <;> omega
  have IA : Hid (_ = _) := hia
  have IB : Hid (_ = _) := hib
  have SA : Hid (_ = _) := hsa
  have SB : Hid (_ = _) := hsb
  have HA : Hid (_ → _) := hA
  have HB : Hid (_ → _) := hB
  have HA2 : Hid (_ → _) := hA2
  have HB2 : Hid (_ → _) := hB2
  have HS : Hid (_ = S) := hS
  have ZA : Hid (_ ↔ _) := za
  have ZB : Hid (_ ↔ _) := zb
  have NA0 : Hid (_ ↔ _) := na0
  have NB0 : Hid (_ ↔ _) := nb0
  clear hc hcc hia hib hsa hsb hA hB hA2 hB2 hS za zb na0 nb0 hX hY na nb
  have LA := V_lenx a
  have LB := V_lenx b
  obtain ⟨cnt, hcnt⟩ := HCC.out
  cases ia
  · cases ib
    · go_enter Try.func46, Try.ntmps46
      go_wp2_with fail
      refine (abs_any _ _ h0 h1).mono ?_
      rintro e w' ⟨rfl, rfl⟩
      go_wp2_with fail
      refine (q4WholeX _ _ (by omega) (by omega)).mono ?_
      rintro e w1 ⟨v1, rfl, own1, hb1⟩
      rw [abs_mag] at own1
      go_wp2_with fail
      refine (abs_any _ _ g0 g1).mono ?_
      rintro e w' ⟨rfl, rfl⟩
      go_wp2_with fail
      refine (q4WholeX _ _ (by omega) (by omega)).mono ?_
      rintro e w2 ⟨v2, rfl, own2, hb2⟩
      rw [abs_mag] at own2
      replace own1 := own1.below hb2
      have hbx := bstep hb1 hb2
      clear hb1 hb2
      go_wp2_with fail
      refine (q4Inf _ _ h0 h1).mono ?_
      rintro e w' ⟨rfl, rfl⟩
      rw [IA.out]
      rw [HA2.out (by trivial)] at own1
      have own3 := own1
      have hby := hbx
      clear own1 hbx
      go_wp2_with fail
      refine (q4Inf _ _ g0 g1).mono ?_
      rintro e w' ⟨rfl, rfl⟩
      rw [IB.out]
      rw [HB2.out (by trivial)] at own2
      have own4 := own2
      have hbz := hby
      clear own2 hby
      have see3 := own3.sees
      have see4 := own4.sees
      obtain ⟨b3, o3, c3, rfl, q31, q32, q33, q34⟩ := see3
      obtain ⟨b4, o4, c4, rfl, q41, q42, q43, q44⟩ := see4
      clear q34 q44
      go_wp2_with fail
      refine (rCmp _ _ _ _ _ own3.sees own4.sees (bl_bin _) (bl_bin _) (by omega) (by omega)).mono ?_
      rintro e w5 ⟨rfl, hb5⟩
      rw [val_bl, val_bl, HC.out]
      have hbw := bstep hbz hb5
      clear own3 own4 hbz hb5 HA HB HA2 HB2
      obtain ⟨LX, hLX⟩ : ∃ n, (bl X).length = n := ⟨_, rfl⟩
      obtain ⟨LY, hLY⟩ : ∃ n, (bl Y).length = n := ⟨_, rfl⟩
      rw [hLX] at NA0 la q32
      rw [hLY] at NB0 lb q42
      rw [hLX, hLY]
      clear hLX hLY
      cases sa
      all_goals
        cases sb
        all_goals
          go_wp2_with (go_at_call 24; refine (neg_any _ _ (by omega) (by omega)).mono ?_; rintro e w' ⟨rfl, rfl⟩; first | rw [SA.out] | rw [SB.out])
          all_goals go_ret
          all_goals refine ⟨ret_eq (int_eq ?_), hbw⟩
          all_goals (have k1 := HS.out; have k2 := NA0.out; have k3 := NB0.out; have k4 := ZA.out; have k5 := ZB.out; rw [← k1]; simp_all)
    · go_enter Try.func46, Try.ntmps46
      go_wp2_with fail
      refine (abs_any _ _ h0 h1).mono ?_
      rintro e w' ⟨rfl, rfl⟩
      go_wp2_with fail
      refine (q4WholeX _ _ (by omega) (by omega)).mono ?_
      rintro e w1 ⟨v1, rfl, own1, hb1⟩
      rw [abs_mag] at own1
      go_wp2_with fail
      refine (abs_any _ _ g0 g1).mono ?_
      rintro e w' ⟨rfl, rfl⟩
      go_wp2_with fail
      refine (q4WholeX _ _ (by omega) (by omega)).mono ?_
      rintro e w2 ⟨v2, rfl, own2, hb2⟩
      rw [abs_mag] at own2
      replace own1 := own1.below hb2
      have hbx := bstep hb1 hb2
      clear hb1 hb2
      go_wp2_with fail
      refine (q4Inf _ _ h0 h1).mono ?_
      rintro e w' ⟨rfl, rfl⟩
      rw [IA.out]
      rw [HA2.out (by trivial)] at own1
      have own3 := own1
      have hby := hbx
      clear own1 hbx
      go_wp2_with fail
      refine (q4Inf _ _ g0 g1).mono ?_
      rintro e w' ⟨rfl, rfl⟩
      rw [IB.out]
      go_wp2_with fail
      refine (rUp _ _ _ _ (Own.one _ _ 1 (Nat.le_refl _)).sees (Bin.mk (Or.inr rfl) Bin.nil) (by simp) (by omega)).mono ?_
      rintro e w4 ⟨v4, rfl, own4, hb4⟩
      rw [HB.out (by trivial)] at own4
      replace own3 := (own3.alloc _).below hb4
      have hbz := bstep (bmore hby _) hb4
      clear hby hb4 own2
      have see3 := own3.sees
      have see4 := own4.sees
      obtain ⟨b3, o3, c3, rfl, q31, q32, q33, q34⟩ := see3
      obtain ⟨b4, o4, c4, rfl, q41, q42, q43, q44⟩ := see4
      clear q34 q44
      go_wp2_with fail
      refine (rCmp _ _ _ _ _ own3.sees own4.sees (bl_bin _) (bl_bin _) (by omega) (by omega)).mono ?_
      rintro e w5 ⟨rfl, hb5⟩
      rw [val_bl, val_bl, HC.out]
      have hbw := bstep hbz hb5
      clear own3 own4 hbz hb5 HA HB HA2 HB2
      obtain ⟨LX, hLX⟩ : ∃ n, (bl X).length = n := ⟨_, rfl⟩
      obtain ⟨LY, hLY⟩ : ∃ n, (bl Y).length = n := ⟨_, rfl⟩
      rw [hLX] at NA0 la q32
      rw [hLY] at NB0 lb q42
      rw [hLX, hLY]
      clear hLX hLY
      cases sa
      all_goals
        cases sb
        all_goals
          go_wp2_with (go_at_call 24; refine (neg_any _ _ (by omega) (by omega)).mono ?_; rintro e w' ⟨rfl, rfl⟩; first | rw [SA.out] | rw [SB.out])
          all_goals go_ret
          all_goals refine ⟨ret_eq (int_eq ?_), hbw⟩
          all_goals (have k1 := HS.out; have k2 := NA0.out; have k3 := NB0.out; have k4 := ZA.out; have k5 := ZB.out; rw [← k1]; simp_all)
  · cases ib
    · go_enter Try.func46, Try.ntmps46
      go_wp2_with fail
      refine (abs_any _ _ h0 h1).mono ?_
      rintro e w' ⟨rfl, rfl⟩
      go_wp2_with fail
      refine (q4WholeX _ _ (by omega) (by omega)).mono ?_
      rintro e w1 ⟨v1, rfl, own1, hb1⟩
      rw [abs_mag] at own1
      go_wp2_with fail
      refine (abs_any _ _ g0 g1).mono ?_
      rintro e w' ⟨rfl, rfl⟩
      go_wp2_with fail
      refine (q4WholeX _ _ (by omega) (by omega)).mono ?_
      rintro e w2 ⟨v2, rfl, own2, hb2⟩
      rw [abs_mag] at own2
      replace own1 := own1.below hb2
      have hbx := bstep hb1 hb2
      clear hb1 hb2
      go_wp2_with fail
      refine (q4Inf _ _ h0 h1).mono ?_
      rintro e w' ⟨rfl, rfl⟩
      rw [IA.out]
      go_wp2_with fail
      refine (rUp _ _ _ _ (Own.one _ _ 1 (Nat.le_refl _)).sees (Bin.mk (Or.inr rfl) Bin.nil) (by simp) (by omega)).mono ?_
      rintro e w3 ⟨v3, rfl, own3, hb3⟩
      rw [HA.out (by trivial)] at own3
      replace own2 := (own2.alloc _).below hb3
      have hby := bstep (bmore hbx _) hb3
      clear hbx hb3 own1
      go_wp2_with fail
      refine (q4Inf _ _ g0 g1).mono ?_
      rintro e w' ⟨rfl, rfl⟩
      rw [IB.out]
      rw [HB2.out (by trivial)] at own2
      have own4 := own2
      have hbz := hby
      clear own2 hby
      have see3 := own3.sees
      have see4 := own4.sees
      obtain ⟨b3, o3, c3, rfl, q31, q32, q33, q34⟩ := see3
      obtain ⟨b4, o4, c4, rfl, q41, q42, q43, q44⟩ := see4
      clear q34 q44
      go_wp2_with fail
      refine (rCmp _ _ _ _ _ own3.sees own4.sees (bl_bin _) (bl_bin _) (by omega) (by omega)).mono ?_
      rintro e w5 ⟨rfl, hb5⟩
      rw [val_bl, val_bl, HC.out]
      have hbw := bstep hbz hb5
      clear own3 own4 hbz hb5 HA HB HA2 HB2
      obtain ⟨LX, hLX⟩ : ∃ n, (bl X).length = n := ⟨_, rfl⟩
      obtain ⟨LY, hLY⟩ : ∃ n, (bl Y).length = n := ⟨_, rfl⟩
      rw [hLX] at NA0 la q32
      rw [hLY] at NB0 lb q42
      rw [hLX, hLY]
      clear hLX hLY
      cases sa
      all_goals
        cases sb
        all_goals
          go_wp2_with (go_at_call 24; refine (neg_any _ _ (by omega) (by omega)).mono ?_; rintro e w' ⟨rfl, rfl⟩; first | rw [SA.out] | rw [SB.out])
          all_goals go_ret
          all_goals refine ⟨ret_eq (int_eq ?_), hbw⟩
          all_goals (have k1 := HS.out; have k2 := NA0.out; have k3 := NB0.out; have k4 := ZA.out; have k5 := ZB.out; rw [← k1]; simp_all)
    · go_enter Try.func46, Try.ntmps46
      go_wp2_with fail
      refine (abs_any _ _ h0 h1).mono ?_
      rintro e w' ⟨rfl, rfl⟩
      go_wp2_with fail
      refine (q4WholeX _ _ (by omega) (by omega)).mono ?_
      rintro e w1 ⟨v1, rfl, own1, hb1⟩
      rw [abs_mag] at own1
      go_wp2_with fail
      refine (abs_any _ _ g0 g1).mono ?_
      rintro e w' ⟨rfl, rfl⟩
      go_wp2_with fail
      refine (q4WholeX _ _ (by omega) (by omega)).mono ?_
      rintro e w2 ⟨v2, rfl, own2, hb2⟩
      rw [abs_mag] at own2
      replace own1 := own1.below hb2
      have hbx := bstep hb1 hb2
      clear hb1 hb2
      go_wp2_with fail
      refine (q4Inf _ _ h0 h1).mono ?_
      rintro e w' ⟨rfl, rfl⟩
      rw [IA.out]
      go_wp2_with fail
      refine (rUp _ _ _ _ (Own.one _ _ 1 (Nat.le_refl _)).sees (Bin.mk (Or.inr rfl) Bin.nil) (by simp) (by omega)).mono ?_
      rintro e w3 ⟨v3, rfl, own3, hb3⟩
      rw [HA.out (by trivial)] at own3
      replace own2 := (own2.alloc _).below hb3
      have hby := bstep (bmore hbx _) hb3
      clear hbx hb3 own1
      go_wp2_with fail
      refine (q4Inf _ _ g0 g1).mono ?_
      rintro e w' ⟨rfl, rfl⟩
      rw [IB.out]
      go_wp2_with fail
      refine (rUp _ _ _ _ (Own.one _ _ 1 (Nat.le_refl _)).sees (Bin.mk (Or.inr rfl) Bin.nil) (by simp) (by omega)).mono ?_
      rintro e w4 ⟨v4, rfl, own4, hb4⟩
      rw [HB.out (by trivial)] at own4
      replace own3 := (own3.alloc _).below hb4
      have hbz := bstep (bmore hby _) hb4
      clear hby hb4 own2
      have see3 := own3.sees
      have see4 := own4.sees
      obtain ⟨b3, o3, c3, rfl, q31, q32, q33, q34⟩ := see3
      obtain ⟨b4, o4, c4, rfl, q41, q42, q43, q44⟩ := see4
      clear q34 q44
      go_wp2_with fail
      refine (rCmp _ _ _ _ _ own3.sees own4.sees (bl_bin _) (bl_bin _) (by omega) (by omega)).mono ?_
      rintro e w5 ⟨rfl, hb5⟩
      rw [val_bl, val_bl, HC.out]
      have hbw := bstep hbz hb5
      clear own3 own4 hbz hb5 HA HB HA2 HB2
      obtain ⟨LX, hLX⟩ : ∃ n, (bl X).length = n := ⟨_, rfl⟩
      obtain ⟨LY, hLY⟩ : ∃ n, (bl Y).length = n := ⟨_, rfl⟩
      rw [hLX] at NA0 la q32
      rw [hLY] at NB0 lb q42
      rw [hLX, hLY]
      clear hLX hLY
      cases sa
      all_goals
        cases sb
        all_goals
          go_wp2_with (go_at_call 24; refine (neg_any _ _ (by omega) (by omega)).mono ?_; rintro e w' ⟨rfl, rfl⟩; first | rw [SA.out] | rw [SB.out])
          all_goals go_ret
          all_goals refine ⟨ret_eq (int_eq ?_), hbw⟩
          all_goals (have k1 := HS.out; have k2 := NA0.out; have k3 := NB0.out; have k4 := ZA.out; have k5 := ZB.out; rw [← k1]; simp_all)
end Go.Proofs.Yteohkpiecidicaa
