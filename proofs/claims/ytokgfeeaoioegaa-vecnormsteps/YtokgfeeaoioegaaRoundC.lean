/-
  What package round returns: the nearest pattern and the flags, as numR and flagR tell them. Exponents are any; all 128 bits.
-/
import Derived.Test.YtokgfeeaoioegaaRoundR
import Derived.Test.YtokgfeeaoioegaaWordC
import Derived.Test.YtokgfeeaoioegaaWideD
import Derived.WalkSmall
import Derived.Deep.DeepCutAuto
namespace Go.Proofs.Ytokgfeeaoioegaa
open Go.RowKit
set_option linter.unusedVariables false

theorem sgnB_bd (n : Bool) : 0 ≤ sgnB n ∧ sgnB n ≤ 9223372036854775808 := by cases n <;> simp [sgnB]
theorem make_sig (n : Bool) (x b : Int) : wMake n x b = sgnB n + x % 2048 * 4503599627370496 + b % 4503599627370496 := rfl
theorem wid_lo (h l : Int) (h0 : 0 ≤ h) (l0 : 0 ≤ l) (g : wid h l < 18446744073709551616) : l = ((wid h l : Nat) : Int) := by
  unfold wid at *; omega

theorem run_lo (h l : Int) (w : World) : (Instr.field 101 (.agg #[.int .u64 h, .int .u64 l]) 1).run Try.prog w = .ok (.int .u64 l) w := by kernel_rfl
theorem pZero (neg more : Bool) (w : World) :
    Calls Try.prog 105 #[.bool neg, .bool more] w fun e w' => e = .returned (.tuple #[.int .u64 (sgnB neg), .int .u8 (if more then 3 else 0)]) ∧ w' = w := by
  cases more
  all_goals
    go_enter Try.func105, Try.ntmps105
    go_wp2_with (go_at_call 126; refine (make_any _ _ _ _ (by omega) (by omega)).mono ?_; rintro e w' ⟨rfl, rfl⟩)
    go_ret2
    refine ⟨ret_eq (tup2 (int_eq ?_) rfl), rfl⟩
    rw [make_sig]
    omega

set_option maxHeartbeats 1000000 in
theorem pNearest (h l n : Int) (more : Bool) (w : World) (a0 : 0 ≤ h) (a1 : h < 18446744073709551616) (a2 : 0 ≤ l) (a3 : l < 18446744073709551616) (n0 : -1000000 ≤ n) (n1 : n ≤ 1000000) (hfit : nearN (wid h l) n more < 9223372036854775808) :
    Calls Try.prog 107 #[.agg #[.int .u64 h, .int .u64 l], .int .i64 n, .bool more] w fun e w' => e = .returned (.tuple #[.int .u64 ((nearN (wid h l) n more : Nat) : Int), .bool (inexN (wid h l) n more)]) ∧ Below w.heap.size w w' := by
  by_cases hn : n ≤ 0
  · have N1 : Hid (nearN (wid h l) n more = wid h l * 2 ^ (-n).toNat) := by show _ = _; unfold nearN; rw [if_pos hn]
    have N2 : Hid (inexN (wid h l) n more = more) := by show _ = _; unfold inexN; rw [if_pos hn]
    have F : Hid (_ < _) := hfit
    clear hfit
    go_enter Try.func107, Try.ntmps107
    go_wp2_with fail
    refine (wLeft _ _ _ _ a0 a1 a2 a3 (by omega)).mono ?_
    rintro e w1 ⟨h1, l1, rfl, b0, b1, b2, b3, b4, hb1⟩
    have B : Hid (l1 = ((nearN (wid h l) n more : Nat) : Int)) := by
      show _ = _
      have f := F.out
      rw [N1.out] at f ⊢
      rw [Nat.mul_comm, Nat.mod_eq_of_lt (Nat.lt_trans f (by decide))] at b4
      rw [wid_lo h1 l1 b0 b2 (by rw [b4]; exact Nat.lt_trans f (by decide)), b4]
    have hbw : Below w.heap.size w w1 := ((Below.refl _ _).alloc (Nat.le_refl _) _).trans (hb1.mono (by simp))
    clear b4 hb1
    have hlo := run_lo h1 l1 w1
    go_wp2
    go_ret2
    exact ⟨ret_eq (tup2 (int_eq B.out) (bool_eq N2.out.symm)), hbw⟩
  · obtain ⟨c, hc⟩ : ∃ c : Nat, n.toNat = c + 1 := ⟨n.toNat - 1, by omega⟩
    have N1 : Hid (nearN (wid h l) n more = wid h l / 2 ^ (c + 1) + (if wid h l / 2 ^ c % 2 = 1 ∧ (wid h l % 2 ^ c ≠ 0 ∨ more = true ∨ wid h l / 2 ^ (c + 1) % 2 = 1) then 1 else 0)) := by
      show _ = _; unfold nearN; rw [if_neg hn, hc, Nat.add_sub_cancel]
    have N2 : Hid (inexN (wid h l) n more = decide (wid h l / 2 ^ c % 2 = 1 ∨ wid h l % 2 ^ c ≠ 0 ∨ more = true)) := by
      show _ = _; unfold inexN; rw [if_neg hn, hc, Nat.add_sub_cancel]
    have F : Hid (_ < _) := hfit
    clear hfit
    have hc1 : (n - 1).toNat = c := by omega
    have hn2 : (n ≤ 0) = False := by simp [hn]
    have HC : Hid (_ = _) := hc1
    clear hc hc1
    go_enter Try.func107, Try.ntmps107
    go_wp2_with fail
    refine (wRight _ _ _ _ a0 a1 a2 a3 (by omega)).mono ?_
    rintro e w1 ⟨h1, l1, rfl, b0, b1, b2, b3, b4, hb1⟩
    rw [HC.out] at b4 ⊢
    have hbw : Below w.heap.size w w1 := ((Below.refl _ _).alloc (Nat.le_refl _) _).trans (hb1.mono (by simp))
    have hz1 := hbw.size
    clear hb1
    have B4 : Hid (_ = _) := b4
    clear b4
    obtain ⟨lo, hlo⟩ : ∃ lo, lostB (wid h l) c = lo := ⟨_, rfl⟩
    rw [hlo]
    have LO : Hid (_ = _) := hlo
    clear hlo
    go_wp2_with fail
    refine (wRight _ _ _ _ b0 b1 b2 b3 (by omega)).mono ?_
    rintro e w2 ⟨h2, l2, rfl, c0, c1, c2, c3, c4, hb2⟩
    rw [show (1 : Int).toNat = 1 from rfl] at c4 ⊢
    have hbx : Below w.heap.size w w2 := (hbw.trans ((Below.refl _ _).alloc hz1 _)).trans (hb2.mono (by simp; omega))
    have hz2 := hbx.size
    clear hb2
    obtain ⟨hf, hhf⟩ : ∃ hf, lostB (wid h1 l1) 1 = hf := ⟨_, rfl⟩
    rw [hhf]
    obtain ⟨Z, hZ⟩ : ∃ Z, wid h l / 2 ^ (c + 1) = Z := ⟨_, rfl⟩
    have Q : Hid (l2 = (Z : Int) ∧ Z < 9223372036854775808 ∧ nearN (wid h l) n more = Z + (if (hf && (lo || more || decide (Z % 2 = 1))) = true then 1 else 0) ∧ inexN (wid h l) n more = (hf || lo || more)) := by
      have f := F.out
      rw [N1.out] at f
      have e1 : wid h2 l2 = wid h l / 2 ^ (c + 1) := by rw [c4, B4.out, Nat.div_div_eq_div_mul, ← Nat.pow_add]
      have e2 : wid h l / 2 ^ (c + 1) < 9223372036854775808 := Nat.lt_of_le_of_lt (Nat.le_add_right _ _) f
      rw [hZ] at e1 e2
      have e3 : hf = decide (wid h l / 2 ^ c % 2 = 1) := by rw [← hhf, B4.out]; unfold lostB; rw [decide_eq_decide, Nat.pow_one]; omega
      have e4 : lo = decide (wid h l % 2 ^ c ≠ 0) := by rw [← LO.out]; rfl
      refine ⟨?_, e2, ?_, ?_⟩
      · rw [wid_lo h2 l2 c0 c2 (by omega), e1]
      · rw [N1.out, hZ, e3, e4]; simp [Bool.or_assoc]
      · rw [N2.out, e3, e4]; simp [Bool.or_assoc]
    clear hhf c4 B4 LO F N1 N2 hZ
    have hodd := and_one_u64 l2 c2 (by omega)
    have hup : IntKind.u64.wrap (l2 + 1) = l2 + 1 := by have := Q.out.1; have := Q.out.2.1; rw [IntKind.wrap_u64]; omega
    by_cases ho : l2 % 2 = 1
    all_goals
      cases hf
      all_goals
        cases lo
        all_goals
          cases more
          all_goals
            go_wp2
            go_ret2
            obtain ⟨q1, q2, q3, q4⟩ := Q.out
            refine ⟨ret_eq (tup2 (int_eq ?_) (bool_eq ?_)), (hbx.alloc hz2 _)⟩
            · rw [q3]
              simp <;> (try split) <;> omega
            · rw [q4]; rfl
theorem pPattern (neg : Bool) (K u : Int) (w : World) (k0 : 0 ≤ K) (k1 : K ≤ 9007199254740992) (hk : 4503599627370496 ≤ K ∨ u = -1074) (u0 : -1074 ≤ u) (u1 : u ≤ 1000000) :
    Calls Try.prog 108 #[.bool neg, .int .u64 K, .int .i64 u] w fun e w' => e = .returned (.int .u64 (sgnB neg + min (K + (u + 1074) * 4503599627370496) 9218868437227405312)) ∧ w' = w := by
  have HK : Hid (_ ∨ _) := hk
  clear hk
  by_cases h1 : K = 9007199254740992
  · subst h1
    by_cases h2 : 2046 < u + 1 + 1075
    all_goals
      go_enter Try.func108, Try.ntmps108
      go_wp2_with (go_at_call 126; refine (make_any _ _ _ _ (by omega) (by omega)).mono ?_; rintro e w' ⟨rfl, rfl⟩)
      go_ret
      refine ⟨ret_eq (int_eq ?_), rfl⟩
      rw [make_sig]
      omega
  · by_cases h3 : K < 4503599627370496
    · have hu : u = -1074 := by have := HK.out; omega
      subst hu
      go_enter Try.func108, Try.ntmps108
      go_wp2_with (go_at_call 126; refine (make_any _ _ _ _ (by omega) (by omega)).mono ?_; rintro e w' ⟨rfl, rfl⟩)
      go_ret
      refine ⟨ret_eq (int_eq ?_), rfl⟩
      rw [make_sig]
      omega
    · by_cases h2 : 2046 < u + 1075
      all_goals
        go_enter Try.func108, Try.ntmps108
        go_wp2_with (go_at_call 126; refine (make_any _ _ _ _ (by omega) (by omega)).mono ?_; rintro e w' ⟨rfl, rfl⟩)
        go_ret
        refine ⟨ret_eq (int_eq ?_), rfl⟩
        rw [make_sig]
        omega
/-- Exponents end at 100000, either way. -/
def clampE (e : Int) : Int := min (max e (-100000)) 100000
theorem clampE_bd (e : Int) : -100000 ≤ clampE e ∧ clampE e ≤ 100000 := by unfold clampE; omega
theorem clampE_in (e : Int) (h0 : -100000 ≤ e) (h1 : e ≤ 100000) : clampE e = e := by unfold clampE; omega
theorem lastP_bd (L E : Int) (n : Nat) (h : L = max (E + (n : Int) - 53) (-1074)) (h0 : -100000 ≤ E) (h1 : E ≤ 100000) (hn : n ≤ 128) : -1074 ≤ L ∧ L ≤ 200000 := by omega
theorem fin_pat (neg : Bool) (P : Nat) : decide ((sgnB neg + min (P : Int) 9218868437227405312) / 4503599627370496 % 2048 < 2047) = decide (P < 9218868437227405312) := by
  rw [decide_eq_decide]
  cases neg <;> simp only [sgnB] <;> simp <;> omega
theorem flag_fit (x : Nat) (e : Int) (more : Bool) : flagR x e more ≤ 5 := by
  unfold flagR flagP; repeat' split
  all_goals omega
set_option maxHeartbeats 1000000 in
theorem pRound (neg more : Bool) (h l e : Int) (w : World) (a0 : 0 ≤ h) (a1 : h < 18446744073709551616) (a2 : 0 ≤ l) (a3 : l < 18446744073709551616) :
    Calls Try.prog 77 #[.bool neg, .agg #[.int .u64 h, .int .u64 l], .int .i64 e, .bool more] w fun r w' => r = .returned (.tuple #[.int .u64 (sgnB neg + ((numR (wid h l) (clampE e) more : Nat) : Int)), .int .u8 ((flagR (wid h l) (clampE e) more : Nat) : Int)]) ∧ Below w.heap.size w w' := by
  by_cases hx : wid h l = 0
  · have R : Hid (numR (wid h l) (clampE e) more = 0 ∧ ((flagR (wid h l) (clampE e) more : Nat) : Int) = if more then 3 else 0) := by
      show _ ∧ _
      unfold numR flagR
      rw [if_pos hx, if_pos hx]
      refine ⟨rfl, ?_⟩
      cases more <;> rfl
    have HX : Hid (_ = _) := hx
    clear hx
    cases more
    all_goals
      go_enter Try.func77, Try.ntmps77
      go_wp2_with fail
      refine (wZero _ _ _ a0 a1 a2 a3).mono ?_
      rintro r w1 ⟨rfl, hb1⟩
      rw [show decide (wid h l = 0) = true from decide_eq_true HX.out]
      have hbw : Below w.heap.size w w1 := ((Below.refl _ _).alloc (Nat.le_refl _) _).trans (hb1.mono (by simp))
      clear hb1
      go_wp2_with fail
      refine (pZero _ _ _).mono ?_
      rintro r w2 ⟨rfl, rfl⟩
      go_wp2
      go_ret2
      refine ⟨ret_eq (tup2 (int_eq ?_) (int_eq ?_)), hbw⟩
      · rw [R.out.1]; omega
      · rw [R.out.2]; rfl
  · obtain ⟨E, hE⟩ : ∃ E, clampE e = E := ⟨_, rfl⟩
    rw [hE]
    have hEb := clampE_bd e
    rw [hE] at hEb
    obtain ⟨hE0, hE1⟩ := hEb
    have CE : Hid (_ = _) := hE
    clear hE
    have hpos : 0 < wid h l := by omega
    obtain ⟨n, hn⟩ : ∃ n : Nat, (bl (wid h l)).length = n := ⟨_, rfl⟩
    have hn1 : n ≤ 128 := by rw [← hn]; exact (bl_length_le _ 128).2 (wid_lt h l a0 a1 a2 a3)
    have hn0 : 1 ≤ n := by rw [← hn]; exact (bl_length_lt _ 0).2 (by rw [Nat.pow_zero]; exact hpos)
    obtain ⟨L, hL⟩ : ∃ L, lastP (wid h l) E = L := ⟨_, rfl⟩
    have hL2 : L = max (E + (n : Int) - 53) (-1074) := by rw [← hL, ← hn]; rfl
    have hLb : -1074 ≤ L ∧ L ≤ 200000 := lastP_bd L E n hL2 hE0 hE1 hn1
    obtain ⟨nb1, nb2⟩ := near_bd (wid h l) E more hpos
    obtain ⟨rn1, rn2⟩ := round_num (wid h l) E more hpos
    rw [hL] at nb1 nb2 rn1 rn2
    rw [hn] at rn2
    obtain ⟨K, hK⟩ : ∃ K, nearN (wid h l) (L - E) more = K := ⟨_, rfl⟩
    obtain ⟨ix, hix⟩ : ∃ ix, inexN (wid h l) (L - E) more = ix := ⟨_, rfl⟩
    rw [hK] at nb1 nb2 rn1 rn2
    rw [hix] at rn2
    have RN : Hid (_ ∧ _) := ⟨rn1, rn2⟩
    have HL2 : Hid (_ = _) := hL2
    have HN : Hid (_ = _) := hn
    have HK : Hid (_ = _) := hK
    have HI : Hid (_ = _) := hix
    have HX : Hid (¬ _) := hx
    have NB : Hid (_ ∨ _) := nb2
    clear rn1 rn2 hL2 hn hL hK hix hx hpos nb2
    go_enter Try.func77, Try.ntmps77
    go_wp2_with fail
    refine (wZero _ _ _ a0 a1 a2 a3).mono ?_
    rintro r w1 ⟨rfl, hb1⟩
    rw [show decide (wid h l = 0) = false from decide_eq_false HX.out]
    have hbw : Below w.heap.size w w1 := ((Below.refl _ _).alloc (Nat.le_refl _) _).trans (hb1.mono (by simp))
    have f0 := hb1.cell (p := ⟨w.heap.size, 0, none⟩) (by simp)
    have f1 := hb1.cell (p := ⟨w.heap.size, 1, none⟩) (by simp)
    simp [go_sem] at f0 f1
    have hz1 := hbw.size
    clear hb1
    go_upto_region 3 with fail
    go_cut [2] (fun t wx => t = .int .i64 E ∧ wx = w1)
    case first =>
      by_cases c1 : e < -100000
      · go_wp2
        go_meet
        exact ⟨int_eq (by have := CE.out; unfold clampE at this; omega), rfl⟩
      · by_cases c2 : 100000 < e
        · go_wp2
          go_meet
          exact ⟨int_eq (by have := CE.out; unfold clampE at this; omega), rfl⟩
        · go_wp2
          go_meet
          exact ⟨int_eq (by have := CE.out; unfold clampE at this; omega), rfl⟩
    case rest =>
      obtain ⟨rfl, rfl⟩ := hcut
      go_wp2_with fail
      refine (wLen _ _ _ a0 a1 a2 a3).mono ?_
      rintro r w2 ⟨rfl, hb2⟩
      rw [HN.out]
      have g0 := cell_later hb2 f0
      have g1 := cell_later hb2 f1
      have hbx : Below w.heap.size w w2 := hbw.trans (hb2.mono hz1)
      clear hb2 f0 f1
      go_upto_region 5 with fail
      go_cut [11] (fun t wx => t = .int .i64 L ∧ wx = w2)
      case first =>
        by_cases c1 : (n : Int) + E - 53 < -1074
        · go_wp2
          go_meet
          exact ⟨int_eq (by have := HL2.out; omega), rfl⟩
        · go_wp2
          go_meet
          exact ⟨int_eq (by have := HL2.out; omega), rfl⟩
      case rest =>
        obtain ⟨rfl, rfl⟩ := hcut
        go_wp2_with fail
        refine (pNearest h l (L - E) more _ a0 a1 a2 a3 (by omega) (by omega) (by rw [HK.out]; omega)).mono ?_
        rintro r w3 ⟨rfl, hb3⟩
        rw [HK.out, HI.out]
        have hbz : Below w.heap.size w w3 := hbx.trans (hb3.mono (by have := hbx.size; omega))
        clear hb3 g0 g1
        go_wp2_with fail
        refine (pPattern neg K L _ (by omega) (by omega) (by have := NB.out; omega) (by omega) (by omega)).mono ?_
        rintro r w4 ⟨rfl, rfl⟩
        obtain ⟨P, hP⟩ : ∃ P : Nat, K + (L + 1074).toNat * 4503599627370496 = P := ⟨_, rfl⟩
        have hP2 : (K : Int) + (L + 1074) * 4503599627370496 = (P : Int) := by omega
        have RN2 : Hid (_ ∧ _) := hP ▸ RN.out
        rw [hP2]
        have hfp := fin_pat neg P
        have FP : Hid (_ = _) := hfp
        have hsb := sgnB_bd neg
        obtain ⟨b, hb⟩ : ∃ b, sgnB neg + min (P : Int) 9218868437227405312 = b := ⟨_, rfl⟩
        have hbb : 0 ≤ b ∧ b < 18446744073709551616 := by omega
        rw [hb] at hfp ⊢
        have HB : Hid (_ = _) := hb
        clear hP hP2 FP RN HK HI NB hb
        have HFP : Hid (_ = _) := hfp
        clear hfp hsb
        go_wp2_with fail
        refine (finite_any b _ hbb.1 hbb.2).mono ?_
        rintro r w5 ⟨rfl, rfl⟩
        rw [HFP.out]
        by_cases hov : P < 9218868437227405312
        · rw [show decide (P < 9218868437227405312) = true from decide_eq_true hov]
          cases ix
          · go_wp2
            go_ret2
            refine ⟨ret_eq (tup2 (int_eq ?_) (int_eq ?_)), hbz⟩
            · rw [RN2.out.1, ← HB.out]; omega
            · rw [RN2.out.2, if_neg (by omega)]; rfl
          · by_cases hs : (n : Int) + E ≤ -1022
            · go_wp2
              go_ret2
              refine ⟨ret_eq (tup2 (int_eq ?_) (int_eq ?_)), hbz⟩
              · rw [RN2.out.1, ← HB.out]; omega
              · rw [RN2.out.2, if_neg (by omega), if_pos True.intro, if_pos (by omega)]; rfl
            · go_wp2
              go_ret2
              refine ⟨ret_eq (tup2 (int_eq ?_) (int_eq ?_)), hbz⟩
              · rw [RN2.out.1, ← HB.out]; omega
              · rw [RN2.out.2, if_neg (by omega), if_pos True.intro, if_neg (by omega)]; rfl
        · rw [show decide (P < 9218868437227405312) = false from decide_eq_false hov]
          go_wp2
          go_ret2
          refine ⟨ret_eq (tup2 (int_eq ?_) (int_eq ?_)), hbz⟩
          · rw [RN2.out.1, ← HB.out]; omega
          · rw [RN2.out.2, if_pos (by omega)]; rfl
end Go.Proofs.Ytokgfeeaoioegaa
