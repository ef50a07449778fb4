/-
  What text of the statements of layer 8 returns: the text of Text of package hex. No conditions.
-/
import Derived.Test.YtaamonmkfgonmaaDoorHexD
namespace Go.Proofs.YtaamonmkfgonmaaDoor
open Go.RowKit
set_option linter.unusedVariables false
set_option linter.unusedSimpArgs false

theorem two_odd (k z F m : Nat) (h : 2 ^ k * F = 2 ^ z * (2 * m + 1)) (hF : F % 2 = 1) : k = z := by
  rcases Nat.lt_trichotomy k z with h1 | h1 | h1
  · obtain ⟨d, rfl⟩ : ∃ d, z = k + (d + 1) := ⟨z - k - 1, by omega⟩
    rw [Nat.pow_add, Nat.mul_assoc] at h
    have := Nat.eq_of_mul_eq_mul_left (Nat.two_pow_pos k) h
    rw [Nat.pow_succ, Nat.mul_assoc, Nat.mul_left_comm] at this
    omega
  · exact h1
  · obtain ⟨d, rfl⟩ : ∃ d, k = z + (d + 1) := ⟨k - z - 1, by omega⟩
    rw [Nat.pow_add, Nat.mul_assoc] at h
    have := Nat.eq_of_mul_eq_mul_left (Nat.two_pow_pos z) h
    rw [Nat.pow_succ, Nat.mul_assoc, Nat.mul_left_comm] at this
    omega
theorem ctz_is (M k F : Nat) (h0 : 0 < M) (h1 : M < 9007199254740992) (h : M = 2 ^ k * F) (hF : F % 2 = 1) : Lib.ctz 64 M = k ∧ M / 2 ^ k = F := by
  have e : Lib.ctz 64 M = Lib.ctzFrom 64 M := by unfold Lib.ctz; rw [if_neg (by omega)]
  obtain ⟨m, hm, _⟩ := Lib.ctzFrom_spec 64 M h0 (by omega)
  have := two_odd k _ F m (h.symm.trans hm) hF
  refine ⟨by rw [e, ← this], ?_⟩
  rw [h, Nat.mul_div_cancel_left _ (Nat.two_pow_pos k)]
/-- A minus, or nothing. -/
def sgS (b : Int) : List UInt8 := if 9223372036854775808 ≤ b then [45] else []
theorem txt_sg (b : Int) (h : wKind b ≠ 5) : txt b = sgS b ++ sizeT b := by
  unfold txt sgS
  rw [if_neg h]
  split <;> rfl
theorem size_is (b : Int) (M k F : Nat) (hk : wKind b = 2 ∨ wKind b = 3) (hM : wMant b = (M : Int)) (h0 : 0 < M) (h1 : M < 9007199254740992) (h : M = 2 ^ k * F) (hF : F % 2 = 1) : sizeT b = hxD F ++ [112] ++ Lib.itoa (wPow b + (k : Int)) := by
  obtain ⟨e1, e2⟩ := ctz_is M k F h0 h1 h hF
  unfold sizeT zB
  rw [if_neg (by omega), if_neg (by omega), show (wMant b).toNat = M by omega, e1, e2]
theorem mk4 (a b c d : List UInt8) : (⟨a.toArray⟩ : ByteArray) ++ ⟨b.toArray⟩ ++ ⟨c.toArray⟩ ++ ⟨d.toArray⟩ = ⟨(a ++ b ++ c ++ d).toArray⟩ := by
  rw [ByteArray.mk_append_mk, ByteArray.mk_append_mk, ByteArray.mk_append_mk]
theorem mk5 (a b c d e : List UInt8) : (⟨a.toArray⟩ : ByteArray) ++ ⟨b.toArray⟩ ++ ⟨c.toArray⟩ ++ ⟨d.toArray⟩ ++ ⟨e.toArray⟩ = ⟨(a ++ b ++ c ++ d ++ e).toArray⟩ := by
  rw [mk4, ByteArray.mk_append_mk]
theorem kind_facts (b : Int) (h0 : 0 ≤ b) (h1 : b < 18446744073709551616) : (wKind b = 1 ∧ b / 4503599627370496 % 2048 = 0 ∧ b % 4503599627370496 = 0) ∨ (wKind b = 2 ∧ b / 4503599627370496 % 2048 = 0 ∧ 0 < b % 4503599627370496 ∧ wMant b = b % 4503599627370496 ∧ wPow b = -1074) ∨ (wKind b = 3 ∧ 0 < b / 4503599627370496 % 2048 ∧ b / 4503599627370496 % 2048 < 2047 ∧ wMant b = 4503599627370496 + b % 4503599627370496 ∧ wPow b = b / 4503599627370496 % 2048 - 1075) ∨ (wKind b = 4 ∧ b / 4503599627370496 % 2048 = 2047 ∧ b % 4503599627370496 = 0) ∨ (wKind b = 5 ∧ b / 4503599627370496 % 2048 = 2047 ∧ 0 < b % 4503599627370496) := by
  by_cases e0 : b / 4503599627370496 % 2048 = 0
  · by_cases f0 : b % 4503599627370496 = 0
    · left; refine ⟨?_, e0, f0⟩; unfold wKind; rw [if_pos e0, if_pos f0]
    · right; left
      have k : wKind b = 2 := by unfold wKind; rw [if_pos e0, if_neg f0]
      refine ⟨k, e0, by omega, ?_, ?_⟩
      · unfold wMant; rw [k, if_neg (by decide), if_pos rfl]
      · unfold wPow; rw [k, if_neg (by decide), if_pos rfl]
  · by_cases e1 : b / 4503599627370496 % 2048 < 2047
    · right; right; left
      have k : wKind b = 3 := by unfold wKind; rw [if_neg e0, if_pos e1]
      refine ⟨k, by omega, e1, ?_, ?_⟩
      · unfold wMant; rw [k, if_pos rfl]
      · unfold wPow; rw [k, if_pos rfl]
    · by_cases f0 : b % 4503599627370496 = 0
      · right; right; right; left
        refine ⟨?_, by omega, f0⟩; unfold wKind; rw [if_neg e0, if_neg e1, if_pos f0]
      · right; right; right; right
        refine ⟨?_, by omega, by omega⟩; unfold wKind; rw [if_neg e0, if_neg e1, if_neg f0]
theorem neg_same (b : Int) (w : World) (h0 : 0 ≤ b) (h1 : b < 18446744073709551616) : Calls Tryd.prog 23 #[.int .u64 b] w fun e w' => e = .returned (.bool (decide (9223372036854775808 ≤ b))) ∧ w = w' := (neg_any b w h0 h1).mono fun e w' ⟨p, q⟩ => ⟨p, q.symm⟩
theorem exp_same (b : Int) (w : World) (h0 : 0 ≤ b) (h1 : b < 18446744073709551616) : Calls Tryd.prog 26 #[.int .u64 b] w fun e w' => e = .returned (.int .i64 (b / 4503599627370496 % 2048)) ∧ w = w' := (exp_any b w h0 h1).mono fun e w' ⟨p, q⟩ => ⟨p, q.symm⟩
theorem frac_same (b : Int) (w : World) (h0 : 0 ≤ b) (h1 : b < 18446744073709551616) : Calls Tryd.prog 27 #[.int .u64 b] w fun e w' => e = .returned (.int .u64 (b % 4503599627370496)) ∧ w = w' := (frac_any b w h0 h1).mono fun e w' ⟨p, q⟩ => ⟨p, q.symm⟩
set_option maxRecDepth 100000 in
set_option maxHeartbeats 4000000 in
theorem lText (b : Int) (w : World) (h0 : 0 ≤ b) (h1 : b < 18446744073709551616) :
    Calls Tryd.prog 13 #[.int .u64 b] w fun e w' => e = .returned (.string ⟨(txt b).toArray⟩) ∧ Below w.heap.size w w' := by
  obtain ⟨E, hE⟩ : ∃ E, b / 4503599627370496 % 2048 = E := ⟨_, rfl⟩
  obtain ⟨F0, hF0⟩ : ∃ F, b % 4503599627370496 = F := ⟨_, rfl⟩
  have HE : Hid (_ = E) := hE
  have HFr : Hid (_ = F0) := hF0
  have KF := kind_facts b h0 h1
  rw [hE, hF0] at KF
  have E0 : 0 ≤ E := by omega
  have E1 : E < 2048 := by omega
  have F1 : 0 ≤ F0 := by omega
  have F2 : F0 < 4503599627370496 := by omega
  clear hE hF0
  rcases KF with ⟨k, e0, f0⟩ | ⟨k, e0, f0, hM, hP⟩ | ⟨k, e0, e1, hM, hP⟩ | ⟨k, e0, f0⟩ | ⟨k, e0, f0⟩
  · by_cases hs : 9223372036854775808 ≤ b
    · have T : Hid (txt b = [45] ++ [48]) := by show _ = _; rw [txt_sg b (by omega)]; unfold sgS sizeT; rw [if_pos hs, if_neg (by omega), if_pos k]
      subst e0 f0
      clear k
      go_enter Tryd.func13, Tryd.ntmps13
      go_wp2_with (first | (go_at_call 23; refine (neg_same _ _ h0 h1).mono ?_; rintro e w' ⟨rfl, rfl⟩) | (go_at_call 26; refine (exp_same _ _ h0 h1).mono ?_; rintro e w' ⟨rfl, rfl⟩; rw [HE.out]) | (go_at_call 27; refine (frac_same _ _ h0 h1).mono ?_; rintro e w' ⟨rfl, rfl⟩; rw [HFr.out]))
      all_goals go_ret
      all_goals exact ⟨by rw [T.out, ← ByteArray.mk_append_mk]; rfl, Below.refl _ _⟩
    · have T : Hid (txt b = [] ++ [48]) := by show _ = _; rw [txt_sg b (by omega)]; unfold sgS sizeT; rw [if_neg hs, if_neg (by omega), if_pos k]
      subst e0 f0
      clear k
      go_enter Tryd.func13, Tryd.ntmps13
      go_wp2_with (first | (go_at_call 23; refine (neg_same _ _ h0 h1).mono ?_; rintro e w' ⟨rfl, rfl⟩) | (go_at_call 26; refine (exp_same _ _ h0 h1).mono ?_; rintro e w' ⟨rfl, rfl⟩; rw [HE.out]) | (go_at_call 27; refine (frac_same _ _ h0 h1).mono ?_; rintro e w' ⟨rfl, rfl⟩; rw [HFr.out]))
      all_goals go_ret
      all_goals exact ⟨by rw [T.out, ← ByteArray.mk_append_mk]; rfl, Below.refl _ _⟩
  · by_cases hs : 9223372036854775808 ≤ b
    · have SG : Hid (sgS b = [45]) := by show _ = _; unfold sgS; rw [if_pos hs]
      obtain ⟨M, hMM⟩ : ∃ M : Nat, wMant b = (M : Int) := ⟨(wMant b).toNat, by omega⟩
      have HM := Lib.hid hMM
      have mM : (M : Int) = F0 := by rw [← hMM, hM]
      have M0 : 0 < M := by omega
      have M1 : M < 9007199254740992 := by omega
      obtain ⟨P, hPP⟩ : ∃ P, wPow b = P := ⟨_, rfl⟩
      have HP := Lib.hid hPP
      rw [hP] at hPP
      have P0 : -1074 ≤ P := by omega
      have P1 : P ≤ 971 := by omega
      have K := Lib.hid k
      clear hM hMM hP k
      subst e0
      subst hPP
      have f2 : (F0 == 0) = false := by rw [beq_eq_false_iff_ne]; omega
      have MM := Lib.hid mM
      clear mM
      go_enter Tryd.func13, Tryd.ntmps13
      go_wp2_with (first | (go_at_call 23; refine (neg_same _ _ h0 h1).mono ?_; rintro e w' ⟨rfl, rfl⟩) | (go_at_call 26; refine (exp_same _ _ h0 h1).mono ?_; rintro e w' ⟨rfl, rfl⟩; rw [HE.out]) | (go_at_call 27; refine (frac_same _ _ h0 h1).mono ?_; rintro e w' ⟨rfl, rfl⟩; rw [HFr.out]))
      go_loopw [4, 5] (fun ve vf wr => ∃ (k F : Nat), ve = .int .i64 (-1074 + (k : Int)) ∧ vf = .int .u64 (F : Int) ∧ k ≤ 60 ∧ 0 < F ∧ F ≤ M ∧ Hid (M = 2 ^ k * F) ∧ wr = w) (fun _ vf _ => (intOf vf).toNat)
      case atStart => exact ⟨0, M, by go_num, by rw [MM.out], by omega, M0, Nat.le_refl _, by show _ = _; simp, rfl⟩
      case round =>
        obtain ⟨k, F, rfl, rfl, hk, hF, hFM, HK, rfl⟩ := hrel
        have hk53 : k < 54 := by
          rcases Nat.lt_or_ge k 54 with h | h
          · exact h
          · exfalso
            have h2 : 2 ^ 54 ≤ 2 ^ k := Nat.pow_le_pow_right (by decide) h
            have h3 : 2 ^ k * 1 ≤ 2 ^ k * F := Nat.mul_le_mul_left _ hF
            have := HK.out
            omega
        by_cases hodd : F % 2 = 1
        · have ho : ((F : Int) % 2 == 0) = false := by rw [beq_eq_false_iff_ne]; omega
          have ho' : ¬ (F : Int) % 2 = 0 := by omega
          have T : Hid (txt b = [45] ++ hxD F ++ [112] ++ Lib.itoa (-1074 + (k : Int))) := by
            show _ = _
            rw [txt_sg b (by have := K.out; omega), SG.out, size_is b M k F (by have := K.out; omega) HM.out M0 M1 HK.out hodd, HP.out]
            simp only [List.append_assoc]
          obtain ⟨S1, e1⟩ : ∃ S : ByteArray, ⟨(hxD F).toArray⟩ = S := ⟨_, rfl⟩
          have z1 : S1.size ≤ 16 := by rw [← e1, size_of_list]; exact hxD_len64 F (by omega)
          have R1 := Lib.hid e1
          clear e1 HK
          by_cases hneg : -1074 + (k : Int) < 0
          · obtain ⟨u, hu⟩ : ∃ u : Nat, -1074 + (k : Int) = -(u : Int) := ⟨(-(-1074 + (k : Int))).toNat, by omega⟩
            have u1 : 1 ≤ u := by omega
            have u2 : u < 18446744073709551616 := by omega
            obtain ⟨S2, e2⟩ : ∃ S : ByteArray, ⟨(Lib.decDigits u).toArray⟩ = S := ⟨_, rfl⟩
            have z2 : S2.size ≤ 20 := by rw [← e2, size_of_list]; exact dec_len64 u u2
            have R2 := Lib.hid e2
            have hw : IntKind.u64.wrap (-(-1074 + (k : Int))) = (u : Int) := by rw [IntKind.wrap_u64]; omega
            have HU := Lib.hid hu
            clear e2 hu
            have HR : Hid (⟨(txt b).toArray⟩ = (⟨#[45]⟩ ++ S1 ++ ⟨#[112]⟩ ++ ⟨#[45]⟩ ++ S2 : ByteArray)) := by
              show _ = _
              rw [T.out, HU.out, Lib.itoa_neg u u1, ← R1.out, ← R2.out]
              have := (mk5 [45] (hxD F) [112] [45] (Lib.decDigits u)).symm
              simp only [List.append_assoc, List.cons_append, List.nil_append] at this ⊢
              exact this
            clear T
            go_wp2_with (first | (go_at_call_of 17 (16 : Int); refine (lDig16 _ _ (by omega)).mono ?_; rintro e w1 ⟨rfl, hb1⟩; rw [R1.out]) | fail)
            refine (lDig10 u _ u2).mono ?_
            rintro e w2 ⟨rfl, hb2⟩
            rw [R2.out]
            go_wp2
            go_ret
            exact ⟨by rw [HR.out]; rfl, hb1.trans (hb2.mono hb1.size)⟩
          · exact absurd (show -1074 + (k : Int) < 0 by omega) hneg
        · have ho : ((F : Int) % 2 == 0) = true := by rw [beq_iff_eq]; omega
          have ho' : (F : Int) % 2 = 0 := by omega
          go_wp2
          go_roundw
          case rel =>
            refine ⟨k + 1, F / 2, by go_num, by go_num, by omega, by omega, by omega, ?_, by first | rfl | trivial⟩
            show _ = _
            rw [HK.out, Nat.pow_succ, Nat.mul_assoc]
            congr 1
            omega
          case measure => simp [intOf] <;> omega
    · have SG : Hid (sgS b = []) := by show _ = _; unfold sgS; rw [if_neg hs]
      obtain ⟨M, hMM⟩ : ∃ M : Nat, wMant b = (M : Int) := ⟨(wMant b).toNat, by omega⟩
      have HM := Lib.hid hMM
      have mM : (M : Int) = F0 := by rw [← hMM, hM]
      have M0 : 0 < M := by omega
      have M1 : M < 9007199254740992 := by omega
      obtain ⟨P, hPP⟩ : ∃ P, wPow b = P := ⟨_, rfl⟩
      have HP := Lib.hid hPP
      rw [hP] at hPP
      have P0 : -1074 ≤ P := by omega
      have P1 : P ≤ 971 := by omega
      have K := Lib.hid k
      clear hM hMM hP k
      subst e0
      subst hPP
      have f2 : (F0 == 0) = false := by rw [beq_eq_false_iff_ne]; omega
      have MM := Lib.hid mM
      clear mM
      go_enter Tryd.func13, Tryd.ntmps13
      go_wp2_with (first | (go_at_call 23; refine (neg_same _ _ h0 h1).mono ?_; rintro e w' ⟨rfl, rfl⟩) | (go_at_call 26; refine (exp_same _ _ h0 h1).mono ?_; rintro e w' ⟨rfl, rfl⟩; rw [HE.out]) | (go_at_call 27; refine (frac_same _ _ h0 h1).mono ?_; rintro e w' ⟨rfl, rfl⟩; rw [HFr.out]))
      go_loopw [4, 5] (fun ve vf wr => ∃ (k F : Nat), ve = .int .i64 (-1074 + (k : Int)) ∧ vf = .int .u64 (F : Int) ∧ k ≤ 60 ∧ 0 < F ∧ F ≤ M ∧ Hid (M = 2 ^ k * F) ∧ wr = w) (fun _ vf _ => (intOf vf).toNat)
      case atStart => exact ⟨0, M, by go_num, by rw [MM.out], by omega, M0, Nat.le_refl _, by show _ = _; simp, rfl⟩
      case round =>
        obtain ⟨k, F, rfl, rfl, hk, hF, hFM, HK, rfl⟩ := hrel
        have hk53 : k < 54 := by
          rcases Nat.lt_or_ge k 54 with h | h
          · exact h
          · exfalso
            have h2 : 2 ^ 54 ≤ 2 ^ k := Nat.pow_le_pow_right (by decide) h
            have h3 : 2 ^ k * 1 ≤ 2 ^ k * F := Nat.mul_le_mul_left _ hF
            have := HK.out
            omega
        by_cases hodd : F % 2 = 1
        · have ho : ((F : Int) % 2 == 0) = false := by rw [beq_eq_false_iff_ne]; omega
          have ho' : ¬ (F : Int) % 2 = 0 := by omega
          have T : Hid (txt b = [] ++ hxD F ++ [112] ++ Lib.itoa (-1074 + (k : Int))) := by
            show _ = _
            rw [txt_sg b (by have := K.out; omega), SG.out, size_is b M k F (by have := K.out; omega) HM.out M0 M1 HK.out hodd, HP.out]
            simp only [List.append_assoc]
          obtain ⟨S1, e1⟩ : ∃ S : ByteArray, ⟨(hxD F).toArray⟩ = S := ⟨_, rfl⟩
          have z1 : S1.size ≤ 16 := by rw [← e1, size_of_list]; exact hxD_len64 F (by omega)
          have R1 := Lib.hid e1
          clear e1 HK
          by_cases hneg : -1074 + (k : Int) < 0
          · obtain ⟨u, hu⟩ : ∃ u : Nat, -1074 + (k : Int) = -(u : Int) := ⟨(-(-1074 + (k : Int))).toNat, by omega⟩
            have u1 : 1 ≤ u := by omega
            have u2 : u < 18446744073709551616 := by omega
            obtain ⟨S2, e2⟩ : ∃ S : ByteArray, ⟨(Lib.decDigits u).toArray⟩ = S := ⟨_, rfl⟩
            have z2 : S2.size ≤ 20 := by rw [← e2, size_of_list]; exact dec_len64 u u2
            have R2 := Lib.hid e2
            have hw : IntKind.u64.wrap (-(-1074 + (k : Int))) = (u : Int) := by rw [IntKind.wrap_u64]; omega
            have HU := Lib.hid hu
            clear e2 hu
            have HR : Hid (⟨(txt b).toArray⟩ = (⟨#[]⟩ ++ S1 ++ ⟨#[112]⟩ ++ ⟨#[45]⟩ ++ S2 : ByteArray)) := by
              show _ = _
              rw [T.out, HU.out, Lib.itoa_neg u u1, ← R1.out, ← R2.out]
              have := (mk5 [] (hxD F) [112] [45] (Lib.decDigits u)).symm
              simp only [List.append_assoc, List.cons_append, List.nil_append] at this ⊢
              exact this
            clear T
            go_wp2_with (first | (go_at_call_of 17 (16 : Int); refine (lDig16 _ _ (by omega)).mono ?_; rintro e w1 ⟨rfl, hb1⟩; rw [R1.out]) | fail)
            refine (lDig10 u _ u2).mono ?_
            rintro e w2 ⟨rfl, hb2⟩
            rw [R2.out]
            go_wp2
            go_ret
            exact ⟨by rw [HR.out]; rfl, hb1.trans (hb2.mono hb1.size)⟩
          · exact absurd (show -1074 + (k : Int) < 0 by omega) hneg
        · have ho : ((F : Int) % 2 == 0) = true := by rw [beq_iff_eq]; omega
          have ho' : (F : Int) % 2 = 0 := by omega
          go_wp2
          go_roundw
          case rel =>
            refine ⟨k + 1, F / 2, by go_num, by go_num, by omega, by omega, by omega, ?_, by first | rfl | trivial⟩
            show _ = _
            rw [HK.out, Nat.pow_succ, Nat.mul_assoc]
            congr 1
            omega
          case measure => simp [intOf] <;> omega
  · by_cases hs : 9223372036854775808 ≤ b
    · have SG : Hid (sgS b = [45]) := by show _ = _; unfold sgS; rw [if_pos hs]
      obtain ⟨M, hMM⟩ : ∃ M : Nat, wMant b = (M : Int) := ⟨(wMant b).toNat, by omega⟩
      have HM := Lib.hid hMM
      have mM : (M : Int) = (4503599627370496 + F0) := by rw [← hMM, hM]
      have M0 : 0 < M := by omega
      have M1 : M < 9007199254740992 := by omega
      obtain ⟨P, hPP⟩ : ∃ P, wPow b = P := ⟨_, rfl⟩
      have HP := Lib.hid hPP
      rw [hP] at hPP
      have P0 : -1074 ≤ P := by omega
      have P1 : P ≤ 971 := by omega
      have K := Lib.hid k
      clear hM hMM hP k
      have e3 : ¬ E = 2047 := by omega
      have e4 : (E == 2047) = false := by rw [beq_eq_false_iff_ne]; exact e3
      have m2 : F0 + 4503599627370496 = (M : Int) := by omega
      have p2 : E - 1 - 1074 = P := by omega
      clear mM hPP
      go_enter Tryd.func13, Tryd.ntmps13
      go_wp2_with (first | (go_at_call 23; refine (neg_same _ _ h0 h1).mono ?_; rintro e w' ⟨rfl, rfl⟩) | (go_at_call 26; refine (exp_same _ _ h0 h1).mono ?_; rintro e w' ⟨rfl, rfl⟩; rw [HE.out]) | (go_at_call 27; refine (frac_same _ _ h0 h1).mono ?_; rintro e w' ⟨rfl, rfl⟩; rw [HFr.out]))
      go_loopw [4, 5] (fun ve vf wr => ∃ (k F : Nat), ve = .int .i64 (P + (k : Int)) ∧ vf = .int .u64 (F : Int) ∧ k ≤ 60 ∧ 0 < F ∧ F ≤ M ∧ Hid (M = 2 ^ k * F) ∧ wr = w) (fun _ vf _ => (intOf vf).toNat)
      case atStart => exact ⟨0, M, by go_num, by go_num, by omega, M0, Nat.le_refl _, by show _ = _; simp, rfl⟩
      case round =>
        obtain ⟨k, F, rfl, rfl, hk, hF, hFM, HK, rfl⟩ := hrel
        have hk53 : k < 54 := by
          rcases Nat.lt_or_ge k 54 with h | h
          · exact h
          · exfalso
            have h2 : 2 ^ 54 ≤ 2 ^ k := Nat.pow_le_pow_right (by decide) h
            have h3 : 2 ^ k * 1 ≤ 2 ^ k * F := Nat.mul_le_mul_left _ hF
            have := HK.out
            omega
        by_cases hodd : F % 2 = 1
        · have ho : ((F : Int) % 2 == 0) = false := by rw [beq_eq_false_iff_ne]; omega
          have ho' : ¬ (F : Int) % 2 = 0 := by omega
          have T : Hid (txt b = [45] ++ hxD F ++ [112] ++ Lib.itoa (P + (k : Int))) := by
            show _ = _
            rw [txt_sg b (by have := K.out; omega), SG.out, size_is b M k F (by have := K.out; omega) HM.out M0 M1 HK.out hodd, HP.out]
            simp only [List.append_assoc]
          obtain ⟨S1, e1⟩ : ∃ S : ByteArray, ⟨(hxD F).toArray⟩ = S := ⟨_, rfl⟩
          have z1 : S1.size ≤ 16 := by rw [← e1, size_of_list]; exact hxD_len64 F (by omega)
          have R1 := Lib.hid e1
          clear e1 HK
          by_cases hneg : P + (k : Int) < 0
          · obtain ⟨u, hu⟩ : ∃ u : Nat, P + (k : Int) = -(u : Int) := ⟨(-(P + (k : Int))).toNat, by omega⟩
            have u1 : 1 ≤ u := by omega
            have u2 : u < 18446744073709551616 := by omega
            obtain ⟨S2, e2⟩ : ∃ S : ByteArray, ⟨(Lib.decDigits u).toArray⟩ = S := ⟨_, rfl⟩
            have z2 : S2.size ≤ 20 := by rw [← e2, size_of_list]; exact dec_len64 u u2
            have R2 := Lib.hid e2
            have hw : IntKind.u64.wrap (-(P + (k : Int))) = (u : Int) := by rw [IntKind.wrap_u64]; omega
            have HU := Lib.hid hu
            clear e2 hu
            have HR : Hid (⟨(txt b).toArray⟩ = (⟨#[45]⟩ ++ S1 ++ ⟨#[112]⟩ ++ ⟨#[45]⟩ ++ S2 : ByteArray)) := by
              show _ = _
              rw [T.out, HU.out, Lib.itoa_neg u u1, ← R1.out, ← R2.out]
              have := (mk5 [45] (hxD F) [112] [45] (Lib.decDigits u)).symm
              simp only [List.append_assoc, List.cons_append, List.nil_append] at this ⊢
              exact this
            clear T
            go_wp2_with (first | (go_at_call_of 17 (16 : Int); refine (lDig16 _ _ (by omega)).mono ?_; rintro e w1 ⟨rfl, hb1⟩; rw [R1.out]) | fail)
            refine (lDig10 u _ u2).mono ?_
            rintro e w2 ⟨rfl, hb2⟩
            rw [R2.out]
            go_wp2
            go_ret
            exact ⟨by rw [HR.out]; rfl, hb1.trans (hb2.mono hb1.size)⟩
          · obtain ⟨u, hu⟩ : ∃ u : Nat, P + (k : Int) = (u : Int) := ⟨(P + (k : Int)).toNat, by omega⟩
            have u2 : u < 18446744073709551616 := by omega
            obtain ⟨S2, e2⟩ : ∃ S : ByteArray, ⟨(Lib.decDigits u).toArray⟩ = S := ⟨_, rfl⟩
            have z2 : S2.size ≤ 20 := by rw [← e2, size_of_list]; exact dec_len64 u u2
            have R2 := Lib.hid e2
            have hw : IntKind.u64.wrap (P + (k : Int)) = (u : Int) := by rw [IntKind.wrap_u64]; omega
            have HU := Lib.hid hu
            clear e2 hu
            have HR : Hid (⟨(txt b).toArray⟩ = (⟨#[45]⟩ ++ S1 ++ ⟨#[112]⟩ ++ S2 : ByteArray)) := by
              show _ = _
              rw [T.out, HU.out, Lib.itoa_nonneg, ← R1.out, ← R2.out]
              exact (mk4 [45] (hxD F) [112] (Lib.decDigits u)).symm
            clear T
            go_wp2_with (first | (go_at_call_of 17 (16 : Int); refine (lDig16 _ _ (by omega)).mono ?_; rintro e w1 ⟨rfl, hb1⟩; rw [R1.out]) | fail)
            refine (lDig10 u _ u2).mono ?_
            rintro e w2 ⟨rfl, hb2⟩
            rw [R2.out]
            go_wp2
            go_ret
            exact ⟨by rw [HR.out]; rfl, hb1.trans (hb2.mono hb1.size)⟩
        · have ho : ((F : Int) % 2 == 0) = true := by rw [beq_iff_eq]; omega
          have ho' : (F : Int) % 2 = 0 := by omega
          go_wp2
          go_roundw
          case rel =>
            refine ⟨k + 1, F / 2, by go_num, by go_num, by omega, by omega, by omega, ?_, by first | rfl | trivial⟩
            show _ = _
            rw [HK.out, Nat.pow_succ, Nat.mul_assoc]
            congr 1
            omega
          case measure => simp [intOf] <;> omega
    · have SG : Hid (sgS b = []) := by show _ = _; unfold sgS; rw [if_neg hs]
      obtain ⟨M, hMM⟩ : ∃ M : Nat, wMant b = (M : Int) := ⟨(wMant b).toNat, by omega⟩
      have HM := Lib.hid hMM
      have mM : (M : Int) = (4503599627370496 + F0) := by rw [← hMM, hM]
      have M0 : 0 < M := by omega
      have M1 : M < 9007199254740992 := by omega
      obtain ⟨P, hPP⟩ : ∃ P, wPow b = P := ⟨_, rfl⟩
      have HP := Lib.hid hPP
      rw [hP] at hPP
      have P0 : -1074 ≤ P := by omega
      have P1 : P ≤ 971 := by omega
      have K := Lib.hid k
      clear hM hMM hP k
      have e3 : ¬ E = 2047 := by omega
      have e4 : (E == 2047) = false := by rw [beq_eq_false_iff_ne]; exact e3
      have m2 : F0 + 4503599627370496 = (M : Int) := by omega
      have p2 : E - 1 - 1074 = P := by omega
      clear mM hPP
      go_enter Tryd.func13, Tryd.ntmps13
      go_wp2_with (first | (go_at_call 23; refine (neg_same _ _ h0 h1).mono ?_; rintro e w' ⟨rfl, rfl⟩) | (go_at_call 26; refine (exp_same _ _ h0 h1).mono ?_; rintro e w' ⟨rfl, rfl⟩; rw [HE.out]) | (go_at_call 27; refine (frac_same _ _ h0 h1).mono ?_; rintro e w' ⟨rfl, rfl⟩; rw [HFr.out]))
      go_loopw [4, 5] (fun ve vf wr => ∃ (k F : Nat), ve = .int .i64 (P + (k : Int)) ∧ vf = .int .u64 (F : Int) ∧ k ≤ 60 ∧ 0 < F ∧ F ≤ M ∧ Hid (M = 2 ^ k * F) ∧ wr = w) (fun _ vf _ => (intOf vf).toNat)
      case atStart => exact ⟨0, M, by go_num, by go_num, by omega, M0, Nat.le_refl _, by show _ = _; simp, rfl⟩
      case round =>
        obtain ⟨k, F, rfl, rfl, hk, hF, hFM, HK, rfl⟩ := hrel
        have hk53 : k < 54 := by
          rcases Nat.lt_or_ge k 54 with h | h
          · exact h
          · exfalso
            have h2 : 2 ^ 54 ≤ 2 ^ k := Nat.pow_le_pow_right (by decide) h
            have h3 : 2 ^ k * 1 ≤ 2 ^ k * F := Nat.mul_le_mul_left _ hF
            have := HK.out
            omega
        by_cases hodd : F % 2 = 1
        · have ho : ((F : Int) % 2 == 0) = false := by rw [beq_eq_false_iff_ne]; omega
          have ho' : ¬ (F : Int) % 2 = 0 := by omega
          have T : Hid (txt b = [] ++ hxD F ++ [112] ++ Lib.itoa (P + (k : Int))) := by
            show _ = _
            rw [txt_sg b (by have := K.out; omega), SG.out, size_is b M k F (by have := K.out; omega) HM.out M0 M1 HK.out hodd, HP.out]
            simp only [List.append_assoc]
          obtain ⟨S1, e1⟩ : ∃ S : ByteArray, ⟨(hxD F).toArray⟩ = S := ⟨_, rfl⟩
          have z1 : S1.size ≤ 16 := by rw [← e1, size_of_list]; exact hxD_len64 F (by omega)
          have R1 := Lib.hid e1
          clear e1 HK
          by_cases hneg : P + (k : Int) < 0
          · obtain ⟨u, hu⟩ : ∃ u : Nat, P + (k : Int) = -(u : Int) := ⟨(-(P + (k : Int))).toNat, by omega⟩
            have u1 : 1 ≤ u := by omega
            have u2 : u < 18446744073709551616 := by omega
            obtain ⟨S2, e2⟩ : ∃ S : ByteArray, ⟨(Lib.decDigits u).toArray⟩ = S := ⟨_, rfl⟩
            have z2 : S2.size ≤ 20 := by rw [← e2, size_of_list]; exact dec_len64 u u2
            have R2 := Lib.hid e2
            have hw : IntKind.u64.wrap (-(P + (k : Int))) = (u : Int) := by rw [IntKind.wrap_u64]; omega
            have HU := Lib.hid hu
            clear e2 hu
            have HR : Hid (⟨(txt b).toArray⟩ = (⟨#[]⟩ ++ S1 ++ ⟨#[112]⟩ ++ ⟨#[45]⟩ ++ S2 : ByteArray)) := by
              show _ = _
              rw [T.out, HU.out, Lib.itoa_neg u u1, ← R1.out, ← R2.out]
              have := (mk5 [] (hxD F) [112] [45] (Lib.decDigits u)).symm
              simp only [List.append_assoc, List.cons_append, List.nil_append] at this ⊢
              exact this
            clear T
            go_wp2_with (first | (go_at_call_of 17 (16 : Int); refine (lDig16 _ _ (by omega)).mono ?_; rintro e w1 ⟨rfl, hb1⟩; rw [R1.out]) | fail)
            refine (lDig10 u _ u2).mono ?_
            rintro e w2 ⟨rfl, hb2⟩
            rw [R2.out]
            go_wp2
            go_ret
            exact ⟨by rw [HR.out]; rfl, hb1.trans (hb2.mono hb1.size)⟩
          · obtain ⟨u, hu⟩ : ∃ u : Nat, P + (k : Int) = (u : Int) := ⟨(P + (k : Int)).toNat, by omega⟩
            have u2 : u < 18446744073709551616 := by omega
            obtain ⟨S2, e2⟩ : ∃ S : ByteArray, ⟨(Lib.decDigits u).toArray⟩ = S := ⟨_, rfl⟩
            have z2 : S2.size ≤ 20 := by rw [← e2, size_of_list]; exact dec_len64 u u2
            have R2 := Lib.hid e2
            have hw : IntKind.u64.wrap (P + (k : Int)) = (u : Int) := by rw [IntKind.wrap_u64]; omega
            have HU := Lib.hid hu
            clear e2 hu
            have HR : Hid (⟨(txt b).toArray⟩ = (⟨#[]⟩ ++ S1 ++ ⟨#[112]⟩ ++ S2 : ByteArray)) := by
              show _ = _
              rw [T.out, HU.out, Lib.itoa_nonneg, ← R1.out, ← R2.out]
              exact (mk4 [] (hxD F) [112] (Lib.decDigits u)).symm
            clear T
            go_wp2_with (first | (go_at_call_of 17 (16 : Int); refine (lDig16 _ _ (by omega)).mono ?_; rintro e w1 ⟨rfl, hb1⟩; rw [R1.out]) | fail)
            refine (lDig10 u _ u2).mono ?_
            rintro e w2 ⟨rfl, hb2⟩
            rw [R2.out]
            go_wp2
            go_ret
            exact ⟨by rw [HR.out]; rfl, hb1.trans (hb2.mono hb1.size)⟩
        · have ho : ((F : Int) % 2 == 0) = true := by rw [beq_iff_eq]; omega
          have ho' : (F : Int) % 2 = 0 := by omega
          go_wp2
          go_roundw
          case rel =>
            refine ⟨k + 1, F / 2, by go_num, by go_num, by omega, by omega, by omega, ?_, by first | rfl | trivial⟩
            show _ = _
            rw [HK.out, Nat.pow_succ, Nat.mul_assoc]
            congr 1
            omega
          case measure => simp [intOf] <;> omega
  · by_cases hs : 9223372036854775808 ≤ b
    · have T : Hid (txt b = [45] ++ [105, 110, 102]) := by show _ = _; rw [txt_sg b (by omega)]; unfold sgS sizeT; rw [if_pos hs, if_pos k]
      subst e0 f0
      clear k
      go_enter Tryd.func13, Tryd.ntmps13
      go_wp2_with (first | (go_at_call 23; refine (neg_same _ _ h0 h1).mono ?_; rintro e w' ⟨rfl, rfl⟩) | (go_at_call 26; refine (exp_same _ _ h0 h1).mono ?_; rintro e w' ⟨rfl, rfl⟩; rw [HE.out]) | (go_at_call 27; refine (frac_same _ _ h0 h1).mono ?_; rintro e w' ⟨rfl, rfl⟩; rw [HFr.out]))
      all_goals go_ret
      all_goals exact ⟨by rw [T.out, ← ByteArray.mk_append_mk]; rfl, Below.refl _ _⟩
    · have T : Hid (txt b = [] ++ [105, 110, 102]) := by show _ = _; rw [txt_sg b (by omega)]; unfold sgS sizeT; rw [if_neg hs, if_pos k]
      subst e0 f0
      clear k
      go_enter Tryd.func13, Tryd.ntmps13
      go_wp2_with (first | (go_at_call 23; refine (neg_same _ _ h0 h1).mono ?_; rintro e w' ⟨rfl, rfl⟩) | (go_at_call 26; refine (exp_same _ _ h0 h1).mono ?_; rintro e w' ⟨rfl, rfl⟩; rw [HE.out]) | (go_at_call 27; refine (frac_same _ _ h0 h1).mono ?_; rintro e w' ⟨rfl, rfl⟩; rw [HFr.out]))
      all_goals go_ret
      all_goals exact ⟨by rw [T.out, ← ByteArray.mk_append_mk]; rfl, Below.refl _ _⟩
  · have T : Hid (txt b = [110, 97, 110]) := by show _ = _; unfold txt; rw [if_pos k]
    have f0' : (0 : Int) < F0 := f0
    subst e0
    clear k
    go_enter Tryd.func13, Tryd.ntmps13
    go_wp2_with (first | (go_at_call 23; refine (neg_same _ _ h0 h1).mono ?_; rintro e w' ⟨rfl, rfl⟩) | (go_at_call 26; refine (exp_same _ _ h0 h1).mono ?_; rintro e w' ⟨rfl, rfl⟩; rw [HE.out]) | (go_at_call 27; refine (frac_same _ _ h0 h1).mono ?_; rintro e w' ⟨rfl, rfl⟩; rw [HFr.out]))
    all_goals go_ret
    all_goals exact ⟨by rw [T.out]; rfl, Below.refl _ _⟩
end Go.Proofs.YtaamonmkfgonmaaDoor
