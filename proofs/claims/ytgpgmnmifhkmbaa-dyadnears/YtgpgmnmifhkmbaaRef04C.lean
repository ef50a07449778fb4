/-
  What the helpers of the reference of layer 4 return: what a pattern is, its sign, its number as a list of bits.
-/
import Derived.Test.YtgpgmnmifhkmbaaSoftM
import Derived.Test.YtgpgmnmifhkmbaaRef03C
import Derived.Test.YtgpgmnmifhkmbaaRef02G
import Derived.Test.YtgpgmnmifhkmbaaBst
import Derived.LoopN
namespace Go.Proofs.Ytgpgmnmifhkmbaa
open Go.RowKit
set_option linter.unusedVariables false

/-- A number's bits, and how far they stand above 2^-1074. -/
def rX (b : Int) : Nat := if b / 4503599627370496 % 2048 = 0 then (b % 4503599627370496).toNat else (b % 4503599627370496 + 4503599627370496).toNat
def rE (b : Int) : Nat := (b / 4503599627370496 % 2048).toNat - 1
theorem rX_lt (b : Int) : rX b < 9007199254740992 := by unfold rX; split <;> omega
theorem rE_lt (b : Int) : rE b ≤ 2046 := by unfold rE; omega
theorem raw_V (b : Int) (hf : mag b < 9218868437227405312) : V (mag b) = rX b * 2 ^ rE b := by
  unfold mag at *
  unfold V rX rE
  by_cases h : b / 4503599627370496 % 2048 = 0
  · rw [if_pos h, h, if_pos (by omega), show (0 : Int).toNat - 1 = 0 from rfl, Nat.pow_zero, Nat.mul_one]
    omega
  · rw [if_neg h, if_neg (by omega)]
    congr 1
    · omega
    · congr 1
      omega
theorem rX_zero (b : Int) (hf : mag b < 9218868437227405312) : rX b = 0 ↔ mag b = 0 := by
  unfold mag at *
  unfold rX
  split <;> omega
theorem V_len (b : Int) (hf : mag b < 9218868437227405312) : (bl (V (mag b))).length ≤ 2100 := by
  rw [raw_V b hf]
  have h1 := rX_lt b
  have h2 := rE_lt b
  rcases Nat.eq_zero_or_pos (rX b) with h | h
  · rw [h, Nat.zero_mul, bl_zero]; simp
  · rw [len_scale _ _ h]
    have := (bl_length_le (rX b) 53).2 (by omega)
    omega
theorem q4Parts (b : Int) (w : World) (h0 : 0 ≤ b) (h1 : b < 18446744073709551616) :
    Calls Try.prog 58 #[.int .u64 b] w fun e w' => e = .returned (.tuple #[.bool (sgn b), .int .i64 (b / 4503599627370496 % 2048), .int .u64 (b % 4503599627370496)]) ∧ w' = w := by
  have hw : IntKind.i64.wrap (b / 4503599627370496 % 2048) = b / 4503599627370496 % 2048 := by rw [IntKind.wrap_i64]; omega
  go_enter Try.func58, Try.ntmps58
  go_wp2
  go_ret3
  refine ⟨ret_eq (tup3 (bool_eq ?_) rfl rfl), rfl⟩
  unfold sgn
  rw [Bool.eq_iff_iff, beq_iff_eq, decide_eq_true_eq]
  omega
theorem q4Nan (b : Int) (w : World) (h0 : 0 ≤ b) (h1 : b < 18446744073709551616) :
    Calls Try.prog 81 #[.int .u64 b] w fun e w' => e = .returned (.bool (isNan b)) ∧ w' = w := by
  go_enter Try.func81, Try.ntmps81
  go_wp2_with (go_at_call 58; refine (q4Parts _ _ h0 h1).mono ?_; rintro e w' ⟨rfl, rfl⟩)
  all_goals go_ret
  all_goals refine ⟨ret_eq (bool_eq ?_), rfl⟩
  all_goals (unfold isNan mag; rw [Bool.eq_iff_iff]; simp_all <;> omega)
theorem q4Inf (b : Int) (w : World) (h0 : 0 ≤ b) (h1 : b < 18446744073709551616) :
    Calls Try.prog 52 #[.int .u64 b] w fun e w' => e = .returned (.bool (isInf b)) ∧ w' = w := by
  go_enter Try.func52, Try.ntmps52
  go_wp2_with (go_at_call 58; refine (q4Parts _ _ h0 h1).mono ?_; rintro e w' ⟨rfl, rfl⟩)
  all_goals go_ret
  all_goals refine ⟨ret_eq (bool_eq ?_), rfl⟩
  all_goals (unfold isInf mag; rw [Bool.eq_iff_iff]; simp_all <;> omega)
theorem q4Zero (b : Int) (w : World) (h0 : 0 ≤ b) (h1 : b < 18446744073709551616) :
    Calls Try.prog 53 #[.int .u64 b] w fun e w' => e = .returned (.bool (isZ b)) ∧ w' = w := by
  go_enter Try.func53, Try.ntmps53
  go_wp2_with (go_at_call 58; refine (q4Parts _ _ h0 h1).mono ?_; rintro e w' ⟨rfl, rfl⟩)
  all_goals go_ret
  all_goals refine ⟨ret_eq (bool_eq ?_), rfl⟩
  all_goals (unfold isZ mag; rw [Bool.eq_iff_iff]; simp_all <;> omega)
theorem q4Neg (b : Int) (w : World) (h0 : 0 ≤ b) (h1 : b < 18446744073709551616) :
    Calls Try.prog 55 #[.int .u64 b] w fun e w' => e = .returned (.bool (sgn b)) ∧ w' = w := by
  go_enter Try.func55, Try.ntmps55
  go_wp2_with (go_at_call 58; refine (q4Parts _ _ h0 h1).mono ?_; rintro e w' ⟨rfl, rfl⟩)
  go_ret
  exact ⟨ret_eq rfl, rfl⟩
theorem q4Signed (n : Bool) (b : Int) (w : World) (h0 : 0 ≤ b) (h1 : b < 9223372036854775808) :
    Calls Try.prog 54 #[.bool n, .int .u64 b] w fun e w' => e = .returned (.int .u64 (sgnB n + b)) ∧ w' = w := by
  have hw : IntKind.u64.wrap (b + 9223372036854775808) = b + 9223372036854775808 := by rw [IntKind.wrap_u64]; omega
  cases n
  all_goals
    go_enter Try.func54, Try.ntmps54
    go_wp2
    go_ret
    refine ⟨ret_eq (int_eq ?_), rfl⟩
    unfold sgnB
    simp <;> omega
theorem nan_sigs (b : Int) : sigs b = (isNan b && decide (b % 4503599627370496 < 2251799813685248)) := by
  unfold sigs isNan mag
  rw [Bool.eq_iff_iff]
  simp only [decide_eq_true_eq, Bool.and_eq_true]
  rw [wKind_nan]
  omega
set_option maxHeartbeats 1000000 in
theorem q4Nans (a b : Int) (k : Nat) (w : World) (h0 : 0 ≤ a) (h1 : a < 18446744073709551616) (g0 : 0 ≤ b) (g1 : b < 18446744073709551616)
    (c0 : w.cell? ⟨k, 0, none⟩ = some (.int .u64 a)) (c1 : w.cell? ⟨k, 1, none⟩ = some (.int .u64 b)) :
    Calls Try.prog 51 #[.slice (some ⟨k, 0, none⟩) 2 2] w fun e w' => e = .returned (.tuple #[.int .i64 (nanF a b), .bool (isNan a || isNan b)]) ∧ w' = w := by
  unfold nanF
  rw [nan_sigs, nan_sigs]
  obtain ⟨sa, hsa⟩ : ∃ s, isNan a = s := ⟨_, rfl⟩
  obtain ⟨sb, hsb⟩ : ∃ s, isNan b = s := ⟨_, rfl⟩
  rw [hsa, hsb]
  have SA : Hid (_ = _) := hsa
  have SB : Hid (_ = _) := hsb
  clear hsa hsb
  obtain ⟨fa, hfa⟩ : ∃ f, a % 4503599627370496 = f := ⟨_, rfl⟩
  obtain ⟨fb, hfb⟩ : ∃ f, b % 4503599627370496 = f := ⟨_, rfl⟩
  rw [hfa, hfb]
  have FA : Hid (_ = _) := hfa
  have FB : Hid (_ = _) := hfb
  clear hfa hfb
  by_cases ea : fa < 2251799813685248
  all_goals
    by_cases eb : fb < 2251799813685248
    all_goals
      cases sa
      all_goals
        cases sb
        all_goals
          go_enter Try.func51, Try.ntmps51
          go_wp2_with fail
          refine wp_loop_rounds 3 ?_
          rw [rounds_succ]
          go_wp2_with (first | (go_at_call 81; refine (q4Nan _ _ h0 h1).mono ?_; rintro e w' ⟨rfl, rfl⟩; rw [SA.out]) | (go_at_call 58; refine (q4Parts _ _ h0 h1).mono ?_; rintro e w' ⟨rfl, rfl⟩; rw [FA.out]))
          rw [rounds_succ]
          go_wp2_with (first | (go_at_call 81; refine (q4Nan _ _ g0 g1).mono ?_; rintro e w' ⟨rfl, rfl⟩; rw [SB.out]) | (go_at_call 58; refine (q4Parts _ _ g0 g1).mono ?_; rintro e w' ⟨rfl, rfl⟩; rw [FB.out]))
          rw [rounds_succ]
          go_wp2
          all_goals go_ret2
          all_goals refine ⟨ret_eq (tup2 (int_eq ?_) rfl), rfl⟩
          all_goals simp [*]
theorem q4Whole (b : Int) (w : World) (h0 : 0 ≤ b) (h1 : b < 18446744073709551616) (hf : mag b < 9218868437227405312) :
    Calls Try.prog 56 #[.int .u64 b] w fun e w' => ∃ v, e = .returned v ∧ Own w' w.heap.size v (bl (V (mag b))) ∧ Below w.heap.size w w' := by
  have RV := raw_V b hf
  have hl : ∀ x : Nat, x < 9007199254740992 → (bl x).length ≤ 53 := fun x hx => (bl_length_le x 53).2 (by omega)
  unfold rX rE at RV
  have f0 : 0 ≤ b % 4503599627370496 := by omega
  have f1 : b % 4503599627370496 < 4503599627370496 := by omega
  have e0 : 0 ≤ b / 4503599627370496 % 2048 := by omega
  have e1 : b / 4503599627370496 % 2048 < 2048 := by omega
  obtain ⟨f, hff⟩ : ∃ f, b % 4503599627370496 = f := ⟨_, rfl⟩
  obtain ⟨x, hxx⟩ : ∃ x, b / 4503599627370496 % 2048 = x := ⟨_, rfl⟩
  rw [hff] at RV f0 f1
  rw [hxx] at RV e0 e1
  have FF : Hid (_ = _) := hff
  have XX : Hid (_ = _) := hxx
  have R0 : Hid (_ = _) := RV
  clear hff hxx RV
  by_cases hz : x = 0
  · subst hz
    have R : Hid (f.toNat = V (mag b)) := by
      show _ = _
      rw [R0.out, if_pos rfl, show (0 : Int).toNat - 1 = 0 from rfl, Nat.pow_zero, Nat.mul_one]
    go_enter Try.func56, Try.ntmps56
    go_wp2_with fail
    refine (q4Parts _ _ h0 h1).mono ?_
    rintro e w1 ⟨rfl, rfl⟩
    rw [FF.out, XX.out]
    go_wp2_with fail
    refine (rOf _ _ f0 (by omega)).mono ?_
    rintro e w2 ⟨v2, rfl, own2, hb2⟩
    rw [R.out] at own2
    have OW : Hid (Own _ _ _ _) := own2
    clear own2
    go_wp2
    go_ret
    exact ⟨_, rfl, OW.out, hb2⟩
  · have R : Hid (2 ^ (x - 1).toNat * val (bl (f + 4503599627370496).toNat) = V (mag b)) := by
      show _ = _
      rw [R0.out, if_neg hz, val_bl, Nat.mul_comm, show (x - 1).toNat = x.toNat - 1 by omega]
    have hw : IntKind.u64.wrap (f + 4503599627370496) = f + 4503599627370496 := by rw [IntKind.wrap_u64]; omega
    have hl2 := hl (f + 4503599627370496).toNat (by omega)
    clear hl hf
    go_enter Try.func56, Try.ntmps56
    go_wp2_with fail
    refine (q4Parts _ _ h0 h1).mono ?_
    rintro e w1 ⟨rfl, rfl⟩
    rw [FF.out, XX.out]
    go_wp2_with fail
    refine (rOf _ _ (by omega) (by omega)).mono ?_
    rintro e w2 ⟨v2, rfl, own2, hb2⟩
    go_wp2_with fail
    refine (rUp _ _ _ _ own2.sees (bl_bin _) (by omega) (by omega)).mono ?_
    rintro e w3 ⟨v3, rfl, own3, hb3⟩
    rw [R.out] at own3
    have OW : Hid (Own _ _ _ _) := own3
    clear own3 own2
    go_wp2
    go_ret
    exact ⟨_, rfl, OW.out.base hb2.size, bstep hb2 hb3⟩
end Go.Proofs.Ytgpgmnmifhkmbaa
