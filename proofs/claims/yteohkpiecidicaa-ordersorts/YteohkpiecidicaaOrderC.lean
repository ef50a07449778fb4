/-
  What each function of package order returns, at every pattern in [0, 2^64) (Greatest apart).
-/
import Derived.Test.YteohkpiecidicaaLawM
import Derived.Test.YteohkpiecidicaaWordC
import Derived.Test.YteohkpiecidicaaSoftC
import Derived.Test.YteohkpiecidicaaBst
namespace Go.Proofs.Yteohkpiecidicaa
open Go.RowKit
set_option linter.unusedVariables false

/-- -1, 0 or 1. -/
def cmpZ (x y : Int) : Int := if x < y then -1 else if y < x then 1 else 0
def place (b : Int) : Int := if 9223372036854775808 ≤ b then 18446744073709551615 - b else b + 9223372036854775808
def totS (a b : Int) : Int := cmpZ (place a) (place b)
def cmpS (a b : Int) : Int := if isNan a || isNan b then 0 else cmpZ (keyS a) (keyS b)
def lessS (a b : Int) : Bool := !(isNan a || isNan b) && decide (keyS a < keyS b)
def sameS (a b : Int) : Bool := !(isNan a || isNan b) && decide (keyS a = keyS b)
def maxS (a b : Int) : Int × Int := if isNan a || isNan b then (9221120237041090560, nanF a b) else (if totS a b < 0 then b else a, 0)
def minS (a b : Int) : Int × Int := if isNan a || isNan b then (9221120237041090560, nanF a b) else (if totS a b < 0 then a else b, 0)

theorem key_bd (b : Int) : -9223372036854775807 ≤ keyS b ∧ keyS b ≤ 9223372036854775807 := by
  have := mag_lt b
  unfold keyS
  split <;> omega
theorem oNan (b : Int) (w : World) (h0 : 0 ≤ b) (h1 : b < 18446744073709551616) :
    Calls Try.prog 81 #[.int .u64 b] w fun e w' => e = .returned (.bool (isNan b)) ∧ w' = w := by
  go_enter Try.func81, Try.ntmps81
  go_wp2_with (go_at_call 40; refine (kind_any _ _ h0 h1).mono ?_; rintro e w' ⟨rfl, rfl⟩)
  go_ret
  refine ⟨ret_eq (bool_eq ?_), rfl⟩
  rw [isNan_kind, Bool.eq_iff_iff, beq_iff_eq, decide_eq_true_eq]
theorem oNo (a b : Int) (w : World) (h0 : 0 ≤ a) (h1 : a < 18446744073709551616) (g0 : 0 ≤ b) (g1 : b < 18446744073709551616) :
    Calls Try.prog 86 #[.int .u64 a, .int .u64 b] w fun e w' => e = .returned (.tuple #[.bool (isNan a || isNan b), .int .u8 (nanF a b)]) ∧ w' = w := by
  have ja : sigs a = true → isNan a = true := by rw [isNan_kind]; unfold sigs; simp only [decide_eq_true_eq]; exact fun h => h.1
  have jb : sigs b = true → isNan b = true := by rw [isNan_kind]; unfold sigs; simp only [decide_eq_true_eq]; exact fun h => h.1
  unfold nanF
  obtain ⟨sa, hsa⟩ : ∃ s, sigs a = s := ⟨_, rfl⟩
  obtain ⟨sb, hsb⟩ : ∃ s, sigs b = s := ⟨_, rfl⟩
  obtain ⟨na, hna⟩ : ∃ s, isNan a = s := ⟨_, rfl⟩
  obtain ⟨nb, hnb⟩ : ∃ s, isNan b = s := ⟨_, rfl⟩
  rw [hsa, hna] at ja
  rw [hsb, hnb] at jb
  rw [hsa, hsb, hna, hnb]
  unfold sigs at hsa hsb
  have SA : Hid (_ = _) := hsa
  have SB : Hid (_ = _) := hsb
  have NA : Hid (_ = _) := hna
  have NB : Hid (_ = _) := hnb
  have JA : Hid (_ → _) := ja
  have JB : Hid (_ → _) := jb
  clear hsa hsb hna hnb ja jb
  cases sa
  all_goals
    cases sb
    all_goals
      cases na
      all_goals
        cases nb
        all_goals
          go_enter Try.func86, Try.ntmps86
          go_wp2_with (first | (go_at_call 81; refine (oNan _ _ (by omega) (by omega)).mono ?_; rintro e w' ⟨rfl, rfl⟩; first | rw [NA.out] | rw [NB.out]) | (go_at_call 52; refine (signals_any _ _ (by omega) (by omega)).mono ?_; rintro e w' ⟨rfl, rfl⟩; first | rw [SA.out] | rw [SB.out]))
          go_ret2
          refine ⟨ret_eq (tup2 (bool_eq ?_) (int_eq ?_)), rfl⟩
          · have := JA.out; have := JB.out; simp_all
          · rfl
theorem oCmpI (a b : Int) (w : World) :
    Calls Try.prog 82 #[.int .i64 a, .int .i64 b] w fun e w' => e = .returned (.int .i64 (cmpZ a b)) ∧ w' = w := by
  go_enter Try.func82, Try.ntmps82
  go_wp2
  all_goals go_ret
  all_goals refine ⟨ret_eq (int_eq ?_), rfl⟩
  all_goals (unfold cmpZ; (try simp at *); (repeat' split) <;> omega)
theorem oCmpU (a b : Int) (w : World) :
    Calls Try.prog 84 #[.int .u64 a, .int .u64 b] w fun e w' => e = .returned (.int .i64 (cmpZ a b)) ∧ w' = w := by
  go_enter Try.func84, Try.ntmps84
  go_wp2
  all_goals go_ret
  all_goals refine ⟨ret_eq (int_eq ?_), rfl⟩
  all_goals (unfold cmpZ; (try simp at *); (repeat' split) <;> omega)
theorem oRank (b : Int) (w : World) (h0 : 0 ≤ b) (h1 : b < 18446744073709551616) :
    Calls Try.prog 83 #[.int .u64 b] w fun e w' => e = .returned (.int .i64 (keyS b)) ∧ w' = w := by
  go_enter Try.func83, Try.ntmps83
  go_wp2_with (first | (go_at_call 30; refine (abs_any _ _ h0 h1).mono ?_; rintro e w' ⟨rfl, rfl⟩) | (go_at_call 24; refine (neg_any _ _ h0 h1).mono ?_; rintro e w' ⟨rfl, rfl⟩))
  all_goals go_ret
  all_goals refine ⟨ret_eq (int_eq ?_), rfl⟩
  all_goals (unfold keyS sgn mag; simp_all <;> omega)
theorem xor_max (b : Int) (h0 : 0 ≤ b) (h1 : b < 18446744073709551616) : bits .xor .u64 IntKind.u64.max b = 18446744073709551615 - b := by
  have e : BitVec.ofInt 64 IntKind.u64.max = BitVec.allOnes 64 := by decide +kernel
  have key : (BitVec.ofInt 64 IntKind.u64.max ^^^ BitVec.ofInt 64 b).toNat = 18446744073709551615 - b.toNat := by
    rw [e, BitVec.allOnes_xor, BitVec.toNat_not, BitVec.toNat_ofInt]
    omega
  show IntKind.u64.wrap ((BitVec.ofInt 64 IntKind.u64.max ^^^ BitVec.ofInt 64 b).toNat : Nat) = _
  rw [key, IntKind.wrap_u64]
  omega
theorem oPlace (b : Int) (w : World) (h0 : 0 ≤ b) (h1 : b < 18446744073709551616) :
    Calls Try.prog 85 #[.int .u64 b] w fun e w' => e = .returned (.int .u64 (place b)) ∧ w' = w := by
  go_enter Try.func85, Try.ntmps85
  go_wp2_with (first | (go_at_call 38; refine (flip_any _ _ h0 h1).mono ?_; rintro e w' ⟨rfl, rfl⟩) | (go_at_call 24; refine (neg_any _ _ h0 h1).mono ?_; rintro e w' ⟨rfl, rfl⟩))
  all_goals go_ret
  all_goals refine ⟨ret_eq (int_eq ?_), rfl⟩
  all_goals (try rw [xor_max b h0 h1])
  all_goals (unfold place; (try simp at *); (repeat' split) <;> first | omega | (unfold wFlip; omega))
theorem oTotal (a b : Int) (w : World) (h0 : 0 ≤ a) (h1 : a < 18446744073709551616) (g0 : 0 ≤ b) (g1 : b < 18446744073709551616) :
    Calls Try.prog 49 #[.int .u64 a, .int .u64 b] w fun e w' => e = .returned (.int .i64 (totS a b)) ∧ w' = w := by
  go_enter Try.func49, Try.ntmps49
  go_wp2_with fail
  refine (oPlace _ _ h0 h1).mono ?_
  rintro e w' ⟨rfl, rfl⟩
  go_wp2_with fail
  refine (oPlace _ _ g0 g1).mono ?_
  rintro e w' ⟨rfl, rfl⟩
  go_wp2_with fail
  refine (oCmpU _ _ _).mono ?_
  rintro e w' ⟨rfl, rfl⟩
  go_wp2
  go_ret
  exact ⟨ret_eq rfl, rfl⟩
theorem oCmp (a b : Int) (w : World) (h0 : 0 ≤ a) (h1 : a < 18446744073709551616) (g0 : 0 ≤ b) (g1 : b < 18446744073709551616) :
    Calls Try.prog 42 #[.int .u64 a, .int .u64 b] w fun e w' => e = .returned (.tuple #[.int .i64 (cmpS a b), .bool (!(isNan a || isNan b))]) ∧ w' = w := by
  unfold cmpS
  obtain ⟨na, hna⟩ : ∃ s, isNan a = s := ⟨_, rfl⟩
  obtain ⟨nb, hnb⟩ : ∃ s, isNan b = s := ⟨_, rfl⟩
  rw [hna, hnb]
  have NA : Hid (_ = _) := hna
  have NB : Hid (_ = _) := hnb
  clear hna hnb
  cases na
  all_goals
    cases nb
    all_goals
      go_enter Try.func42, Try.ntmps42
      go_wp2_with (first | (go_at_call 81; refine (oNan _ _ (by omega) (by omega)).mono ?_; rintro e w' ⟨rfl, rfl⟩; first | rw [NA.out] | rw [NB.out]) | (go_at_call 83; refine (oRank _ _ (by omega) (by omega)).mono ?_; rintro e w' ⟨rfl, rfl⟩) | (go_at_call 82; refine (oCmpI _ _ _).mono ?_; rintro e w' ⟨rfl, rfl⟩))
      go_ret2
      refine ⟨ret_eq (tup2 (int_eq ?_) (bool_eq ?_)), rfl⟩
      · simp
      · rfl
theorem less_eq (a b : Int) : lessS a b = (!(isNan a || isNan b) && decide (cmpS a b < 0)) := by
  unfold lessS cmpS cmpZ
  cases isNan a <;> cases isNan b <;> simp
  repeat' split
  all_goals omega
theorem same_eq (a b : Int) : sameS a b = (!(isNan a || isNan b) && decide (cmpS a b = 0)) := by
  unfold sameS cmpS cmpZ
  cases isNan a <;> cases isNan b <;> simp
  repeat' split
  all_goals omega
theorem oLess (a b : Int) (w : World) (h0 : 0 ≤ a) (h1 : a < 18446744073709551616) (g0 : 0 ≤ b) (g1 : b < 18446744073709551616) :
    Calls Try.prog 44 #[.int .u64 a, .int .u64 b] w fun e w' => e = .returned (.bool (lessS a b)) ∧ w' = w := by
  rw [less_eq]
  obtain ⟨n, hn⟩ : ∃ s, (!(isNan a || isNan b)) = s := ⟨_, rfl⟩
  have N : Hid (_ = _) := hn
  rw [hn]
  clear hn
  cases n
  all_goals
    go_enter Try.func44, Try.ntmps44
    go_wp2_with (go_at_call 42; refine (oCmp _ _ _ h0 h1 g0 g1).mono ?_; rintro e w' ⟨rfl, rfl⟩; rw [N.out])
    go_ret
    refine ⟨ret_eq (bool_eq ?_), rfl⟩
    simp
theorem oSame (a b : Int) (w : World) (h0 : 0 ≤ a) (h1 : a < 18446744073709551616) (g0 : 0 ≤ b) (g1 : b < 18446744073709551616) :
    Calls Try.prog 45 #[.int .u64 a, .int .u64 b] w fun e w' => e = .returned (.bool (sameS a b)) ∧ w' = w := by
  rw [same_eq]
  obtain ⟨n, hn⟩ : ∃ s, (!(isNan a || isNan b)) = s := ⟨_, rfl⟩
  have N : Hid (_ = _) := hn
  rw [hn]
  clear hn
  cases n
  all_goals
    go_enter Try.func45, Try.ntmps45
    go_wp2_with (go_at_call 42; refine (oCmp _ _ _ h0 h1 g0 g1).mono ?_; rintro e w' ⟨rfl, rfl⟩; rw [N.out])
    go_ret
    refine ⟨ret_eq (bool_eq ?_), rfl⟩
    first | rfl | (rw [Bool.eq_iff_iff, beq_iff_eq]; simp)
theorem oMax (a b : Int) (w : World) (h0 : 0 ≤ a) (h1 : a < 18446744073709551616) (g0 : 0 ≤ b) (g1 : b < 18446744073709551616) :
    Calls Try.prog 50 #[.int .u64 a, .int .u64 b] w fun e w' => e = .returned (.tuple #[.int .u64 (maxS a b).1, .int .u8 (maxS a b).2]) ∧ w' = w := by
  unfold maxS
  obtain ⟨n, hn⟩ : ∃ s, (isNan a || isNan b) = s := ⟨_, rfl⟩
  obtain ⟨F, hF⟩ : ∃ s, nanF a b = s := ⟨_, rfl⟩
  obtain ⟨t, ht⟩ : ∃ s, totS a b = s := ⟨_, rfl⟩
  have N : Hid (_ = _) := hn
  have HF : Hid (_ = _) := hF
  have HT : Hid (_ = _) := ht
  rw [hn, hF, ht]
  clear hn hF ht
  cases n
  · by_cases hlt : t < 0
    all_goals
      go_enter Try.func50, Try.ntmps50
      go_wp2_with (first | (go_at_call 86; refine (oNo _ _ _ h0 h1 g0 g1).mono ?_; rintro e w' ⟨rfl, rfl⟩; rw [N.out, HF.out]) | (go_at_call 49; refine (oTotal _ _ _ h0 h1 g0 g1).mono ?_; rintro e w' ⟨rfl, rfl⟩; rw [HT.out]))
      go_ret2
      refine ⟨ret_eq (tup2 (int_eq ?_) (int_eq ?_)), rfl⟩
      · first | exact (if_pos hlt).symm | exact (if_neg hlt).symm | simp_all
      · simp
  · go_enter Try.func50, Try.ntmps50
    go_wp2_with (go_at_call 86; refine (oNo _ _ _ h0 h1 g0 g1).mono ?_; rintro e w' ⟨rfl, rfl⟩; rw [N.out, HF.out])
    go_ret2
    exact ⟨ret_eq (tup2 (int_eq rfl) (int_eq rfl)), rfl⟩
theorem oMin (a b : Int) (w : World) (h0 : 0 ≤ a) (h1 : a < 18446744073709551616) (g0 : 0 ≤ b) (g1 : b < 18446744073709551616) :
    Calls Try.prog 51 #[.int .u64 a, .int .u64 b] w fun e w' => e = .returned (.tuple #[.int .u64 (minS a b).1, .int .u8 (minS a b).2]) ∧ w' = w := by
  unfold minS
  obtain ⟨n, hn⟩ : ∃ s, (isNan a || isNan b) = s := ⟨_, rfl⟩
  obtain ⟨F, hF⟩ : ∃ s, nanF a b = s := ⟨_, rfl⟩
  obtain ⟨t, ht⟩ : ∃ s, totS a b = s := ⟨_, rfl⟩
  have N : Hid (_ = _) := hn
  have HF : Hid (_ = _) := hF
  have HT : Hid (_ = _) := ht
  rw [hn, hF, ht]
  clear hn hF ht
  cases n
  · by_cases hlt : t < 0
    all_goals
      go_enter Try.func51, Try.ntmps51
      go_wp2_with (first | (go_at_call 86; refine (oNo _ _ _ h0 h1 g0 g1).mono ?_; rintro e w' ⟨rfl, rfl⟩; rw [N.out, HF.out]) | (go_at_call 49; refine (oTotal _ _ _ h0 h1 g0 g1).mono ?_; rintro e w' ⟨rfl, rfl⟩; rw [HT.out]))
      go_ret2
      refine ⟨ret_eq (tup2 (int_eq ?_) (int_eq ?_)), rfl⟩
      · first | exact (if_pos hlt).symm | exact (if_neg hlt).symm | simp_all
      · simp
  · go_enter Try.func51, Try.ntmps51
    go_wp2_with (go_at_call 86; refine (oNo _ _ _ h0 h1 g0 g1).mono ?_; rintro e w' ⟨rfl, rfl⟩; rw [N.out, HF.out])
    go_ret2
    exact ⟨ret_eq (tup2 (int_eq rfl) (int_eq rfl)), rfl⟩
theorem oHead (w : World) : Calls Try.prog 41 #[] w fun e w' => e = .returned (.bool true) ∧ w' = w := by
  have A : Hid (maxS 9223372036854775808 0 = (0, 0)) := by show _ = _; decide +kernel
  have B : Hid (cmpS 9223372036854775808 0 = 0) := by show _ = _; decide +kernel
  have C : Hid ((!(isNan 9223372036854775808 || isNan 0)) = true) := by show _ = _; decide +kernel
  go_enter Try.func41, Try.ntmps41
  go_wp2_with fail
  refine (oMax _ _ _ (by omega) (by omega) (by omega) (by omega)).mono ?_
  rintro e w1 ⟨rfl, rfl⟩
  rw [A.out]
  go_wp2_with fail
  refine (oCmp _ _ _ (by omega) (by omega) (by omega) (by omega)).mono ?_
  rintro e w1 ⟨rfl, rfl⟩
  rw [B.out, C.out]
  go_wp2
  go_ret
  exact ⟨ret_eq rfl, rfl⟩
end Go.Proofs.Yteohkpiecidicaa
