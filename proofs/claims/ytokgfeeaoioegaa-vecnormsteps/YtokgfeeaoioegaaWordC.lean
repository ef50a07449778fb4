/-
  What each function of package word returns, as integer arithmetic, at every pattern in [0, 2^64); the world stays as it is.
-/
import Derived.Test.YtokgfeeaoioegaaHlp
import Derived.Test.YtokgfeeaoioegaaWordM
import Derived.WalkKit
import Derived.ProofKit
namespace Go.Proofs.Ytokgfeeaoioegaa
open Go.ChangeShapes Go.WideShapes Go.ChangeAt Go.RowKit



theorem neg_any (b : Int) (w : World) (h0 : 0 ≤ b) (h1 : b < 18446744073709551616) :
    Calls Try.prog 65 #[.int .u64 b] w fun e w' => e = .returned (.bool (decide (9223372036854775808 ≤ b))) ∧ w' = w := by
  go_enter Try.func65, Try.ntmps65
  go_wp2
  go_ret
  refine ⟨ret_eq (bool_eq ?_), rfl⟩
  rw [and_sign b h0 h1]
  rw [Bool.eq_iff_iff]
  simp only [bne_iff_ne, ne_eq, decide_eq_true_eq]
  omega
theorem exp_any (b : Int) (w : World) (h0 : 0 ≤ b) (h1 : b < 18446744073709551616) :
    Calls Try.prog 89 #[.int .u64 b] w fun e w' => e = .returned (.int .i64 (b / 4503599627370496 % 2048)) ∧ w' = w := by
  go_enter Try.func89, Try.ntmps89
  go_wp2
  go_ret
  refine ⟨ret_eq (int_eq ?_), rfl⟩
  rw [and_exp _ (by omega) (by omega)]
  exact IntWalk.wrap64_in _ ⟨by omega, by omega⟩
theorem frac_any (b : Int) (w : World) (h0 : 0 ≤ b) (h1 : b < 18446744073709551616) :
    Calls Try.prog 90 #[.int .u64 b] w fun e w' => e = .returned (.int .u64 (b % 4503599627370496)) ∧ w' = w := by
  go_enter Try.func90, Try.ntmps90
  go_wp2
  go_ret
  exact ⟨ret_eq (int_eq (and_frac b h0 h1)), rfl⟩
theorem abs_any (b : Int) (w : World) (h0 : 0 ≤ b) (h1 : b < 18446744073709551616) :
    Calls Try.prog 48 #[.int .u64 b] w fun e w' => e = .returned (.int .u64 (b % 9223372036854775808)) ∧ w' = w := by
  go_enter Try.func48, Try.ntmps48
  go_wp2
  go_ret
  exact ⟨ret_eq (int_eq (andNot_sign b h0 h1)), rfl⟩
theorem flip_any (b : Int) (w : World) (h0 : 0 ≤ b) (h1 : b < 18446744073709551616) :
    Calls Try.prog 114 #[.int .u64 b] w fun e w' => e = .returned (.int .u64 (wFlip b)) ∧ w' = w := by
  go_enter Try.func114, Try.ntmps114
  go_wp2
  go_ret
  exact ⟨ret_eq (int_eq (xor_sign b h0 h1)), rfl⟩
theorem kind_any (b : Int) (w : World) (h0 : 0 ≤ b) (h1 : b < 18446744073709551616) :
    Calls Try.prog 87 #[.int .u64 b] w fun e w' => e = .returned (.int .i64 (wKind b)) ∧ w' = w := by
  go_enter Try.func87, Try.ntmps87
  go_wp2_with (first | (go_at_call 89; refine (exp_any _ _ h0 h1).mono ?_; rintro e w' ⟨rfl, rfl⟩) | (go_at_call 90; refine (frac_any _ _ h0 h1).mono ?_; rintro e w' ⟨rfl, rfl⟩))
  all_goals go_ret
  all_goals refine ⟨ret_eq (int_eq ?_), rfl⟩
  all_goals (unfold wKind; simp_all <;> omega)
theorem finite_any (b : Int) (w : World) (h0 : 0 ≤ b) (h1 : b < 18446744073709551616) :
    Calls Try.prog 57 #[.int .u64 b] w fun e w' => e = .returned (.bool (decide (b / 4503599627370496 % 2048 < 2047))) ∧ w' = w := by
  go_enter Try.func57, Try.ntmps57
  go_wp2_with (go_at_call 89; refine (exp_any _ _ h0 h1).mono ?_; rintro e w' ⟨rfl, rfl⟩)
  go_ret
  refine ⟨ret_eq (bool_eq ?_), rfl⟩
  rw [Bool.eq_iff_iff]
  simp only [bne_iff_ne, ne_eq, decide_eq_true_eq]
  omega
theorem signals_any (b : Int) (w : World) (h0 : 0 ≤ b) (h1 : b < 18446744073709551616) :
    Calls Try.prog 128 #[.int .u64 b] w fun e w' => e = .returned (.bool (decide (wKind b = 5 ∧ b / 2251799813685248 % 2 = 0))) ∧ w' = w := by
  go_enter Try.func128, Try.ntmps128
  go_wp2_with (go_at_call 87; refine (kind_any _ _ h0 h1).mono ?_; rintro e w' ⟨rfl, rfl⟩)
  all_goals go_ret
  all_goals refine ⟨ret_eq (bool_eq ?_), rfl⟩
  all_goals rw [Bool.eq_iff_iff]
  · rw [and_quiet b h0 h1]; simp_all; omega
  · simp_all
theorem make_any (n : Bool) (x b : Int) (w : World) (h0 : 0 ≤ b) (h1 : b < 18446744073709551616) :
    Calls Try.prog 126 #[.bool n, .int .i64 x, .int .u64 b] w fun e w' => e = .returned (.int .u64 (wMake n x b)) ∧ w' = w := by
  have e1 : bits .or .u64 (x % 2048 * 4503599627370496) (b % 4503599627370496) = x % 2048 * 4503599627370496 + b % 4503599627370496 := or_join52 _ _ (by omega) (by omega) (by omega) (by omega) (by omega)
  have e2 := or_sign (x % 2048 * 4503599627370496 + b % 4503599627370496) (by omega) (by omega)
  have e3 : IntKind.u64.wrap (x % 2048) = x % 2048 := by rw [IntKind.wrap_u64]; omega
  have e4 : IntKind.u64.wrap (x % 2048 * 4503599627370496) = x % 2048 * 4503599627370496 := by rw [IntKind.wrap_u64]; omega
  have E1 : Hid (_ = _) := e1
  have E2 : Hid (_ = _) := e2
  have E3 : Hid (_ = _) := e3
  have E4 : Hid (_ = _) := e4
  clear e1 e2 e3 e4
  go_enter Try.func126, Try.ntmps126
  go_wp2
  all_goals go_ret
  all_goals refine ⟨ret_eq (int_eq ?_), rfl⟩
  all_goals rw [and_exp_i, and_frac b h0 h1, E3.out, E4.out, E1.out]
  · rw [E2.out]; unfold wMake; simp_all; omega
  · unfold wMake; simp_all
theorem parts_any (b : Int) (w : World) (h0 : 0 ≤ b) (h1 : b < 18446744073709551616) :
    Calls Try.prog 63 #[.int .u64 b] w fun e w' => e = .returned (.tuple #[.int .u64 (wMant b), .int .i64 (wPow b)]) ∧ w' = w := by
  go_enter Try.func63, Try.ntmps63
  go_wp2_with (first | (go_at_call 87; refine (kind_any _ _ h0 h1).mono ?_; rintro e w' ⟨rfl, rfl⟩) | (go_at_call 89; refine (exp_any _ _ h0 h1).mono ?_; rintro e w' ⟨rfl, rfl⟩) | (go_at_call 90; refine (frac_any _ _ h0 h1).mono ?_; rintro e w' ⟨rfl, rfl⟩))
  all_goals go_ret2
  all_goals refine ⟨ret_eq (tup2 (int_eq ?_) (int_eq ?_)), rfl⟩
  all_goals (simp only [wMant, wPow]; simp_all)
  exact or_join52 _ _ (by omega) (by omega) (by omega) (by omega) (by omega)
end Go.Proofs.Ytokgfeeaoioegaa
