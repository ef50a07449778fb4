/-
  What each function of package word returns, as integer arithmetic, at every pattern in [0, 2^64); the world stays as it is.
-/
import Derived.Test.YtaamonmkfgonmaaDoorHlp
import Derived.Test.YtaamonmkfgonmaaDoorWordM
import Derived.WalkKit
import Derived.ProofKit
namespace Go.Proofs.YtaamonmkfgonmaaDoor
open Go.ChangeShapes Go.WideShapes Go.ChangeAt Go.RowKit



theorem neg_any (b : Int) (w : World) (h0 : 0 ≤ b) (h1 : b < 18446744073709551616) :
    Calls Tryd.prog 23 #[.int .u64 b] w fun e w' => e = .returned (.bool (decide (9223372036854775808 ≤ b))) ∧ w' = w := by
  go_enter Tryd.func23, Tryd.ntmps23
  go_wp2
  go_ret
  refine ⟨ret_eq (bool_eq ?_), rfl⟩
  rw [and_sign b h0 h1]
  rw [Bool.eq_iff_iff]
  simp only [bne_iff_ne, ne_eq, decide_eq_true_eq]
  omega
theorem exp_any (b : Int) (w : World) (h0 : 0 ≤ b) (h1 : b < 18446744073709551616) :
    Calls Tryd.prog 26 #[.int .u64 b] w fun e w' => e = .returned (.int .i64 (b / 4503599627370496 % 2048)) ∧ w' = w := by
  go_enter Tryd.func26, Tryd.ntmps26
  go_wp2
  go_ret
  refine ⟨ret_eq (int_eq ?_), rfl⟩
  rw [and_exp _ (by omega) (by omega)]
  exact IntWalk.wrap64_in _ ⟨by omega, by omega⟩
theorem frac_any (b : Int) (w : World) (h0 : 0 ≤ b) (h1 : b < 18446744073709551616) :
    Calls Tryd.prog 27 #[.int .u64 b] w fun e w' => e = .returned (.int .u64 (b % 4503599627370496)) ∧ w' = w := by
  go_enter Tryd.func27, Tryd.ntmps27
  go_wp2
  go_ret
  exact ⟨ret_eq (int_eq (and_frac b h0 h1)), rfl⟩
theorem abs_any (b : Int) (w : World) (h0 : 0 ≤ b) (h1 : b < 18446744073709551616) :
    Calls Tryd.prog 22 #[.int .u64 b] w fun e w' => e = .returned (.int .u64 (b % 9223372036854775808)) ∧ w' = w := by
  go_enter Tryd.func22, Tryd.ntmps22
  go_wp2
  go_ret
  exact ⟨ret_eq (int_eq (andNot_sign b h0 h1)), rfl⟩
theorem flip_any (b : Int) (w : World) (h0 : 0 ≤ b) (h1 : b < 18446744073709551616) :
    Calls Tryd.prog 21 #[.int .u64 b] w fun e w' => e = .returned (.int .u64 (wFlip b)) ∧ w' = w := by
  go_enter Tryd.func21, Tryd.ntmps21
  go_wp2
  go_ret
  exact ⟨ret_eq (int_eq (xor_sign b h0 h1)), rfl⟩
theorem sign_any (b c : Int) (w : World) (h0 : 0 ≤ b) (h1 : b < 18446744073709551616) (g0 : 0 ≤ c) (g1 : c < 18446744073709551616) :
    Calls Tryd.prog 45 #[.int .u64 b, .int .u64 c] w fun e w' => e = .returned (.int .u64 (b % 9223372036854775808 + c / 9223372036854775808 * 9223372036854775808)) ∧ w' = w := by
  go_enter Tryd.func45, Tryd.ntmps45
  go_wp2_with (go_at_call 22; refine (abs_any _ _ h0 h1).mono ?_; rintro e w' ⟨rfl, rfl⟩)
  go_ret
  refine ⟨ret_eq (int_eq ?_), rfl⟩
  rw [and_sign c g0 g1, or_signs _ _ (by omega) (by omega) (by omega) (by omega)]
theorem kind_any (b : Int) (w : World) (h0 : 0 ≤ b) (h1 : b < 18446744073709551616) :
    Calls Tryd.prog 12 #[.int .u64 b] w fun e w' => e = .returned (.int .i64 (wKind b)) ∧ w' = w := by
  go_enter Tryd.func12, Tryd.ntmps12
  go_wp2_with (first | (go_at_call 26; refine (exp_any _ _ h0 h1).mono ?_; rintro e w' ⟨rfl, rfl⟩) | (go_at_call 27; refine (frac_any _ _ h0 h1).mono ?_; rintro e w' ⟨rfl, rfl⟩))
  all_goals go_ret
  all_goals refine ⟨ret_eq (int_eq ?_), rfl⟩
  all_goals (unfold wKind; simp_all <;> omega)
theorem make_any (n : Bool) (x b : Int) (w : World) (h0 : 0 ≤ b) (h1 : b < 18446744073709551616) :
    Calls Tryd.prog 62 #[.bool n, .int .i64 x, .int .u64 b] w fun e w' => e = .returned (.int .u64 (wMake n x b)) ∧ w' = w := by
  have e1 : bits .or .u64 (x % 2048 * 4503599627370496) (b % 4503599627370496) = x % 2048 * 4503599627370496 + b % 4503599627370496 := or_join52 _ _ (by omega) (by omega) (by omega) (by omega) (by omega)
  have e2 := or_sign (x % 2048 * 4503599627370496 + b % 4503599627370496) (by omega) (by omega)
  have e3 : IntKind.u64.wrap (x % 2048) = x % 2048 := by rw [IntKind.wrap_u64]; omega
  have e4 : IntKind.u64.wrap (x % 2048 * 4503599627370496) = x % 2048 * 4503599627370496 := by rw [IntKind.wrap_u64]; omega
  have E1 : Hid (_ = _) := e1
  have E2 : Hid (_ = _) := e2
  have E3 : Hid (_ = _) := e3
  have E4 : Hid (_ = _) := e4
  clear e1 e2 e3 e4
  go_enter Tryd.func62, Tryd.ntmps62
  go_wp2
  all_goals go_ret
  all_goals refine ⟨ret_eq (int_eq ?_), rfl⟩
  all_goals rw [and_exp_i, and_frac b h0 h1, E3.out, E4.out, E1.out]
  · rw [E2.out]; unfold wMake; simp_all; omega
  · unfold wMake; simp_all
theorem parts_any (b : Int) (w : World) (h0 : 0 ≤ b) (h1 : b < 18446744073709551616) :
    Calls Tryd.prog 41 #[.int .u64 b] w fun e w' => e = .returned (.tuple #[.int .u64 (wMant b), .int .i64 (wPow b)]) ∧ w' = w := by
  go_enter Tryd.func41, Tryd.ntmps41
  go_wp2_with (first | (go_at_call 12; refine (kind_any _ _ h0 h1).mono ?_; rintro e w' ⟨rfl, rfl⟩) | (go_at_call 26; refine (exp_any _ _ h0 h1).mono ?_; rintro e w' ⟨rfl, rfl⟩) | (go_at_call 27; refine (frac_any _ _ h0 h1).mono ?_; rintro e w' ⟨rfl, rfl⟩))
  all_goals go_ret2
  all_goals refine ⟨ret_eq (tup2 (int_eq ?_) (int_eq ?_)), rfl⟩
  all_goals (simp only [wMant, wPow]; simp_all)
  exact or_join52 _ _ (by omega) (by omega) (by omega) (by omega) (by omega)
end Go.Proofs.YtaamonmkfgonmaaDoor
