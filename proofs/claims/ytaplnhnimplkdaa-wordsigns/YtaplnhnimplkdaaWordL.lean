/-
  What the helpers of the laws of layer 1 return: the document's example holds; a pattern is split by division; which of two numbers is less.
-/
import Derived.Test.YtaplnhnimplkdaaWordC
import Derived.Deep.RegionWith
namespace Go.Proofs.Ytaplnhnimplkdaa
open Go.ChangeShapes Go.WideShapes Go.ChangeAt Go.RowKit

theorem split_any (b : Int) (w : World) (h0 : 0 ≤ b) (h1 : b < 18446744073709551616) :
    Calls Try.prog 16 #[.int .u64 b] w fun e w' => e = .returned (.tuple #[.int .u64 (b / 9223372036854775808), .int .u64 (b / 4503599627370496 % 2048), .int .u64 (b % 4503599627370496)]) ∧ w' = w := by
  go_enter Try.func16, Try.ntmps16
  go_wp2
  go_ret3
  exact ⟨ret_eq rfl, rfl⟩
theorem head_any (w : World) :
    Calls Try.prog 15 #[] w fun e w' => e = .returned (.bool true) ∧ w' = w := by
  have e1 : wMant 4607182418800017408 = 4503599627370496 := by decide +kernel
  have e2 : wPow 4607182418800017408 = -52 := by decide +kernel
  have e3 : wNext 9218868437227405311 = 9218868437227405312 := by decide +kernel
  have E1 : Hid (_ = _) := e1
  have E2 : Hid (_ = _) := e2
  have E3 : Hid (_ = _) := e3
  clear e1 e2 e3
  go_enter Try.func15, Try.ntmps15
  go_wp2_with fail
  refine (parts_any _ _ (by omega) (by omega)).mono ?_
  rintro e w' ⟨rfl, rfl⟩
  rw [E1.out, E2.out]
  go_wp2_with fail
  refine (next_any _ _ (by omega) (by omega)).mono ?_
  rintro e w' ⟨rfl, rfl⟩
  rw [E3.out]
  go_wp2
  go_ret
  exact ⟨ret_eq rfl, rfl⟩
/-- One number is less than another one, both no Nan. -/
def wLess (a b : Int) : Bool :=
  if 9223372036854775808 ≤ a then
    (if 9223372036854775808 ≤ b then decide (b % 9223372036854775808 < a % 9223372036854775808)
     else decide (0 < a % 9223372036854775808 ∨ 0 < b % 9223372036854775808))
  else (if 9223372036854775808 ≤ b then false else decide (a % 9223372036854775808 < b % 9223372036854775808))
theorem less_any (a b : Int) (w : World) (h0 : 0 ≤ a) (h1 : a < 18446744073709551616) (g0 : 0 ≤ b) (g1 : b < 18446744073709551616) :
    Calls Try.prog 30 #[.int .u64 a, .int .u64 b] w fun e w' => e = .returned (.bool (wLess a b)) ∧ w' = w := by
  go_enter Try.func30, Try.ntmps30
  go_wp2_with (first | (go_at_call_of 25 a; refine (abs_any _ _ h0 h1).mono ?_; rintro e w' ⟨rfl, rfl⟩) | (go_at_call_of 25 b; refine (abs_any _ _ g0 g1).mono ?_; rintro e w' ⟨rfl, rfl⟩) | (go_at_call_of 17 a; refine (neg_any _ _ h0 h1).mono ?_; rintro e w' ⟨rfl, rfl⟩) | (go_at_call_of 17 b; refine (neg_any _ _ g0 g1).mono ?_; rintro e w' ⟨rfl, rfl⟩))
  all_goals go_ret
  all_goals refine ⟨ret_eq (bool_eq ?_), rfl⟩
  all_goals (unfold wLess; repeat' split)
  all_goals (first | omega | (rw [Bool.eq_iff_iff]; simp; omega) | (simp; omega) | (simp; done))
end Go.Proofs.Ytaplnhnimplkdaa
