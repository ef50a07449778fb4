/-
  What each function of package order returns, at every pattern in [0, 2^64) (Greatest apart).
-/
import Derived.Test.YtokgfeeaoioegaaLawM
import Derived.Test.YtokgfeeaoioegaaWordC
import Derived.Test.YtokgfeeaoioegaaSoftC
import Derived.Test.YtokgfeeaoioegaaBst
namespace Go.Proofs.Ytokgfeeaoioegaa
open Go.RowKit
set_option linter.unusedVariables false

/-- -1, 0 or 1. -/
def cmpW (x y : Int) : Int := if x < y then -1 else if y < x then 1 else 0
def place (b : Int) : Int := if 9223372036854775808 ≤ b then 18446744073709551615 - b else b + 9223372036854775808
def totS (a b : Int) : Int := cmpW (place a) (place b)
def cmpS (a b : Int) : Int := if isNan a || isNan b then 0 else cmpW (keyS a) (keyS b)
def lessS (a b : Int) : Bool := !(isNan a || isNan b) && decide (keyS a < keyS b)
def sameS (a b : Int) : Bool := !(isNan a || isNan b) && decide (keyS a = keyS b)
def maxS (a b : Int) : Int × Int := if isNan a || isNan b then (9221120237041090560, nanF a b) else (if totS a b < 0 then b else a, 0)
def minS (a b : Int) : Int × Int := if isNan a || isNan b then (9221120237041090560, nanF a b) else (if totS a b < 0 then a else b, 0)

theorem key_bd (b : Int) : -9223372036854775807 ≤ keyS b ∧ keyS b ≤ 9223372036854775807 := by
  have := mag_lt b
  unfold keyS
  split <;> omega
theorem oNan (b : Int) (w : World) (h0 : 0 ≤ b) (h1 : b < 18446744073709551616) :
    Calls Try.prog 84 #[.int .u64 b] w fun e w' => e = .returned (.bool (isNan b)) ∧ w' = w := by
  go_enter Try.func84, Try.ntmps84
  go_wp2_with (go_at_call 87; refine (kind_any _ _ h0 h1).mono ?_; rintro e w' ⟨rfl, rfl⟩)
  go_ret
  refine ⟨ret_eq (bool_eq ?_), rfl⟩
  rw [isNan_kind, Bool.eq_iff_iff, beq_iff_eq, decide_eq_true_eq]
theorem oCmpU (a b : Int) (w : World) :
    Calls Try.prog 85 #[.int .u64 a, .int .u64 b] w fun e w' => e = .returned (.int .i64 (cmpW a b)) ∧ w' = w := by
  go_enter Try.func85, Try.ntmps85
  go_wp2
  all_goals go_ret
  all_goals refine ⟨ret_eq (int_eq ?_), rfl⟩
  all_goals (unfold cmpW; (try simp at *); (repeat' split) <;> omega)
theorem xor_max (b : Int) (h0 : 0 ≤ b) (h1 : b < 18446744073709551616) : bits .xor .u64 IntKind.u64.max b = 18446744073709551615 - b := by
  have e : BitVec.ofInt 64 IntKind.u64.max = BitVec.allOnes 64 := by decide +kernel
  have key : (BitVec.ofInt 64 IntKind.u64.max ^^^ BitVec.ofInt 64 b).toNat = 18446744073709551615 - b.toNat := by
    rw [e, BitVec.allOnes_xor, BitVec.toNat_not, BitVec.toNat_ofInt]
    omega
  show IntKind.u64.wrap ((BitVec.ofInt 64 IntKind.u64.max ^^^ BitVec.ofInt 64 b).toNat : Nat) = _
  rw [key, IntKind.wrap_u64]
  omega
theorem less_eq (a b : Int) : lessS a b = (!(isNan a || isNan b) && decide (cmpS a b < 0)) := by
  unfold lessS cmpS cmpW
  cases isNan a <;> cases isNan b <;> simp
  repeat' split
  all_goals omega
theorem same_eq (a b : Int) : sameS a b = (!(isNan a || isNan b) && decide (cmpS a b = 0)) := by
  unfold sameS cmpS cmpW
  cases isNan a <;> cases isNan b <;> simp
  repeat' split
  all_goals omega
end Go.Proofs.Ytokgfeeaoioegaa
