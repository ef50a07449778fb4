/-
  What the reference's Nans returns of one pattern.
-/
import Derived.Test.YteohkpiecidicaaMoreM
import Derived.Test.YteohkpiecidicaaRef04C
namespace Go.Proofs.Yteohkpiecidicaa
open Go.RowKit
set_option linter.unusedVariables false

/-- A pattern is no Nan, a quiet one, or one that signals. -/
theorem three (a : Int) : (isNan a = false ∧ sigs a = false) ∨ (isNan a = true ∧ sigs a = false ∧ ¬ a % 4503599627370496 < 2251799813685248) ∨ (isNan a = true ∧ sigs a = true ∧ a % 4503599627370496 < 2251799813685248) := by
  rw [nan_sigs]
  cases isNan a
  · left; simp
  · by_cases h : a % 4503599627370496 < 2251799813685248
    · right; right; simp [h]
    · right; left; simp [h]
theorem q5Nan1 (a : Int) (k : Nat) (w : World) (h0 : 0 ≤ a) (h1 : a < 18446744073709551616) (c0 : w.cell? ⟨k, 0, none⟩ = some (.int .u64 a)) :
    Calls Try.prog 57 #[.slice (some ⟨k, 0, none⟩) 1 1] w fun e w' => e = .returned (.tuple #[.int .i64 (nanF a a), .bool (isNan a)]) ∧ w' = w := by
  unfold nanF
  rw [Bool.or_self]
  obtain ⟨fa, hfa⟩ : ∃ f, a % 4503599627370496 = f := ⟨_, rfl⟩
  rcases three a with ⟨n, s⟩ | ⟨n, s, f⟩ | ⟨n, s, f⟩
  all_goals
    rw [n, s]
    (try rw [hfa] at f)
    have NA : Hid (_ = _) := n
    have FA : Hid (a % 4503599627370496 = fa) := hfa
  all_goals
    clear n s hfa
    go_enter Try.func57, Try.ntmps57
    go_wp2_with fail
    refine wp_loop_rounds 2 ?_
    rw [rounds_succ]
    go_wp2_with (first | (go_at_call 43; refine (q4Nan _ _ h0 h1).mono ?_; rintro e w' ⟨rfl, rfl⟩; rw [NA.out]) | (go_at_call 59; refine (q4Parts _ _ h0 h1).mono ?_; rintro e w' ⟨rfl, rfl⟩; rw [FA.out]))
    rw [rounds_succ]
    go_wp2
    all_goals go_ret2
    all_goals refine ⟨ret_eq (tup2 (int_eq ?_) rfl), rfl⟩
    all_goals simp
end Go.Proofs.Yteohkpiecidicaa
