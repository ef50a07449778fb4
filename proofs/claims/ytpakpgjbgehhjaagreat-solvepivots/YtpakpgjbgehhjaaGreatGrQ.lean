/-
  Texts put together: MatS MatT MatU.
-/
import Derived.Test.YtpakpgjbgehhjaaGreatProg
import Derived.Test.YtpakpgjbgehhjaaGreatGrO
import Derived.Test.YtpakpgjbgehhjaaGreatGrN
/-
  What mat's Square returns: the sum of the squares, exactly. Conditions: a matrix that is right, of at most 1024 numbers.
-/
namespace Go.Proofs.YtpakpgjbgehhjaaGreat
open Go.RowKit
set_option linter.unusedVariables false
set_option linter.unusedSimpArgs false

end Go.Proofs.YtpakpgjbgehhjaaGreat

/-
  What mat's One returns. Conditions: at most 64 rows.
-/
namespace Go.Proofs.YtpakpgjbgehhjaaGreat
open Go.RowKit
set_option linter.unusedVariables false
set_option linter.unusedSimpArgs false

/-- The first j rows are the identity's; the others are zeros. -/
def OneI (xs : List Int) (n j : Nat) : Prop := xs.length = n * n ∧ InW xs ∧ ∀ i k, i < n → k < n → xs[i * n + k]?.getD 0 = if i = k ∧ i < j then 4607182418800017408 else 0
theorem OneI.zero (n : Nat) : OneI (List.replicate (n * n) 0) n 0 := by
  refine ⟨List.length_replicate, InW.zeros _, fun i k hi hk => ?_⟩
  rw [if_neg (by omega), List.getElem?_replicate]
  split <;> rfl
theorem diag_ne (n i k j : Nat) (hi : i < n) (hk : k < n) (hj : j < n) (h : ¬ (i = j ∧ k = j)) : i * n + k ≠ j * n + j := by
  rcases Nat.lt_trichotomy i j with g | g | g
  · have := Nat.mul_le_mul_right n (show i + 1 ≤ j from g)
    rw [Nat.succ_mul] at this
    omega
  · subst g
    omega
  · have := Nat.mul_le_mul_right n (show j + 1 ≤ i from g)
    rw [Nat.succ_mul] at this
    omega
theorem OneI.step {xs : List Int} {n j : Nat} (h : OneI xs n j) (hj : j < n) : OneI (xs.set (j * n + j) 4607182418800017408) n (j + 1) := by
  obtain ⟨h1, h2, h3⟩ := h
  refine ⟨by rw [List.length_set]; exact h1, h2.set _ _ (by decide) (by decide), fun i k hi hk => ?_⟩
  rw [List.getElem?_set]
  by_cases e : i = j ∧ k = j
  · obtain ⟨rfl, rfl⟩ := e
    rw [if_pos rfl, if_pos (by rw [h1]; have := Nat.mul_le_mul_right n (show k + 1 ≤ n from hk); rw [Nat.succ_mul] at this; omega), if_pos ⟨rfl, by omega⟩]
    rfl
  · rw [if_neg (Ne.symm (diag_ne n i k j hi hk hj e)), h3 i k hi hk]
    by_cases g : i = k ∧ i < j
    · rw [if_pos g, if_pos ⟨g.1, by omega⟩]
    · rw [if_neg g, if_neg (by omega)]
end Go.Proofs.YtpakpgjbgehhjaaGreat

/-
  Sums of squares of the identity, and of zeros; Finite of what is finite. No conditions.
-/
namespace Go.Proofs.YtpakpgjbgehhjaaGreat
open Go.RowKit
set_option linter.unusedVariables false

theorem mFinOk (R C S : Nat) (a : Option Addr) (len cap : Nat) (Z : Nat → Int) (w : World) (h : Rgt (R : Int) (C : Int) (S : Int) len) (hx : URow w a len cap Z) (hf : AllF Z R C S) :
    Calls Tryz.prog 9 #[.agg #[.int .i64 (R : Int), .int .i64 (C : Int), .int .i64 (S : Int), .slice a len cap]] w fun e w' => e = .returned (.bool true) ∧ Below w.heap.size w w' := by
  refine (mFin R C S a len cap Z w h hx).mono ?_
  rintro e w' ⟨⟨rfl, _⟩ | ⟨_, hN⟩, hb⟩
  · exact ⟨rfl, hb⟩
  · exact absurd hf hN
end Go.Proofs.YtpakpgjbgehhjaaGreat
