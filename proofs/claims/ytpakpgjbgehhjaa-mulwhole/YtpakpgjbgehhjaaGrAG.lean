/-
  Texts put together: MulW.
-/
import Derived.Test.YtpakpgjbgehhjaaProg
import Derived.Test.YtpakpgjbgehhjaaGrT
import Derived.Test.YtpakpgjbgehhjaaGrAA
/-
  The mathematics of MulWhole: products of matrices of small whole numbers are exact, without flags, and don't hang on how they are put together. No conditions but small sizes.
-/
namespace Go.Proofs.Ytpakpgjbgehhjaa
open Go.RowKit
set_option linter.unusedVariables false

theorem wsum_bd (a b : Nat → Int) (K L : Nat) (n : Nat) (ha : ∀ i, i < n → (a i).natAbs ≤ K) (hb : ∀ i, i < n → (b i).natAbs ≤ L) : (wsum a b n).natAbs ≤ n * (K * L) ∧ ∀ i, i < n → (a i * b i).natAbs ≤ K * L := by
  induction n with
  | zero => exact ⟨by show (0 : Int).natAbs ≤ _; simp, fun i hi => absurd hi (Nat.not_lt_zero i)⟩
  | succ k ih =>
    obtain ⟨h1, h2⟩ := ih (fun i hi => ha i (by omega)) (fun i hi => hb i (by omega))
    have h3 : (a k * b k).natAbs ≤ K * L := by rw [Int.natAbs_mul]; exact Nat.mul_le_mul (ha k (by omega)) (hb k (by omega))
    refine ⟨?_, fun i hi => ?_⟩
    · show (wsum a b k + a k * b k).natAbs ≤ (k + 1) * (K * L)
      rw [Nat.add_mul, Nat.one_mul]
      generalize a k * b k = p at *
      omega
    · by_cases e : i = k
      · subst e; exact h3
      · exact h2 i (by omega)
theorem wsum_add (a f g : Nat → Int) (c : Int) (n : Nat) : wsum a (fun k => f k + g k * c) n = wsum a f n + wsum a g n * c := by
  induction n with
  | zero => show (0 : Int) = 0 + 0 * c; rw [Int.zero_mul]; rfl
  | succ k ih =>
    show wsum a (fun k => f k + g k * c) k + a k * (f k + g k * c) = wsum a f k + a k * f k + (wsum a g k + a k * g k) * c
    rw [ih, Int.mul_add, Int.add_mul, Int.mul_assoc]
    generalize a k * (g k * c) = u
    generalize wsum a g k * c = v
    omega
theorem wsum_zero (a : Nat → Int) (n : Nat) : wsum a (fun _ => 0) n = 0 := by
  induction n with
  | zero => rfl
  | succ k ih => show wsum a (fun _ => 0) k + a k * 0 = 0; rw [ih, Int.mul_zero]; rfl
theorem wsum_assoc (a : Nat → Int) (B : Nat → Nat → Int) (c : Nat → Int) (q r : Nat) : wsum (fun l => wsum a (fun k => B k l) q) c r = wsum a (fun k => wsum (fun l => B k l) c r) q := by
  induction r with
  | zero => exact (wsum_zero a q).symm
  | succ n ih =>
    show wsum (fun l => wsum a (fun k => B k l) q) c n + wsum a (fun k => B k n) q * c n = wsum a (fun k => wsum (fun l => B k l) c n + B k n * c n) q
    rw [ih, wsum_add]
/-- A dot of whole numbers, beneath 2^53 by size. -/
theorem dot_whole (X Y a b : Nat → Int) (K L n : Nat) (hX : ∀ i, i < n → IsW (X i) (a i) ∧ (a i).natAbs ≤ K) (hY : ∀ i, i < n → IsW (Y i) (b i) ∧ (b i).natAbs ≤ L) (hn : n ≤ 7) (hKL : K * L ≤ 1000000000) (F : Int) (h0 : 0 ≤ F) (h1 : F ≤ 31) :
    IsW (dotV X Y n) (wsum a b n) ∧ dotF F X Y n = F ∧ (wsum a b n).natAbs ≤ n * (K * L) := by
  obtain ⟨b1, b2⟩ := wsum_bd a b K L n (fun i hi => (hX i hi).2) (fun i hi => (hY i hi).2)
  obtain ⟨d1, d2⟩ := dotW X Y a b n (fun i hi => (hX i hi).1) (fun i hi => (hY i hi).1) (fun i hi => by have := b2 i hi; omega) (fun i hi => by
    have := (wsum_bd a b K L i (fun j hj => (hX j (by omega)).2) (fun j hj => (hY j (by omega)).2)).1
    have h7 : i * (K * L) ≤ 7 * (K * L) := Nat.mul_le_mul_right _ (by omega)
    omega) F h0 h1
  exact ⟨d1, d2, b1⟩
theorem mmR_same (F : Int) (X : Nat → Int) (Y : Nat → Nat → Int) (C : Nat) : ∀ n, (∀ k, k < n → dotF F X (Y k) C = F) → mmR F X Y C n = F
  | 0, _ => rfl
  | n + 1, h => by
    show dotF (mmR F X Y C n) X (Y n) C = F
    rw [mmR_same F X Y C n (fun k hk => h k (by omega))]
    exact h n (by omega)
theorem mmF_same (F : Int) (Z Y : Nat → Nat → Int) (C D : Nat) : ∀ n, (∀ i k, i < n → k < D → dotF F (Z i) (Y k) C = F) → mmF F Z Y C D n = F
  | 0, _ => rfl
  | n + 1, h => by
    show mmR (mmF F Z Y C D n) (Z n) Y C D = F
    rw [mmF_same F Z Y C D n (fun i k hi hk => h i k (by omega) hk)]
    exact mmR_same F (Z n) Y C D (fun k hk => h n k (by omega) hk)
end Go.Proofs.Ytpakpgjbgehhjaa
