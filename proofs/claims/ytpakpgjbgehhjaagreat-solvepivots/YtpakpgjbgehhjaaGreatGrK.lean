/-
  Texts put together: MatH MatI MatJ MatK.
-/
import Derived.Test.YtpakpgjbgehhjaaGreatProg
import Derived.Test.YtpakpgjbgehhjaaGreatGrJ
import Derived.Test.YtpakpgjbgehhjaaGreatGrI
/-
  What mat's Scale and Unit return; the document's example. Conditions: a matrix that is right, of at most a million numbers; finite, for Unit.
-/
namespace Go.Proofs.YtpakpgjbgehhjaaGreat
open Go.RowKit
set_option linter.unusedVariables false

end Go.Proofs.YtpakpgjbgehhjaaGreat

/-
  The document's example of layer 9 holds.
-/
namespace Go.Proofs.YtpakpgjbgehhjaaGreat
open Go.RowKit
set_option linter.unusedVariables false

/-- A block's numbers as a slice. -/
theorem RowU.row {w : World} {g : Nat} {xs : List Int} (h : RowU w g xs) (hn : xs.length ≤ 1000000) (hx : ∀ i : Nat, 0 ≤ xs[i]?.getD 0 ∧ xs[i]?.getD 0 < 18446744073709551616) : URow w (some ⟨g, 0, none⟩) xs.length xs.length (fun i : Nat => xs[i]?.getD 0) :=
  ⟨Nat.le_refl _, by unfold maxLen; omega, hx, fun _ => ⟨g, 0, rfl, h.lt, fun i hi => by rw [Nat.zero_add]; exact h.cell i hi⟩⟩
end Go.Proofs.YtpakpgjbgehhjaaGreat

/-
  What the laws' own Made returns: a matrix of numbers again and again, with something between its rows. Conditions: at most 100 numbers.
-/
namespace Go.Proofs.YtpakpgjbgehhjaaGreat
open Go.RowKit
set_option linter.unusedVariables false

theorem and_7_i (n : Int) : bits .and .i64 n 7 = n % 8 := by
  have h127 : (BitVec.ofInt 64 7).toNat = 2 ^ 3 - 1 := by decide
  have key : (BitVec.ofInt 64 n &&& BitVec.ofInt 64 7).toNat = (n % ((2 ^ 64 : Nat) : Int)).toNat % 2 ^ 3 := by
    rw [BitVec.toNat_and, BitVec.toNat_ofInt, h127, Nat.and_two_pow_sub_one_eq_mod]
  show IntKind.i64.wrap ((BitVec.ofInt 64 n &&& BitVec.ofInt 64 7).toNat : Nat) = n % 8
  rw [key, IntKind.wrap_i64]
  omega
theorem rem_run (x y q : Int) (hx : 0 ≤ x) (hy : 0 < y) (hq : x % y = q) (W : World) : (binOp .rem 3 (.int .i64 x) (.int .i64 y)).run Tryz.prog W = .ok (.int .i64 q) W := by
  have h0 : ¬ y = 0 := by omega
  have h1 : x.tmod y = q := by rw [Int.tmod_eq_emod_of_nonneg hx]; exact hq
  simp [go_sem, binOp, h0, h1]
/-- What stands in row i and column k. -/
def mD (U : Nat → Int) (len C : Nat) (i k : Nat) : Int := if 0 < len then U ((i * C + k) % len) else 0
/-- The numbers of the first n rows, and m of row n, stand in xs. -/
def MadeI (xs : List Int) (U : Nat → Int) (len R C S n m : Nat) : Prop := xs.length = R * S ∧ InW xs ∧ ∀ i k, k < C → i < R → (i < n ∨ (i = n ∧ k < m)) → xs[i * S + k]?.getD 0 = mD U len C i k
theorem place_ne (S C i k n m : Nat) (hC : C ≤ S) (hk : k < C) (hm : m < C) (h : i < n ∨ (i = n ∧ k < m)) : i * S + k ≠ n * S + m := by
  rcases h with h | ⟨rfl, h⟩
  · have : (i + 1) * S ≤ n * S := Nat.mul_le_mul_right _ h
    rw [Nat.succ_mul] at this
    omega
  · omega
theorem MadeI.set {xs : List Int} {U : Nat → Int} {len R C S n m : Nat} (h : MadeI xs U len R C S n m) (hC : C ≤ S) (hn : n < R) (hm : m < C) (x : Int) (hx : x = mD U len C n m) (x0 : 0 ≤ x) (x1 : x < 18446744073709551616) : MadeI (xs.set (n * S + m) x) U len R C S n (m + 1) := by
  obtain ⟨h1, h2, h3⟩ := h
  refine ⟨by rw [List.length_set]; exact h1, h2.set _ _ x0 x1, fun i k hk hi hik => ?_⟩
  rw [List.getElem?_set]
  by_cases e : i = n ∧ k = m
  · rw [e.1, e.2, if_pos rfl, if_pos ?_]
    · exact hx
    · rw [h1]
      have : (n + 1) * S ≤ R * S := Nat.mul_le_mul_right _ hn
      rw [Nat.succ_mul] at this
      omega
  · have hlt : i < n ∨ (i = n ∧ k < m) := by omega
    rw [if_neg (Ne.symm (place_ne S C i k n m hC hk hm hlt))]
    exact h3 i k hk hi hlt
theorem MadeI.next {xs : List Int} {U : Nat → Int} {len R C S n : Nat} (h : MadeI xs U len R C S n C) : MadeI xs U len R C S (n + 1) 0 := by
  obtain ⟨h1, h2, h3⟩ := h
  exact ⟨h1, h2, fun i k hk hi hik => h3 i k hk hi (by omega)⟩
/-- The world while Made runs. -/
structure MadeW (w wr : World) (R C S n : Nat) (xs : List Int) : Prop where
  ans : WBox wr w.heap.size 0 0 0 (.slice none 0 0)
  m : MBox wr (w.heap.size + 1 + 1) (R : Int) (C : Int) (S : Int) (.slice (some ⟨w.heap.size + 1, 0, none⟩) n n)
  row : RowU wr (w.heap.size + 1) xs
  bel : Below w.heap.size w wr
theorem MadeW.bes {w wr wr' : World} {R C S n : Nat} {xs ys : List Int} (h : MadeW w wr R C S n xs) (hb : Bes (some (w.heap.size + 1)) wr wr') (hr : RowU wr' (w.heap.size + 1) ys) : MadeW w wr' R C S n ys :=
  ⟨h.ans.bes hb (ne_some (by omega)), h.m.bes hb (ne_some (by omega)), hr, h.bel.trans (hb.below _ h.bel.size (fun k e => by injection e with e; omega))⟩
end Go.Proofs.YtpakpgjbgehhjaaGreat

/-
  What mat's Cut returns of a matrix that isn't right.
-/
namespace Go.Proofs.YtpakpgjbgehhjaaGreat
open Go.RowKit
set_option linter.unusedVariables false

end Go.Proofs.YtpakpgjbgehhjaaGreat
