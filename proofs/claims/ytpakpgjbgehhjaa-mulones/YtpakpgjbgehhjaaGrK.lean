/-
  Texts put together: MatH MatI MatJ MatK.
-/
import Derived.Test.YtpakpgjbgehhjaaProg
import Derived.Test.YtpakpgjbgehhjaaGrJ
import Derived.Test.YtpakpgjbgehhjaaGrI
/-
  What mat's Scale and Unit return; the document's example. Conditions: a matrix that is right, of at most a million numbers; finite, for Unit.
-/
namespace Go.Proofs.Ytpakpgjbgehhjaa
open Go.RowKit
set_option linter.unusedVariables false

theorem flag_new (w : World) : IsCalc (w.alloc (.cells #[.int .u8 0] 30)) (.pointer (some ⟨w.heap.size, 0, none⟩)) (some w.heap.size) 0 := by
  refine .inr ⟨_, rfl, rfl, by simp, ?_, ?_⟩
  · simp [go_sem]
  · simp [go_sem]
/-- The power of two beneath the greatest of a matrix; of zeros 0. -/
def upw (B : Int) : Int := if wMant B = 0 then 0 else wPow B + ((bl (wMant B).toNat).length : Int) - 1
theorem upw_bd (B : Int) : -1074 ≤ upw B ∧ upw B ≤ 1023 := by
  obtain ⟨p0, p1, p2, p3⟩ := parts_bd B
  unfold upw
  split
  · decide
  · have h0 := bl_span (wMant B).toNat (by omega)
    have hl : (bl (wMant B).toNat).length ≤ 53 := (bl_length_le _ _).2 (by omega)
    omega
end Go.Proofs.Ytpakpgjbgehhjaa

/-
  The document's example of layer 9 holds.
-/
namespace Go.Proofs.Ytpakpgjbgehhjaa
open Go.RowKit
set_option linter.unusedVariables false

/-- A block's numbers as a slice. -/
theorem RowU.row {w : World} {g : Nat} {xs : List Int} (h : RowU w g xs) (hn : xs.length ≤ 1000000) (hx : ∀ i : Nat, 0 ≤ xs[i]?.getD 0 ∧ xs[i]?.getD 0 < 18446744073709551616) : URow w (some ⟨g, 0, none⟩) xs.length xs.length (fun i : Nat => xs[i]?.getD 0) :=
  ⟨Nat.le_refl _, by unfold maxLen; omega, hx, fun _ => ⟨g, 0, rfl, h.lt, fun i hi => by rw [Nat.zero_add]; exact h.cell i hi⟩⟩
def zHead : Nat → Int := fun i => ([4613937818241073152, 13840687554816376832] : List Int)[i]?.getD 0
theorem zHead_rng (i : Nat) : 0 ≤ zHead i ∧ zHead i < 18446744073709551616 := by
  unfold zHead
  match i with
  | 0 => decide
  | 1 => decide
  | n + 2 => simp
theorem aHead : AllF zHead 1 2 2 := by
  intro i k hi hk
  obtain rfl : i = 0 := by omega
  match k, hk with
  | 0, _ => decide
  | 1, _ => decide
theorem gHead {B : Int} (h : GrM zHead 2 2 1 0 B) : B = 4617315517961601024 := by
  obtain ⟨_, _, h2, h3⟩ := h
  have a := h2 0 1 (.inl ⟨by decide, by decide⟩)
  have e0 : zHead (0 * 2 + 1) % 9223372036854775808 = 4617315517961601024 := by decide
  have e1 : zHead (0 * 2 + 0) % 9223372036854775808 = 4613937818241073152 := by decide
  rw [e0] at a
  rcases h3 with g | ⟨i, k, hi, e⟩
  · omega
  · have hi0 : i = 0 := by omega
    have hk : k = 0 ∨ k = 1 := by omega
    subst hi0
    rcases hk with rfl | rfl
    · rw [e1] at e; omega
    · rw [e0] at e; exact e
theorem uHead : upw 4617315517961601024 = 2 := by decide +kernel
theorem vHead0 : scV (flat zHead 2 2) (-2) 0 = 4604930618986332160 := by decide +kernel
theorem vHead1 : scV (flat zHead 2 2) (-2) 1 = 13831680355561635840 := by decide +kernel
end Go.Proofs.Ytpakpgjbgehhjaa

/-
  What the laws' own Made returns: a matrix of numbers again and again, with something between its rows. Conditions: at most 100 numbers.
-/
namespace Go.Proofs.Ytpakpgjbgehhjaa
open Go.RowKit
set_option linter.unusedVariables false

theorem and_7_i (n : Int) : bits .and .i64 n 7 = n % 8 := by
  have h127 : (BitVec.ofInt 64 7).toNat = 2 ^ 3 - 1 := by decide
  have key : (BitVec.ofInt 64 n &&& BitVec.ofInt 64 7).toNat = (n % ((2 ^ 64 : Nat) : Int)).toNat % 2 ^ 3 := by
    rw [BitVec.toNat_and, BitVec.toNat_ofInt, h127, Nat.and_two_pow_sub_one_eq_mod]
  show IntKind.i64.wrap ((BitVec.ofInt 64 n &&& BitVec.ofInt 64 7).toNat : Nat) = n % 8
  rw [key, IntKind.wrap_i64]
  omega
theorem and_3_i (n : Int) : bits .and .i64 n 3 = n % 4 := by
  have h127 : (BitVec.ofInt 64 3).toNat = 2 ^ 2 - 1 := by decide
  have key : (BitVec.ofInt 64 n &&& BitVec.ofInt 64 3).toNat = (n % ((2 ^ 64 : Nat) : Int)).toNat % 2 ^ 2 := by
    rw [BitVec.toNat_and, BitVec.toNat_ofInt, h127, Nat.and_two_pow_sub_one_eq_mod]
  show IntKind.i64.wrap ((BitVec.ofInt 64 n &&& BitVec.ofInt 64 3).toNat : Nat) = n % 4
  rw [key, IntKind.wrap_i64]
  omega
theorem rem_run (x y q : Int) (hx : 0 ≤ x) (hy : 0 < y) (hq : x % y = q) (W : World) : (binOp .rem 3 (.int .i64 x) (.int .i64 y)).run Try.prog W = .ok (.int .i64 q) W := by
  have h0 : ¬ y = 0 := by omega
  have h1 : x.tmod y = q := by rw [Int.tmod_eq_emod_of_nonneg hx]; exact hq
  simp [go_sem, binOp, h0, h1]
/-- What stands in row i and column k. -/
def mD (U : Nat → Int) (len C : Nat) (i k : Nat) : Int := if 0 < len then U ((i * C + k) % len) else 0
/-- The numbers of the first n rows, and m of row n, stand in xs. -/
def MadeI (xs : List Int) (U : Nat → Int) (len R C S n m : Nat) : Prop := xs.length = R * S ∧ InW xs ∧ ∀ i k, k < C → i < R → (i < n ∨ (i = n ∧ k < m)) → xs[i * S + k]?.getD 0 = mD U len C i k
theorem place_ne (S C i k n m : Nat) (hC : C ≤ S) (hk : k < C) (hm : m < C) (h : i < n ∨ (i = n ∧ k < m)) : i * S + k ≠ n * S + m := by
  rcases h with h | ⟨rfl, h⟩
  · have : (i + 1) * S ≤ n * S := Nat.mul_le_mul_right _ h
    rw [Nat.succ_mul] at this
    omega
  · omega
theorem MadeI.set {xs : List Int} {U : Nat → Int} {len R C S n m : Nat} (h : MadeI xs U len R C S n m) (hC : C ≤ S) (hn : n < R) (hm : m < C) (x : Int) (hx : x = mD U len C n m) (x0 : 0 ≤ x) (x1 : x < 18446744073709551616) : MadeI (xs.set (n * S + m) x) U len R C S n (m + 1) := by
  obtain ⟨h1, h2, h3⟩ := h
  refine ⟨by rw [List.length_set]; exact h1, h2.set _ _ x0 x1, fun i k hk hi hik => ?_⟩
  rw [List.getElem?_set]
  by_cases e : i = n ∧ k = m
  · rw [e.1, e.2, if_pos rfl, if_pos ?_]
    · exact hx
    · rw [h1]
      have : (n + 1) * S ≤ R * S := Nat.mul_le_mul_right _ hn
      rw [Nat.succ_mul] at this
      omega
  · have hlt : i < n ∨ (i = n ∧ k < m) := by omega
    rw [if_neg (Ne.symm (place_ne S C i k n m hC hk hm hlt))]
    exact h3 i k hk hi hlt
theorem MadeI.next {xs : List Int} {U : Nat → Int} {len R C S n : Nat} (h : MadeI xs U len R C S n C) : MadeI xs U len R C S (n + 1) 0 := by
  obtain ⟨h1, h2, h3⟩ := h
  exact ⟨h1, h2, fun i k hk hi hik => h3 i k hk hi (by omega)⟩
theorem loose (R C S : Nat) (hR : R ≤ 4096) (hC : C ≤ S) (hS : S ≤ 4096) : Rgt (R : Int) (C : Int) (S : Int) (R * S) := by
  refine ⟨by omega, by omega, by omega, by omega, by omega, by omega, ?_⟩
  rcases Nat.eq_zero_or_pos R with h | h
  · exact .inl (by omega)
  · refine .inr (.inr ?_)
    obtain ⟨r, rfl⟩ : ∃ r, R = r + 1 := ⟨R - 1, by omega⟩
    have : (r + 1) * S = r * S + S := Nat.succ_mul r S
    rw [this, show ((r + 1 : Nat) : Int) - 1 = (r : Int) by omega, ← Int.natCast_mul]
    omega
/-- The world while Made runs. -/
structure MadeW (w wr : World) (R C S n : Nat) (xs : List Int) : Prop where
  ans : WBox wr w.heap.size 0 0 0 (.slice none 0 0)
  m : MBox wr (w.heap.size + 1 + 1) (R : Int) (C : Int) (S : Int) (.slice (some ⟨w.heap.size + 1, 0, none⟩) n n)
  row : RowU wr (w.heap.size + 1) xs
  bel : Below w.heap.size w wr
theorem MadeW.bes {w wr wr' : World} {R C S n : Nat} {xs ys : List Int} (h : MadeW w wr R C S n xs) (hb : Bes (some (w.heap.size + 1)) wr wr') (hr : RowU wr' (w.heap.size + 1) ys) : MadeW w wr' R C S n ys :=
  ⟨h.ans.bes hb (ne_some (by omega)), h.m.bes hb (ne_some (by omega)), hr, h.bel.trans (hb.below _ h.bel.size (fun k e => by injection e with e; omega))⟩
end Go.Proofs.Ytpakpgjbgehhjaa

/-
  What mat's Cut returns of a matrix that isn't right.
-/
namespace Go.Proofs.Ytpakpgjbgehhjaa
open Go.RowKit
set_option linter.unusedVariables false

set_option maxHeartbeats 1000000 in
theorem mCutBad (R C S : Int) (a : Option Addr) (len cap : Nat) (i k r c : Int) (w : World) (hl : (len : Int) ≤ 9223372036854775807) (hS : S ≤ 9223372036854775807) (h : ¬ Rgt R C S len) :
    Calls Try.prog 90 #[.agg #[.int .i64 R, .int .i64 C, .int .i64 S, .slice a len cap], .int .i64 i, .int .i64 k, .int .i64 r, .int .i64 c] w fun e w' => e = .returned (.tuple #[.agg #[.int .i64 0, .int .i64 0, .int .i64 0, .slice none 0 0], .int .i64 4]) ∧ Below w.heap.size w w' := by
  have HN : Hid (¬ Rgt R C S len) := h
  clear h
  go_enter Try.func90, Try.ntmps90
  go_wp2_with fail
  obtain ⟨o1, ho1⟩ : ∃ o, o = Obj.cells #[.int .i64 R, .int .i64 C, .int .i64 S, .slice a len cap] 26 := ⟨_, rfl⟩
  have bW : Below w.heap.size w ((w.alloc o1).alloc (.cells #[.int .i64 0, .int .i64 0, .int .i64 0, .slice none 0 0] 26)) := ((Below.refl _ _).alloc (Nat.le_refl _) _).alloc (by simp) _
  have wW : WBox ((w.alloc o1).alloc (.cells #[.int .i64 0, .int .i64 0, .int .i64 0, .slice none 0 0] 26)) (w.heap.size + 1) 0 0 0 (.slice none 0 0) := by
    have := WBox.made (w.alloc o1) 0 0 0 (.slice none 0 0)
    simp only [World.size_alloc] at this
    exact this
  rw [← ho1]
  clear ho1
  generalize ((w.alloc o1).alloc (.cells #[.int .i64 0, .int .i64 0, .int .i64 0, .slice none 0 0] 26)) = W at bW wW ⊢
  refine (mCheck _ _ _ _ _ _ _ hl hS).mono ?_
  rintro e w1 ⟨⟨_, hR⟩ | ⟨rfl, _⟩, hb1⟩
  · exact absurd hR HN.out
  · have W1 : Hid (WBox _ _ _ _ _ _) := wW.below hb1
    have B1 : Hid (Below w.heap.size w w1) := bstep bW hb1
    obtain ⟨⟨v0, v1, v2, v3, v4⟩, v5⟩ := W1.out
    have y0 := v5 0
    have y1 := v5 1
    have y2 := v5 2
    have y3 := v5 3
    clear hb1 bW wW v5
    go_wp2
    refine bodyPost_ret (v := .tuple #[.agg #[.int .i64 0, .int .i64 0, .int .i64 0, .slice none 0 0], .int .i64 4]) (by simp [results, Try.results90, go_sem, *]) rfl ⟨rfl, ?_⟩
    exact (((B1.out.setCell (p := ⟨w.heap.size + 1, 0, none⟩) (Nat.le_succ _) _).setCell (p := ⟨w.heap.size + 1, 1, none⟩) (Nat.le_succ _) _).setCell (p := ⟨w.heap.size + 1, 2, none⟩) (Nat.le_succ _) _).setCell (p := ⟨w.heap.size + 1, 3, none⟩) (Nat.le_succ _) _
end Go.Proofs.Ytpakpgjbgehhjaa
