/-
  Texts put together: MulA MulB.
-/
import Derived.Test.YtpakpgjbgehhjaaGreatProg
import Derived.Test.YtpakpgjbgehhjaaGreatGrN
import Derived.Test.YtpakpgjbgehhjaaGreatGrM
import Derived.Test.YtpakpgjbgehhjaaGreatGrO
/-
  What mul's dot, sizes and lines return, with any Calc. Conditions: the lists lie beside the Calc; a matrix that is right, of at most a million numbers.
-/
namespace Go.Proofs.YtpakpgjbgehhjaaGreat
open Go.RowKit
set_option linter.unusedVariables false
set_option linter.unusedSimpArgs false

/-- Block g holds these slices. -/
def RowV (w : World) (g : Nat) (vs : List Value) : Prop := w.heap[g]? = some (.cells vs.toArray 22 (0, 0))
theorem RowV.lt {w : World} {g : Nat} {vs : List Value} (h : RowV w g vs) : g < w.heap.size := (Array.getElem?_eq_some_iff.1 h).1
theorem RowV.cell {w : World} {g : Nat} {vs : List Value} (h : RowV w g vs) (i : Nat) : w.cell? ⟨g, i, none⟩ = vs[i]? := by
  unfold RowV at h
  unfold World.cell?
  rw [h]
  simp
theorem RowV.frozen {w : World} {g : Nat} {vs : List Value} (h : RowV w g vs) (i : Nat) : w.frozen? ⟨g, i, none⟩ = false := by
  unfold RowV at h
  unfold World.frozen?
  rw [h]
  simp
theorem RowV.set {w : World} {g : Nat} {vs : List Value} (h : RowV w g vs) (i : Nat) (y : Value) : RowV (w.setCell ⟨g, i, none⟩ y) g (vs.set i y) := by
  unfold RowV at h ⊢
  simp only [World.setCell, Array.getElem?_modify, if_true, h, Option.map_some]
  simp
theorem RowV.below {w w' : World} {g : Nat} {vs : List Value} (h : RowV w g vs) (hb : Below w.heap.size w w') : RowV w' g vs := by
  unfold RowV
  rw [hb.block g h.lt]
  exact h
theorem RowV.bes {w w' : World} {c : Option Nat} {g : Nat} {vs : List Value} (h : RowV w g vs) (hb : Bes c w w') (hc : c ≠ some g) : RowV w' g vs := by
  unfold RowV
  rw [hb.block g h.lt hc]
  exact h
/-- n slices of C words stand in block g, all in blocks from B on: slice i holds Z i. -/
structure Lines (w : World) (B g n C : Nat) (Z : Nat → Nat → Int) : Prop where
  lo : B ≤ g
  lt : g < w.heap.size
  row : ∀ i, i < n → ∃ a c, w.cell? ⟨g, i, none⟩ = some (.slice a C c) ∧ URow w a C c (Z i) ∧ ∀ b o s, a = some ⟨b, o, s⟩ → B ≤ b
theorem Lines.below {w w' : World} {B g n C : Nat} {Z : Nat → Nat → Int} (h : Lines w B g n C Z) (hb : Below w.heap.size w w') : Lines w' B g n C Z := by
  refine ⟨h.lo, Nat.lt_of_lt_of_le h.lt hb.size, fun i hi => ?_⟩
  obtain ⟨a, c, h1, h2, h3⟩ := h.row i hi
  exact ⟨a, c, (hb.cell (p := ⟨g, i, none⟩) h.lt).trans h1, h2.below hb, h3⟩
theorem Lines.bes {w w' : World} {c : Option Nat} {B g n C : Nat} {Z : Nat → Nat → Int} (h : Lines w B g n C Z) (hb : Bes c w w') (hc : ∀ k, c = some k → k < B) : Lines w' B g n C Z := by
  refine ⟨h.lo, Nat.lt_of_lt_of_le h.lt hb.size, fun i hi => ?_⟩
  obtain ⟨a, c', h1, h2, h3⟩ := h.row i hi
  refine ⟨a, c', (hb.cell (p := ⟨g, i, none⟩) h.lt (fun e => ?_)).trans h1, h2.bes hb (fun _ b o s e ec => ?_), h3⟩
  · have := hc g e; have := h.lo; omega
  · have := hc b ec; have := h3 b o s e; omega
/-- The first n of the slices vs are the rows of C words that lie, one behind the other, in block g. -/
def CutV (vs : List Value) (B g C : Nat) (n : Nat) : Prop := ∀ j, j < n → ∃ a c, vs[j]? = some (.slice a C c) ∧ C ≤ c ∧ c ≤ maxLen ∧ (0 < C → a = some ⟨g, j * C, none⟩) ∧ ∀ b o s, a = some ⟨b, o, s⟩ → B ≤ b
theorem CutV.step {vs : List Value} {B g C n : Nat} (h : CutV vs B g C n) (hn : n < vs.length) {a : Option Addr} {c : Nat} (h1 : C ≤ c) (h2 : c ≤ maxLen) (h3 : 0 < C → a = some ⟨g, n * C, none⟩) (h4 : ∀ b o s, a = some ⟨b, o, s⟩ → B ≤ b) : CutV (vs.set n (.slice a C c)) B g C (n + 1) := by
  intro j hj
  rw [List.getElem?_set]
  by_cases e : n = j
  · subst e
    rw [if_pos rfl, if_pos hn]
    exact ⟨a, c, rfl, h1, h2, h3, h4⟩
  · rw [if_neg e]
    exact h j (by omega)
end Go.Proofs.YtpakpgjbgehhjaaGreat

/-
  What mul's Gemv returns, with any Calc: of each row its product, and all flags. Conditions: a matrix that is right, of at most a million numbers; the lists lie beside the Calc.
-/
namespace Go.Proofs.YtpakpgjbgehhjaaGreat
open Go.RowKit
set_option linter.unusedVariables false
set_option linter.unusedSimpArgs false

theorem apt_one {c : Option Nat} {g off len : Nat} (h : c ≠ some g) : Apt c (some ⟨g, off, none⟩) len := fun _ b o s e ec => by
  injection e with e
  injection e with e1
  exact h (by rw [ec, e1])
end Go.Proofs.YtpakpgjbgehhjaaGreat
