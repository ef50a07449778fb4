/-
  Texts put together: MulC2 MulG MulK MulL.
-/
import Derived.Test.YtpakpgjbgehhjaaGreatProg
import Derived.Test.YtpakpgjbgehhjaaGreatGrS
import Derived.Test.YtpakpgjbgehhjaaGreatGrB
/-
  What mul's Gemm returns, with any Calc: the products of rows and columns, and all flags. Conditions: matrices that are right and fit, of at most a million numbers; they lie beside the Calc.
-/
namespace Go.Proofs.YtpakpgjbgehhjaaGreat
open Go.RowKit
set_option linter.unusedVariables false
set_option linter.unusedSimpArgs false

/-- Of n rows, and of m numbers of row n, what stands in xs is V. -/
def FillI (xs : List Int) (V : Nat → Nat → Int) (R D n m : Nat) : Prop := xs.length = R * D ∧ InW xs ∧ ∀ i k, k < D → i < R → (i < n ∨ (i = n ∧ k < m)) → xs[i * D + k]?.getD 0 = V i k
theorem FillI.set {xs : List Int} {V : Nat → Nat → Int} {R D n m : Nat} (h : FillI xs V R D n m) (hn : n < R) (hm : m < D) (x : Int) (hx : x = V n m) (x0 : 0 ≤ x) (x1 : x < 18446744073709551616) : FillI (xs.set (n * D + m) x) V R D n (m + 1) := by
  obtain ⟨h1, h2, h3⟩ := h
  refine ⟨by rw [List.length_set]; exact h1, h2.set _ _ x0 x1, fun i k hk hi hik => ?_⟩
  rw [List.getElem?_set]
  by_cases e : i = n ∧ k = m
  · rw [e.1, e.2, if_pos rfl, if_pos (by rw [h1]; exact row_lt D n m R hn hm)]
    exact hx
  · have hlt : i < n ∨ (i = n ∧ k < m) := by omega
    rw [if_neg (Ne.symm (place_ne D D i k n m (Nat.le_refl _) hk hm hlt))]
    exact h3 i k hk hi hlt
theorem FillI.next {xs : List Int} {V : Nat → Nat → Int} {R D n : Nat} (h : FillI xs V R D n D) : FillI xs V R D (n + 1) 0 := by
  obtain ⟨h1, h2, h3⟩ := h
  exact ⟨h1, h2, fun i k hk hi hik => h3 i k hk hi (by omega)⟩
/-- The world while Gemm runs. -/
structure GemW (w wr : World) (p : Value) (c : Option Nat) (F : Int) (R C D : Nat) (k6 k8 g1 ga gb B : Nat) (xs : List Int) (ZA ZB : Nat → Nat → Int) : Prop where
  ans : WBox wr k6 0 0 0 (.slice none 0 0)
  m : MBox wr k8 (R : Int) (D : Int) (D : Int) (.slice (some ⟨g1, 0, none⟩) (R * D) (R * D))
  row : RowU wr g1 xs
  la : Lines wr B ga R C ZA
  lb : Lines wr B gb D C ZB
  flg : IsCalc wr p c F
  bes : Bes c w wr
/-- What lies apart while Gemm runs. -/
def GemD (w : World) (c : Option Nat) (k6 k8 g1 B : Nat) : Prop := w.heap.size ≤ k6 ∧ w.heap.size ≤ k8 ∧ w.heap.size ≤ g1 ∧ g1 ≠ k6 ∧ g1 ≠ k8 ∧ g1 < B ∧ k6 < B ∧ k8 < B ∧ k8 ≠ k6 ∧ ∀ k, c = some k → k < w.heap.size
theorem GemW.call {w wr wr' : World} {p : Value} {c : Option Nat} {F F' : Int} {R C D k6 k8 g1 ga gb B : Nat} {xs : List Int} {ZA ZB : Nat → Nat → Int} (h : GemW w wr p c F R C D k6 k8 g1 ga gb B xs ZA ZB) (d : GemD w c k6 k8 g1 B) (hb : Bes c wr wr') (hc : IsCalc wr' p c F') : GemW w wr' p c F' R C D k6 k8 g1 ga gb B xs ZA ZB := by
  obtain ⟨d1, d2, d3, d4, d5, d6, d7, d8, d9, d10⟩ := d
  exact ⟨h.ans.bes hb (fun e => by have := d10 _ e; omega), h.m.bes hb (fun e => by have := d10 _ e; omega), h.row.bes hb (fun e => by have := d10 _ e; omega), h.la.bes hb (fun k e => by have := d10 _ e; omega), h.lb.bes hb (fun k e => by have := d10 _ e; omega), hc, h.bes.trans hb⟩
theorem GemW.put {w wr wr' : World} {p : Value} {c : Option Nat} {F : Int} {R C D k6 k8 g1 ga gb B : Nat} {xs ys : List Int} {ZA ZB : Nat → Nat → Int} (h : GemW w wr p c F R C D k6 k8 g1 ga gb B xs ZA ZB) (d : GemD w c k6 k8 g1 B) (hb : Bes (some g1) wr wr') (hr : RowU wr' g1 ys) : GemW w wr' p c F R C D k6 k8 g1 ga gb B ys ZA ZB := by
  obtain ⟨d1, d2, d3, d4, d5, d6, d7, d8, d9, d10⟩ := d
  refine ⟨h.ans.bes hb (ne_some d4), h.m.bes hb (ne_some d5), hr, h.la.bes hb (fun k e => by injection e with e; omega), h.lb.bes hb (fun k e => by injection e with e; omega), h.flg.bes hb (fun k e e2 => by have := d10 _ e; injection e2 with e2; omega), ?_⟩
  exact ⟨hb.os.trans h.bes.os, hb.tape.trans h.bes.tape, hb.output.trans h.bes.output, Nat.le_trans h.bes.size hb.size, fun k hk hc => (hb.block k (Nat.lt_of_lt_of_le hk h.bes.size) (fun e => by injection e with e; omega)).trans (h.bes.block k hk hc)⟩
theorem GemW.drew {w wr : World} {p : Value} {c : Option Nat} {F : Int} {R C D k6 k8 g1 ga gb B : Nat} {xs : List Int} {ZA ZB : Nat → Nat → Int} (h : GemW w wr p c F R C D k6 k8 g1 ga gb B xs ZA ZB) (d : GemD w c k6 k8 g1 B) : GemW w wr.drew p c F R C D k6 k8 g1 ga gb B xs ZA ZB := h.call d ((Bes.refl _ _).drew) h.flg.drew
end Go.Proofs.YtpakpgjbgehhjaaGreat

/-
  What mul's Ger returns, with any Calc: the sums, and all flags. Conditions: a matrix that is right and fits, of at most a million numbers; the lists lie beside the Calc.
-/
namespace Go.Proofs.YtpakpgjbgehhjaaGreat
open Go.RowKit
set_option linter.unusedVariables false
set_option linter.unusedSimpArgs false

/-- Of n rows, and of m numbers of row n, what stands in xs is V, of the others Z. -/
def GerI (xs : List Int) (Z V : Nat → Nat → Int) (R D n m : Nat) : Prop := xs.length = R * D ∧ InW xs ∧ ∀ i k, k < D → i < R → xs[i * D + k]?.getD 0 = if i < n ∨ (i = n ∧ k < m) then V i k else Z i k
theorem GerI.set {xs : List Int} {Z V : Nat → Nat → Int} {R D n m : Nat} (h : GerI xs Z V R D n m) (hn : n < R) (hm : m < D) (x : Int) (hx : x = V n m) (x0 : 0 ≤ x) (x1 : x < 18446744073709551616) : GerI (xs.set (n * D + m) x) Z V R D n (m + 1) := by
  obtain ⟨h1, h2, h3⟩ := h
  refine ⟨by rw [List.length_set]; exact h1, h2.set _ _ x0 x1, fun i k hk hi => ?_⟩
  rw [List.getElem?_set]
  by_cases e : i = n ∧ k = m
  · rw [e.1, e.2, if_pos rfl, if_pos (by rw [h1]; exact row_lt D n m R hn hm), if_pos (.inr ⟨rfl, Nat.lt_succ_self m⟩)]
    exact hx
  · have hne : n * D + m ≠ i * D + k := by
      rcases Nat.lt_or_ge i n with g | g
      · exact Ne.symm (place_ne D D i k n m (Nat.le_refl _) hk hm (.inl g))
      · rcases Nat.lt_or_ge n i with g2 | g2
        · exact place_ne D D n m i k (Nat.le_refl _) hm hk (.inl g2)
        · obtain rfl : i = n := by omega
          exact fun h => e ⟨rfl, by omega⟩
    rw [if_neg hne, h3 i k hk hi]
    by_cases g : i < n ∨ (i = n ∧ k < m)
    · rw [if_pos g, if_pos (by omega)]
    · rw [if_neg g, if_neg (by omega)]
theorem GerI.next {xs : List Int} {Z V : Nat → Nat → Int} {R D n : Nat} (h : GerI xs Z V R D n D) : GerI xs Z V R D (n + 1) 0 := by
  obtain ⟨h1, h2, h3⟩ := h
  refine ⟨h1, h2, fun i k hk hi => ?_⟩
  rw [h3 i k hk hi]
  by_cases g : i < n ∨ (i = n ∧ k < D)
  · rw [if_pos g, if_pos (by omega)]
  · rw [if_neg g, if_neg (by omega)]
/-- The world while Ger runs. -/
structure GerW (w wr : World) (p : Value) (c : Option Nat) (F : Int) (R C : Nat) (k6 k8 g1 : Nat) (xs : List Int) (ax ay : Option Addr) (cx cy : Nat) (X Y : Nat → Int) : Prop where
  ans : WBox wr k6 0 0 0 (.slice none 0 0)
  m : MBox wr k8 (R : Int) (C : Int) (C : Int) (.slice (some ⟨g1, 0, none⟩) (R * C) (R * C))
  row : RowU wr g1 xs
  flg : IsCalc wr p c F
  rx : URow wr ax R cx X
  ry : URow wr ay C cy Y
  bes : Bes c w wr
/-- What lies apart while Ger runs. -/
def GerD (w : World) (c : Option Nat) (k6 k8 g1 : Nat) (ax ay : Option Addr) (R C : Nat) : Prop := w.heap.size ≤ k6 ∧ w.heap.size ≤ k8 ∧ w.heap.size ≤ g1 ∧ g1 ≠ k6 ∧ g1 ≠ k8 ∧ k8 ≠ k6 ∧ (∀ k, c = some k → k < w.heap.size) ∧ Apt c ax R ∧ Apt c ay C ∧ Apt (some g1) ax R ∧ Apt (some g1) ay C ∧ Apt (some k6) ax R ∧ Apt (some k6) ay C
theorem Bes.young {c : Option Nat} {w a b : World} {g : Nat} (h : Bes c w a) (hb : Bes (some g) a b) (hg : w.heap.size ≤ g) : Bes c w b :=
  ⟨hb.os.trans h.os, hb.tape.trans h.tape, hb.output.trans h.output, Nat.le_trans h.size hb.size, fun k hk hc => (hb.block k (Nat.lt_of_lt_of_le hk h.size) (fun e => by injection e with e; omega)).trans (h.block k hk hc)⟩
theorem GerW.call {w wr wr' : World} {p : Value} {c : Option Nat} {F F' : Int} {R C k6 k8 g1 : Nat} {xs : List Int} {ax ay : Option Addr} {cx cy : Nat} {X Y : Nat → Int} (h : GerW w wr p c F R C k6 k8 g1 xs ax ay cx cy X Y) (d : GerD w c k6 k8 g1 ax ay R C) (hb : Bes c wr wr') (hc : IsCalc wr' p c F') : GerW w wr' p c F' R C k6 k8 g1 xs ax ay cx cy X Y := by
  obtain ⟨d1, d2, d3, d4, d5, d6, d7, d8, d9, _⟩ := d
  exact ⟨h.ans.bes hb (fun e => by have := d7 _ e; omega), h.m.bes hb (fun e => by have := d7 _ e; omega), h.row.bes hb (fun e => by have := d7 _ e; omega), hc, h.rx.bes hb d8, h.ry.bes hb d9, h.bes.trans hb⟩
theorem GerW.below {w wr wr' : World} {p : Value} {c : Option Nat} {F : Int} {R C k6 k8 g1 : Nat} {xs : List Int} {ax ay : Option Addr} {cx cy : Nat} {X Y : Nat → Int} (h : GerW w wr p c F R C k6 k8 g1 xs ax ay cx cy X Y) (hb : Below wr.heap.size wr wr') : GerW w wr' p c F R C k6 k8 g1 xs ax ay cx cy X Y :=
  ⟨h.ans.below hb, h.m.below hb, h.row.below hb, h.flg.later hb, h.rx.below hb, h.ry.below hb, h.bes.step hb⟩
theorem GerW.put {w wr wr' : World} {p : Value} {c : Option Nat} {F : Int} {R C k6 k8 g1 : Nat} {xs ys : List Int} {ax ay : Option Addr} {cx cy : Nat} {X Y : Nat → Int} (h : GerW w wr p c F R C k6 k8 g1 xs ax ay cx cy X Y) (d : GerD w c k6 k8 g1 ax ay R C) (hb : Bes (some g1) wr wr') (hr : RowU wr' g1 ys) : GerW w wr' p c F R C k6 k8 g1 ys ax ay cx cy X Y := by
  obtain ⟨d1, d2, d3, d4, d5, d6, d7, d8, d9, d10, d11, _⟩ := d
  exact ⟨h.ans.bes hb (ne_some d4), h.m.bes hb (ne_some d5), hr, h.flg.bes hb (fun k e e2 => by have := d7 _ e; injection e2 with e2; omega), h.rx.bes hb d10, h.ry.bes hb d11, h.bes.young hb d3⟩
end Go.Proofs.YtpakpgjbgehhjaaGreat

/-
  What mul's Gemm and Ger return of what doesn't fit: ErrShape. No conditions but that sizes fit a machine.
-/
namespace Go.Proofs.YtpakpgjbgehhjaaGreat
open Go.RowKit
set_option linter.unusedVariables false
set_option linter.unusedSimpArgs false

end Go.Proofs.YtpakpgjbgehhjaaGreat

/-
  Flags of products hang on the numbers that are multiplied alone. No conditions.
-/
namespace Go.Proofs.YtpakpgjbgehhjaaGreat
open Go.RowKit
set_option linter.unusedVariables false

end Go.Proofs.YtpakpgjbgehhjaaGreat
