/-
  Texts put together: CalcM VecC VecD VecE VecL.
-/
import Derived.Test.YtpakpgjbgehhjaaGreatProg
import Derived.Test.YtpakpgjbgehhjaaGreatGrD
import Derived.Test.YtpakpgjbgehhjaaGreatGrE
import Derived.Test.YtpakpgjbgehhjaaGreatGrB
import Derived.Test.YtpakpgjbgehhjaaGreatGrG
import Derived.Deep.RegionHeld3
/-
  A Calc that may be nil, as one thing; worlds of which nothing but its block has turned; slices that lie beside it. No conditions.
-/
namespace Go.Proofs.YtpakpgjbgehhjaaGreat
open Go.RowKit
set_option linter.unusedVariables false

/-- p is a Calc whose flags are F, in block c (none: it is nil). -/
def IsCalc (w : World) (p : Value) (c : Option Nat) (F : Int) : Prop :=
  (p = .pointer none ∧ c = none) ∨ ∃ k, p = .pointer (some ⟨k, 0, none⟩) ∧ c = some k ∧ k < w.heap.size ∧ w.cell? ⟨k, 0, none⟩ = some (.int .u8 F) ∧ w.frozen? ⟨k, 0, none⟩ = false
/-- Of what was there nothing has turned but block c. -/
structure Bes (c : Option Nat) (w w' : World) : Prop where
  os : w'.os = w.os
  tape : w'.tape = w.tape
  output : w'.output = w.output
  size : w.heap.size ≤ w'.heap.size
  block : ∀ k, k < w.heap.size → c ≠ some k → w'.heap[k]? = w.heap[k]?
theorem Bes.refl (c : Option Nat) (w : World) : Bes c w w := ⟨rfl, rfl, rfl, Nat.le_refl _, fun _ _ _ => rfl⟩
theorem Bes.trans {c : Option Nat} {a b d : World} (h : Bes c a b) (k : Bes c b d) : Bes c a d :=
  ⟨k.os.trans h.os, k.tape.trans h.tape, k.output.trans h.output, Nat.le_trans h.size k.size, fun i hi hc => (k.block i (Nat.lt_of_lt_of_le hi h.size) hc).trans (h.block i hi hc)⟩
theorem Bes.of {c : Option Nat} {w w' : World} (h : Below w.heap.size w w') : Bes c w w' := ⟨h.os, h.tape, h.output, h.size, fun k hk _ => h.block k hk⟩
theorem Bes.step {c : Option Nat} {w a b : World} (h : Bes c w a) (g : Below a.heap.size a b) : Bes c w b := h.trans (Bes.of g)
theorem Bes.alloc {c : Option Nat} {w a : World} (h : Bes c w a) (o : Obj) : Bes c w (a.alloc o) := h.step ((Below.refl _ _).alloc (Nat.le_refl _) _)
theorem Bes.drew {c : Option Nat} {w a : World} (h : Bes c w a) : Bes c w a.drew := ⟨h.os, h.tape, h.output, h.size, h.block⟩
theorem Bes.set {c : Option Nat} {w a : World} (h : Bes c w a) {p : Addr} (hp : w.heap.size ≤ p.block ∨ c = some p.block) (u : Value) : Bes c w (a.setCell p u) :=
  ⟨h.os, h.tape, h.output, by simpa [World.setCell] using h.size, fun k hk hc => (Below.heap_setCell _ _ _ _ (by rcases hp with g | g; · omega
                                                                                                                 · intro e; exact hc (by rw [g, e]))).trans (h.block k hk hc)⟩
theorem Bes.cell {c : Option Nat} {w w' : World} (h : Bes c w w') {p : Addr} (hp : p.block < w.heap.size) (hc : c ≠ some p.block) : w'.cell? p = w.cell? p := World.cell?_of_block (w := w) (h.block p.block hp hc)
theorem Bes.frozen {c : Option Nat} {w w' : World} (h : Bes c w w') {p : Addr} (hp : p.block < w.heap.size) (hc : c ≠ some p.block) : w'.frozen? p = w.frozen? p := World.frozen?_of_block (w := w) (h.block p.block hp hc)
theorem Bes.below {c : Option Nat} {w w' : World} (h : Bes c w w') (B : Nat) (hB : B ≤ w.heap.size) (hc : ∀ k, c = some k → B ≤ k) : Below B w w' :=
  ⟨h.os, h.tape, h.output, h.size, fun k hk => h.block k (Nat.lt_of_lt_of_le hk hB) (fun e => by have := hc k e; omega)⟩
theorem Bes.nil {w w' : World} (h : Bes none w w') : Below w.heap.size w w' := h.below _ (Nat.le_refl _) (fun k e => by cases e)
/-- The slice lies beside block c. -/
def Apt (c : Option Nat) (a : Option Addr) (len : Nat) : Prop := 0 < len → ∀ b o s, a = some ⟨b, o, s⟩ → c ≠ some b
theorem Apt.nil (a : Option Addr) (len : Nat) : Apt none a len := fun _ b o s _ e => by cases e
theorem URow.bes {w w' : World} {c : Option Nat} {a : Option Addr} {len cap : Nat} {Z : Nat → Int} (h : URow w a len cap Z) (hb : Bes c w w') (hc : Apt c a len) : URow w' a len cap Z := by
  obtain ⟨h1, h2, h3, h4⟩ := h
  refine ⟨h1, h2, h3, fun hp => ?_⟩
  obtain ⟨b, o, e, hlt, hcell⟩ := h4 hp
  have := hb.size
  exact ⟨b, o, e, by omega, fun i hi => (hb.cell (p := ⟨b, o + i, none⟩) hlt (hc hp b o none e)).trans (hcell i hi)⟩
theorem RowU.bes {w w' : World} {c : Option Nat} {g : Nat} {xs : List Int} (h : RowU w g xs) (hb : Bes c w w') (hc : c ≠ some g) : RowU w' g xs := by
  unfold RowU
  rw [hb.block g h.lt hc]
  exact h
/-- A slice that came in lies beside a Calc that is younger. -/
theorem URow.apt {w : World} {a : Option Addr} {len cap : Nat} {Z : Nat → Int} (h : URow w a len cap Z) {c : Option Nat} (hc : ∀ k, c = some k → w.heap.size ≤ k) : Apt c a len := by
  intro hp b o s e ec
  obtain ⟨b', o', e', hlt, _⟩ := h.2.2.2 hp
  rw [e] at e'
  injection e' with e'
  injection e' with e1 e2 e3
  have := hc b ec
  omega
theorem IsCalc.later {w w' : World} {p : Value} {c : Option Nat} {F : Int} (h : IsCalc w p c F) (hb : Below w.heap.size w w') : IsCalc w' p c F := by
  rcases h with h | ⟨k, h1, h2, h3, h4, h5⟩
  · exact .inl h
  · exact .inr ⟨k, h1, h2, Nat.lt_of_lt_of_le h3 hb.size, (hb.cell (p := ⟨k, 0, none⟩) h3).trans h4, (hb.frozen (p := ⟨k, 0, none⟩) h3).trans h5⟩
theorem IsCalc.bes {w w' : World} {p : Value} {c d : Option Nat} {F : Int} (h : IsCalc w p c F) (hb : Bes d w w') (hd : ∀ k, c = some k → d ≠ some k) : IsCalc w' p c F := by
  rcases h with h | ⟨k, h1, h2, h3, h4, h5⟩
  · exact .inl h
  · exact .inr ⟨k, h1, h2, Nat.lt_of_lt_of_le h3 hb.size, (hb.cell (p := ⟨k, 0, none⟩) h3 (hd k h2)).trans h4, (hb.frozen (p := ⟨k, 0, none⟩) h3 (hd k h2)).trans h5⟩
theorem IsCalc.nil (w : World) (F : Int) : IsCalc w (.pointer none) none F := .inl ⟨rfl, rfl⟩
theorem IsCalc.lt {w : World} {p : Value} {c : Option Nat} {F : Int} (h : IsCalc w p c F) : ∀ k, c = some k → k < w.heap.size := by
  intro k e
  rcases h with ⟨_, h⟩ | ⟨j, h1, h2, h3, _⟩
  · rw [h] at e; cases e
  · rw [h2] at e; injection e with e; omega
/-- What an entry into F leaves. -/
theorem calc_set {w w1 : World} {k : Nat} {G : Int} (hk : k < w.heap.size) (hb : Below w.heap.size w w1) (z : w.frozen? ⟨k, 0, none⟩ = false) (F : Int) (c : w.cell? ⟨k, 0, none⟩ = some (.int .u8 F)) :
    IsCalc (w1.setCell ⟨k, 0, none⟩ (.int .u8 G)) (.pointer (some ⟨k, 0, none⟩)) (some k) G ∧ Bes (some k) w (w1.setCell ⟨k, 0, none⟩ (.int .u8 G)) := by
  have c1 := (hb.cell (p := ⟨k, 0, none⟩) hk).trans c
  have z1 := (hb.frozen (p := ⟨k, 0, none⟩) hk).trans z
  have hs := hb.size
  refine ⟨.inr ⟨k, rfl, rfl, by simp [World.setCell]; omega, ?_, ?_⟩, (Bes.of hb).set (p := ⟨k, 0, none⟩) (.inr rfl) _⟩
  · simp [go_sem, c1]
  · simp [go_sem, z1]
theorem uSub (p : Value) (c : Option Nat) (a b F : Int) (w : World) (hc : IsCalc w p c F) (h0 : 0 ≤ a) (h1 : a < 18446744073709551616) (g0 : 0 ≤ b) (g1 : b < 18446744073709551616) :
    Calls Tryz.prog 32 #[p, .int .u64 a, .int .u64 b] w fun e w' => e = .returned (.int .u64 (addS a (wFlip b)).1) ∧ IsCalc w' p c (bits .or .u8 F (addS a (wFlip b)).2) ∧ Bes c w w' := by
  rcases hc with ⟨rfl, rfl⟩ | ⟨k, rfl, rfl, h3, h4, h5⟩
  · refine (cSub0 a b w h0 h1 g0 g1).mono ?_
    rintro e w' ⟨rfl, hb⟩
    exact ⟨rfl, IsCalc.nil _ _, Bes.of hb⟩
  · refine (cSub k a b F w h0 h1 g0 g1 h3 h4 h5).mono ?_
    rintro e w' ⟨rfl, w1, hb, rfl⟩
    exact ⟨rfl, calc_set h3 hb h5 F h4⟩
theorem uMul (p : Value) (c : Option Nat) (a b F : Int) (w : World) (hc : IsCalc w p c F) (h0 : 0 ≤ a) (h1 : a < 18446744073709551616) (g0 : 0 ≤ b) (g1 : b < 18446744073709551616) :
    Calls Tryz.prog 61 #[p, .int .u64 a, .int .u64 b] w fun e w' => e = .returned (.int .u64 (mulS a b).1) ∧ IsCalc w' p c (bits .or .u8 F (mulS a b).2) ∧ Bes c w w' := by
  rcases hc with ⟨rfl, rfl⟩ | ⟨k, rfl, rfl, h3, h4, h5⟩
  · refine (cMul0 a b w h0 h1 g0 g1).mono ?_
    rintro e w' ⟨rfl, hb⟩
    exact ⟨rfl, IsCalc.nil _ _, Bes.of hb⟩
  · refine (cMul k a b F w h0 h1 g0 g1 h3 h4 h5).mono ?_
    rintro e w' ⟨rfl, w1, hb, rfl⟩
    exact ⟨rfl, calc_set h3 hb h5 F h4⟩
end Go.Proofs.YtpakpgjbgehhjaaGreat

/-
  What vec's Dot, Asum, Scal, Axpy return, with any Calc: the values step by step, and all flags. Conditions: the lists lie beside the Calc.
-/
namespace Go.Proofs.YtpakpgjbgehhjaaGreat
open Go.RowKit
set_option linter.unusedVariables false

theorem mulS_rng (a b : Int) : 0 ≤ (mulS a b).1 ∧ (mulS a b).1 < 18446744073709551616 := ⟨(mulS_bd a b).1, (mulS_bd a b).2.1⟩
end Go.Proofs.YtpakpgjbgehhjaaGreat

/-
  What vec's Unit, Scal, Asum and Axpy return: new rows, filled one place behind the other. Conditions: the lists lie beside the Calc; at most a million numbers.
-/
namespace Go.Proofs.YtpakpgjbgehhjaaGreat
open Go.RowKit
set_option linter.unusedVariables false

/-- Block g is a new row of n words, of which the first k are Z's. -/
def Row1 (w : World) (g n k : Nat) (Z : Nat → Int) : Prop := ∃ xs : List Int, RowU w g xs ∧ xs.length = n ∧ ∀ i, i < k → xs[i]?.getD 0 = Z i
theorem Row1.new (w : World) (n : Nat) (Z : Nat → Int) : Row1 (w.alloc (.cells ((List.replicate n (0 : Int)).map (Value.int .u64)).toArray 36)) w.heap.size n 0 Z :=
  ⟨List.replicate n 0, heap_alloc_new w _, List.length_replicate, fun i h => absurd h (Nat.not_lt_zero i)⟩
theorem Row1.lt {w : World} {g n k : Nat} {Z : Nat → Int} (h : Row1 w g n k Z) : g < w.heap.size := by obtain ⟨xs, h1, _⟩ := h; exact h1.lt
theorem Row1.at {w : World} {g n k : Nat} {Z : Nat → Int} (h : Row1 w g n k Z) (i : Nat) (hi : i < n) : ∃ z, w.cell? ⟨g, i, none⟩ = some (.int .u64 z) ∧ w.frozen? ⟨g, i, none⟩ = false := by
  obtain ⟨xs, h1, h2, h3⟩ := h
  exact ⟨_, h1.cell i (by omega), h1.frozen i⟩
theorem Row1.set {w : World} {g n k : Nat} {Z : Nat → Int} (h : Row1 w g n k Z) (hk : k < n) {z : Int} (hz : z = Z k) : Row1 (w.setCell ⟨g, k, none⟩ (.int .u64 z)) g n (k + 1) Z := by
  obtain ⟨xs, h1, h2, h3⟩ := h
  refine ⟨xs.set k z, h1.set k z, by rw [List.length_set]; exact h2, fun i hi => ?_⟩
  rw [List.getElem?_set]
  by_cases e : k = i
  · subst e
    rw [if_pos rfl, if_pos (by omega)]
    exact hz
  · rw [if_neg e]
    exact h3 i (by omega)
theorem Row1.put {w : World} {g n k : Nat} {Z : Nat → Int} (h : Row1 w g n k Z) {p : Addr} (hp : p.block ≠ g) (u : Value) : Row1 (w.setCell p u) g n k Z := by
  obtain ⟨xs, h1, h2⟩ := h
  refine ⟨xs, ?_, h2⟩
  unfold RowU
  rw [Below.heap_setCell _ _ _ _ (Ne.symm hp)]
  exact h1
theorem Row1.below {w w' : World} {g n k : Nat} {Z : Nat → Int} (h : Row1 w g n k Z) (hb : Below w.heap.size w w') : Row1 w' g n k Z := by
  obtain ⟨xs, h1, h2⟩ := h
  exact ⟨xs, h1.below hb, h2⟩
theorem Row1.bes {w w' : World} {c : Option Nat} {g n k : Nat} {Z : Nat → Int} (h : Row1 w g n k Z) (hb : Bes c w w') (hc : c ≠ some g) : Row1 w' g n k Z := by
  obtain ⟨xs, h1, h2⟩ := h
  exact ⟨xs, h1.bes hb hc, h2⟩
theorem Row1.drew {w : World} {g n k : Nat} {Z : Nat → Int} (h : Row1 w g n k Z) : Row1 w.drew g n k Z := h
theorem Row1.row {w : World} {g n : Nat} {Z : Nat → Int} (h : Row1 w g n n Z) (hn : n ≤ 1000000) (hz : ∀ i, 0 ≤ Z i ∧ Z i < 18446744073709551616) : URow w (some ⟨g, 0, none⟩) n n Z := by
  obtain ⟨xs, h1, h2, h3⟩ := h
  refine ⟨Nat.le_refl _, by unfold maxLen; omega, hz, fun hp => ⟨g, 0, rfl, h1.lt, fun i hi => ?_⟩⟩
  rw [Nat.zero_add, h1.cell i (by omega), h3 i hi]
end Go.Proofs.YtpakpgjbgehhjaaGreat

/-
  What vec's Power and Nrm2 return; the document's example. Conditions: at most 60 numbers, beside the Calc.
-/
namespace Go.Proofs.YtpakpgjbgehhjaaGreat
open Go.RowKit
set_option linter.unusedVariables false

theorem Great.only {n : Nat} {X : Nat → Int} {B t B' t' : Int} (h : Great n X B t) (h' : Great n X B' t') : B = B' := by
  rcases h with ⟨k, hk, hn, _, rfl, _⟩ | ⟨h0, h⟩
  · rcases h' with ⟨k', hk', hn', _, rfl, _⟩ | ⟨h0', h'⟩
    · rfl
    · have := h0' k hk; rw [hn] at this; cases this
  · rcases h' with ⟨k', hk', hn', _, rfl, _⟩ | ⟨h0', h'⟩
    · have := h0 k' hk'; rw [hn'] at this; cases this
    · rcases h with ⟨rfl, rfl, _⟩ | ⟨j, _, hj, rfl, h3⟩
      · rcases h' with ⟨_, rfl, _⟩ | ⟨j', _, hj', _, _⟩
        · rfl
        · exact absurd hj' (Nat.not_lt_zero _)
      · rcases h' with ⟨rfl, _, _⟩ | ⟨j', _, hj', rfl, h3'⟩
        · exact absurd hj (Nat.not_lt_zero _)
        · have := (h3 j' hj').1
          have := (h3' j hj).1
          omega
theorem Great.rng {n : Nat} {X : Nat → Int} {B t : Int} (h : Great n X B t) : 0 ≤ B ∧ B < 18446744073709551616 := by
  rcases h with ⟨k, hk, hn, _, rfl, _⟩ | h
  · decide
  · have := h.bd; omega
theorem calc_new (w : World) : IsCalc (w.alloc (.cells #[.int .u8 0] 31)) (.pointer (some ⟨w.heap.size, 0, none⟩)) (some w.heap.size) 0 := by
  refine .inr ⟨_, rfl, rfl, by simp, ?_, ?_⟩
  · simp [go_sem]
  · simp [go_sem]
end Go.Proofs.YtpakpgjbgehhjaaGreat

/-
  What the laws of layer 10 share: which numbers have a power; flags; a Calc's cell; lists of a function's values. No conditions.
-/
namespace Go.Proofs.YtpakpgjbgehhjaaGreat
open Go.RowKit
set_option linter.unusedVariables false

theorem calc_cell {w : World} {k : Nat} {F : Int} (h : IsCalc w (.pointer (some ⟨k, 0, none⟩)) (some k) F) : w.cell? ⟨k, 0, none⟩ = some (.int .u8 F) ∧ w.frozen? ⟨k, 0, none⟩ = false ∧ k < w.heap.size := by
  rcases h with ⟨_, h⟩ | ⟨j, _, h2, h3, h4, h5⟩
  · cases h
  · injection h2 with h2
    subst h2
    exact ⟨h4, h5, h3⟩
/-- The first k values. -/
def lst (Y : Nat → Int) (k : Nat) : List Int := (List.range k).map Y
theorem lst_succ (Y : Nat → Int) (k : Nat) : lst Y (k + 1) = lst Y k ++ [Y k] := by unfold lst; rw [List.range_succ, List.map_append]; rfl
theorem lst_len (Y : Nat → Int) (k : Nat) : (lst Y k).length = k := by unfold lst; simp
theorem lst_at (Y : Nat → Int) (k i : Nat) (h : i < k) : (lst Y k)[i]?.getD 0 = Y i := by unfold lst; simp [h]
theorem OwnU.row {w : World} {base : Nat} {v : Value} {Y : Nat → Int} {n : Nat} (h : OwnU w base v (lst Y n)) (hy : ∀ i, 0 ≤ Y i ∧ Y i < 18446744073709551616) : ∃ g c, v = .slice (some ⟨g, 0, none⟩) n c ∧ base ≤ g ∧ g < w.heap.size ∧ URow w (some ⟨g, 0, none⟩) n c Y := by
  obtain ⟨g, cap, e, _, h1, h2, h3, h4, h5⟩ := h.at
  rw [lst_len] at e h3 h5
  refine ⟨g, cap, e, h1, h2, h3, h4, hy, fun _ => ⟨g, 0, rfl, h2, fun i hi => ?_⟩⟩
  rw [Nat.zero_add, h5 i hi, lst_at _ _ _ hi]
end Go.Proofs.YtpakpgjbgehhjaaGreat
