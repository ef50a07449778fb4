/-
  Numbers of package dyad in memory: a block of words ('RowU'), a world of which one block has turned ('Only'), a number ('IsNum', 'Tell'). No conditions.
-/
import Derived.Test.YtokgfeeaoioegaaDyadM
import Derived.Test.YtokgfeeaoioegaaSeeU
import Derived.Test.YtokgfeeaoioegaaPlaceC
namespace Go.Proofs.Ytokgfeeaoioegaa
open Go.RowKit
set_option linter.unusedVariables false

/-- Block g holds the words xs, and nothing else. -/
def RowU (w : World) (g : Nat) (xs : List Int) : Prop := w.heap[g]? = some (.cells (xs.map (Value.int .u64)).toArray 26 (0, 0))
theorem RowU.lt {w : World} {g : Nat} {xs : List Int} (h : RowU w g xs) : g < w.heap.size := (Array.getElem?_eq_some_iff.1 h).1
theorem RowU.cell {w : World} {g : Nat} {xs : List Int} (h : RowU w g xs) (i : Nat) (hi : i < xs.length) : w.cell? ⟨g, i, none⟩ = some (.int .u64 (xs[i]?.getD 0)) := by
  unfold RowU at h
  unfold World.cell?
  rw [h]
  simp [List.getElem?_eq_getElem hi]
theorem RowU.frozen {w : World} {g : Nat} {xs : List Int} (h : RowU w g xs) (i : Nat) : w.frozen? ⟨g, i, none⟩ = false := by
  unfold RowU at h
  unfold World.frozen?
  rw [h]
  simp
theorem RowU.set {w : World} {g : Nat} {xs : List Int} (h : RowU w g xs) (i : Nat) (y : Int) : RowU (w.setCell ⟨g, i, none⟩ (.int .u64 y)) g (xs.set i y) := by
  unfold RowU at h ⊢
  simp only [World.setCell, Array.getElem?_modify, if_true, h, Option.map_some]
  simp [List.map_set]
theorem RowU.below {w w' : World} {g : Nat} {xs : List Int} (h : RowU w g xs) (hb : Below w.heap.size w w') : RowU w' g xs := by
  unfold RowU
  rw [hb.block g h.lt]
  exact h
theorem RowU.drew {w : World} {g : Nat} {xs : List Int} (h : RowU w g xs) : RowU w.drew g xs := h
/-- Nothing but block g has turned. -/
structure Only (g : Nat) (w w' : World) : Prop where
  os : w'.os = w.os
  tape : w'.tape = w.tape
  output : w'.output = w.output
  size : w'.heap.size = w.heap.size
  block : ∀ k, k ≠ g → w'.heap[k]? = w.heap[k]?
theorem Only.refl (g : Nat) (w : World) : Only g w w := ⟨rfl, rfl, rfl, rfl, fun _ _ => rfl⟩
theorem Only.trans {g : Nat} {a b c : World} (h : Only g a b) (k : Only g b c) : Only g a c :=
  ⟨k.os.trans h.os, k.tape.trans h.tape, k.output.trans h.output, k.size.trans h.size, fun i hi => (k.block i hi).trans (h.block i hi)⟩
theorem Only.set {g : Nat} {a w : World} (h : Only g a w) (i : Nat) (u : Value) : Only g a (w.setCell ⟨g, i, none⟩ u) :=
  h.trans ⟨rfl, rfl, rfl, by simp [World.setCell], fun k hk => Below.heap_setCell _ _ _ _ hk⟩
theorem Only.drew {g : Nat} {a w : World} (h : Only g a w) : Only g a w.drew := ⟨h.os, h.tape, h.output, h.size, h.block⟩
theorem Only.below {g B : Nat} {w w' : World} (h : Only g w w') (hB : B ≤ g) : Below B w w' := ⟨h.os, h.tape, h.output, by rw [h.size]; exact Nat.le_refl _, fun k hk => h.block k (by omega)⟩
theorem Only.cell {g : Nat} {w w' : World} (h : Only g w w') {p : Addr} (hp : p.block ≠ g) : w'.cell? p = w.cell? p := World.cell?_of_block (w := w) (h.block p.block hp)
theorem Only.frozen {g : Nat} {w w' : World} (h : Only g w w') {p : Addr} (hp : p.block ≠ g) : w'.frozen? p = w.frozen? p := World.frozen?_of_block (w := w) (h.block p.block hp)
theorem RowU.sees {w : World} {g : Nat} {xs : List Int} (h : RowU w g xs) (o n c : Nat) (hn : o + n ≤ xs.length) (hc : n ≤ c) (hm : c ≤ maxLen) : SeesU w (.slice (some ⟨g, o, none⟩) n c) ((xs.drop o).take n) := by
  have hl : ((xs.drop o).take n).length = n := by rw [List.length_take, List.length_drop]; omega
  refine ⟨g, o, c, by rw [hl], h.lt, by rw [hl]; exact hc, hm, fun i hi => ?_⟩
  rw [hl] at hi
  rw [h.cell (o + i) (by omega), List.getElem?_take, if_pos hi, List.getElem?_drop]
theorem RowU.sees_all {w : World} {g : Nat} {xs : List Int} (h : RowU w g xs) (c : Nat) (hc : xs.length ≤ c) (hm : c ≤ maxLen) : SeesU w (.slice (some ⟨g, 0, none⟩) xs.length c) xs := by
  have := h.sees 0 xs.length c (by omega) hc hm
  rw [List.drop_zero, List.take_length] at this
  exact this
/-- A slice that is nil, or holds the words, in a block from base on. -/
def SeesW (w : World) (base : Nat) (s : Value) (ws : List Int) : Prop := (s = .slice none 0 0 ∧ ws = []) ∨ (SeesU w s ws ∧ ws ≠ [] ∧ ∃ b o c, s = .slice (some ⟨b, o, none⟩) ws.length c ∧ base ≤ b)
theorem SeesW.below {w w' : World} {base : Nat} {s : Value} {ws : List Int} (h : SeesW w base s ws) (hb : Below w.heap.size w w') : SeesW w' base s ws := by
  rcases h with h | ⟨h1, h2⟩
  · exact .inl h
  · exact .inr ⟨h1.below hb, h2⟩
theorem SeesW.base {w : World} {b b' : Nat} {s : Value} {ws : List Int} (h : SeesW w b s ws) (hb : b' ≤ b) : SeesW w b' s ws := by
  rcases h with h | ⟨h1, h2, x, o, c, h3, h4⟩
  · exact .inl h
  · exact .inr ⟨h1, h2, x, o, c, h3, by omega⟩
theorem SeesW.set {w : World} {base : Nat} {s : Value} {ws : List Int} (h : SeesW w base s ws) {p : Addr} (hp : p.block < base) (u : Value) : SeesW (w.setCell p u) base s ws := by
  rcases h with h | ⟨⟨b, o, c, rfl, h1, h2, h3, h4⟩, hn, x, o', c', h5, h6⟩
  · exact .inl h
  · refine .inr ⟨⟨b, o, c, rfl, by simpa [World.setCell] using h1, h2, h3, fun i hi => ?_⟩, hn, x, o', c', h5, h6⟩
    simp at h5
    obtain ⟨⟨rfl, rfl⟩, rfl⟩ := h5
    rw [← h4 i hi]
    exact World.cell?_of_block (w := w) (Below.heap_setCell _ _ _ _ (by show b ≠ p.block; omega))
theorem SeesW.len {w : World} {base : Nat} {s : Value} {ws : List Int} (h : SeesW w base s ws) : ∃ a c, s = .slice a ws.length c := by
  rcases h with ⟨rfl, rfl⟩ | ⟨⟨b, o, c, rfl, _⟩, _⟩
  · exact ⟨none, 0, rfl⟩
  · exact ⟨_, c, rfl⟩
theorem OwnU.seesW {w : World} {base : Nat} {v : Value} {xs : List Int} (h : OwnU w base v xs) (hn : xs ≠ []) : SeesW w base v xs := by
  have hs := h.sees
  obtain ⟨g, cap, rfl, _, h1, _⟩ := h.at
  exact .inr ⟨hs, hn, g, 0, cap, rfl, h1⟩
/-- A number: sign, words, place. -/
def IsNum (w : World) (base : Nat) (v : Value) (neg : Bool) (ws : List Int) (p : Int) : Prop :=
  ∃ s, v = .agg #[.bool neg, s, .int .i64 p, .slice none 0 0] ∧ SeesW w base s ws ∧ (ws = [] → p = 0)
def sg (n : Bool) : Int := if n then -1 else 1
/-- The number v is X times 2^-64k; its words lie beneath 2^64 to the power L. -/
def Tell (w : World) (base : Nat) (v : Value) (k : Nat) (L X : Int) : Prop :=
  ∃ neg ws p, IsNum w base v neg ws p ∧ Norm ws ∧ -(k : Int) ≤ p ∧ p + (ws.length : Int) ≤ L ∧ X = sg neg * (dv ws * pw (p + k).toNat)
theorem Tell.below {w w' : World} {base : Nat} {v : Value} {k : Nat} {L X : Int} (h : Tell w base v k L X) (hb : Below w.heap.size w w') : Tell w' base v k L X := by
  obtain ⟨neg, ws, p, ⟨s, h0, h1, h9⟩, h2⟩ := h
  exact ⟨neg, ws, p, ⟨s, h0, h1.below hb, h9⟩, h2⟩
theorem Tell.base {w : World} {b b' : Nat} {v : Value} {k : Nat} {L X : Int} (h : Tell w b v k L X) (hb : b' ≤ b) : Tell w b' v k L X := by
  obtain ⟨neg, ws, p, ⟨s, h0, h1, h9⟩, h2⟩ := h
  exact ⟨neg, ws, p, ⟨s, h0, h1.base hb, h9⟩, h2⟩
theorem Tell.set {w : World} {base : Nat} {v : Value} {k : Nat} {L X : Int} (h : Tell w base v k L X) {p : Addr} (hp : p.block < base) (u : Value) : Tell (w.setCell p u) base v k L X := by
  obtain ⟨neg, ws, q, ⟨s, h0, h1, h9⟩, h2⟩ := h
  exact ⟨neg, ws, q, ⟨s, h0, h1.set hp u, h9⟩, h2⟩
theorem Tell.up {w : World} {base : Nat} {v : Value} {k : Nat} {L X : Int} (h : Tell w base v k L X) (k' : Nat) (L' : Int) (hk : k ≤ k') (hL : L ≤ L') : Tell w base v k' L' (X * pw (k' - k)) := by
  obtain ⟨neg, ws, p, h1, h2, h3, h4, rfl⟩ := h
  refine ⟨neg, ws, p, h1, h2, by omega, by omega, ?_⟩
  rw [show (p + k').toNat = (p + k).toNat + (k' - k) by omega, pw_add]
  grind
theorem Tell.wide {w : World} {base : Nat} {v : Value} {k : Nat} {L X : Int} (h : Tell w base v k L X) (L' : Int) (hL : L ≤ L') : Tell w base v k L' X := by
  obtain ⟨neg, ws, p, h1, h2, h3, h4, h5⟩ := h
  exact ⟨neg, ws, p, h1, h2, h3, by omega, h5⟩
theorem Tell.eq {w : World} {base : Nat} {v : Value} {k : Nat} {L X Y : Int} (h : Tell w base v k L X) (e : X = Y) : Tell w base v k L Y := e ▸ h
theorem Tell.zero (w : World) (base : Nat) (n : Bool) (k : Nat) (L : Int) (hL : 0 ≤ L) : Tell w base (.agg #[.bool n, .slice none 0 0, .int .i64 0, .slice none 0 0]) k L 0 :=
  ⟨n, [], 0, ⟨_, rfl, .inl ⟨rfl, rfl⟩, fun _ => rfl⟩, ⟨InW.nil, fun h => absurd rfl h⟩, by omega, by simpa using hL, by rw [dv_nil, Int.zero_mul, Int.mul_zero]⟩
theorem sg_not (n : Bool) : sg (!n) = - sg n := by cases n <;> rfl
theorem sg_mul (a b : Bool) : sg (a != b) = sg a * sg b := by cases a <;> cases b <;> rfl
/-- -1, 0 or 1: a number's sign. -/
theorem sgnX (n : Bool) (D : Int) (hD : 0 < D) : cmpZ (sg n * D) 0 = if n then -1 else 1 := by
  cases n
  · unfold sg cmpZ; simp; omega
  · unfold sg cmpZ; simp; omega
theorem wpos {ws : List Int} (h : Norm ws) (hn : ws ≠ []) (k : Nat) : 0 < dv ws * pw k := Int.mul_pos (h.pos hn).2.2 (pw_pos k)
end Go.Proofs.Ytokgfeeaoioegaa
