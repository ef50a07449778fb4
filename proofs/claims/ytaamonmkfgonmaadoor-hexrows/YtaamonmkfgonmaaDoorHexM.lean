/-
  Hexadecimal digits as bytes, and an array of 65 bytes that is filled from its end (no program in sight). No conditions.
-/
import Derived.Test.YtaamonmkfgonmaaDoorProg
import Derived.WalkKit
import Derived.ProofKit
import Derived.Lib.ItoaMem
namespace Go.Proofs.YtaamonmkfgonmaaDoor
open Go.RowKit
set_option linter.unusedVariables false
set_option linter.unusedSimpArgs false

/-- The sign of a digit. -/
def hxB (d : Nat) : UInt8 := UInt8.ofNat (if d < 10 then 48 + d else 87 + d)
/-- A whole number in base 16. -/
def hxD (u : Nat) : List UInt8 := if h : u < 16 then [hxB u] else hxD (u / 16) ++ [hxB (u % 16)]
  termination_by u
  decreasing_by omega
theorem hxD_small (u : Nat) (h : u < 16) : hxD u = [hxB u] := by rw [hxD, dif_pos h]
theorem hxD_big (u : Nat) (h : ¬ u < 16) : hxD u = hxD (u / 16) ++ [hxB (u % 16)] := by rw [hxD, dif_neg h]
theorem hxD_pos (u : Nat) : 1 ≤ (hxD u).length := by
  by_cases h : u < 16
  · rw [hxD_small u h]; exact Nat.le_refl _
  · rw [hxD_big u h, List.length_append]; simp
theorem hxD_len (k : Nat) : ∀ u, u < 16 ^ (k + 1) → (hxD u).length ≤ k + 1 := by
  induction k with
  | zero => intro u h; rw [hxD_small u (by simpa using h)]; exact Nat.le_refl _
  | succ k ih =>
    intro u h
    by_cases h1 : u < 16
    · rw [hxD_small u h1]; simp
    · rw [hxD_big u h1, List.length_append]
      have := ih (u / 16) (by rw [Nat.pow_succ] at h; omega)
      simp; omega
theorem hxD_len64 (u : Nat) (h : u < 18446744073709551616) : (hxD u).length ≤ 16 := hxD_len 15 u h
/-- An array of 65 bytes in block b, of which the last hold the list, from place i on. -/
def Arr65 (w : World) (b i : Nat) (ds : List UInt8) : Prop :=
  b < w.heap.size ∧ (∀ t, t < 65 → (∃ v, w.cell? ⟨b, t, none⟩ = some v) ∧ w.frozen? ⟨b, t, none⟩ = false) ∧ ∀ j (h : j < ds.length), w.cell? ⟨b, i + j, none⟩ = some (.int .u8 (ds[j].toNat : Int))
theorem Arr65.push {w : World} {b i : Nat} {ds : List UInt8} (h : Arr65 w b (i + 1) ds) (hi : i < 65) (x : UInt8) : Arr65 (w.setCell ⟨b, i, none⟩ (.int .u8 (x.toNat : Int))) b i (x :: ds) := by
  obtain ⟨h1, h2, h3⟩ := h
  obtain ⟨⟨v, hv⟩, hf⟩ := h2 i hi
  refine ⟨by simpa [World.setCell] using h1, fun t ht => ?_, fun j hj => ?_⟩
  · obtain ⟨⟨u, hu⟩, gf⟩ := h2 t ht
    refine ⟨?_, ?_⟩
    · by_cases e : t = i
      · subst e; exact ⟨_, World.cell?_setCell_same _ _ _ hv⟩
      · exact ⟨u, by rw [World.cell?_setCell_other _ _ _ _ (by simp <;> omega)]; exact hu⟩
    · simp [go_sem, gf]
  · cases j with
    | zero => exact World.cell?_setCell_same _ _ _ hv
    | succ j =>
      rw [World.cell?_setCell_other _ _ _ _ (by simp <;> omega), List.getElem_cons_succ]
      have := h3 j (by simpa using hj)
      rw [show i + 1 + j = i + (j + 1) by omega] at this
      exact this
end Go.Proofs.YtaamonmkfgonmaaDoor
