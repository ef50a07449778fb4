/-
  A variable that holds a number of package dyad, written again and again: its four cells. No conditions.
-/
import Derived.Test.YtgpgmnmifhkmbaaDHeadC
namespace Go.Proofs.Ytgpgmnmifhkmbaa
open Go.RowKit
set_option linter.unusedVariables false
set_option linter.unusedSimpArgs false

/-- Block b holds these four cells, and may be written. -/
def BoxF (w : World) (b : Nat) (v0 v1 v2 v3 : Value) : Prop :=
  (w.cell? ⟨b, 0, none⟩ = some v0 ∧ w.cell? ⟨b, 1, none⟩ = some v1 ∧ w.cell? ⟨b, 2, none⟩ = some v2 ∧ w.cell? ⟨b, 3, none⟩ = some v3) ∧ (w.frozen? ⟨b, 0, none⟩ = false ∧ w.frozen? ⟨b, 1, none⟩ = false ∧ w.frozen? ⟨b, 2, none⟩ = false ∧ w.frozen? ⟨b, 3, none⟩ = false) ∧ b < w.heap.size
theorem BoxF.below {w w' : World} {b : Nat} {v0 v1 v2 v3 : Value} (h : BoxF w b v0 v1 v2 v3) (hb : Below w.heap.size w w') : BoxF w' b v0 v1 v2 v3 := by
  obtain ⟨K, ⟨f0, f1, f2, f3⟩, l⟩ := h
  exact ⟨box_keep hb l K, ⟨(hb.frozen (p := ⟨b, 0, none⟩) l).trans f0, (hb.frozen (p := ⟨b, 1, none⟩) l).trans f1, (hb.frozen (p := ⟨b, 2, none⟩) l).trans f2, (hb.frozen (p := ⟨b, 3, none⟩) l).trans f3⟩, Nat.lt_of_lt_of_le l hb.size⟩
theorem BoxF.put {w : World} {b : Nat} {v0 v1 v2 v3 : Value} (h : BoxF w b v0 v1 v2 v3) (u0 u1 u2 u3 : Value) : BoxF ((((w.setCell ⟨b, 0, none⟩ u0).setCell ⟨b, 1, none⟩ u1).setCell ⟨b, 2, none⟩ u2).setCell ⟨b, 3, none⟩ u3) b u0 u1 u2 u3 := by
  obtain ⟨⟨k0, k1, k2, k3⟩, ⟨f0, f1, f2, f3⟩, l⟩ := h
  refine ⟨cell4 (by rw [k0]; rfl) (by rw [k1]; rfl) (by rw [k2]; rfl) (by rw [k3]; rfl), ⟨?_, ?_, ?_, ?_⟩, by simp [World.setCell]; exact l⟩
  · simp [go_sem, f0]
  · simp [go_sem, f1]
  · simp [go_sem, f2]
  · simp [go_sem, f3]
theorem BoxF.made (w : World) (v0 v1 v2 v3 : Value) (t : TypeId) : BoxF (w.alloc (.cells #[v0, v1, v2, v3] t)) w.heap.size v0 v1 v2 v3 := by
  refine ⟨⟨?_, ?_, ?_, ?_⟩, ⟨?_, ?_, ?_, ?_⟩, by simp⟩ <;> simp [go_sem]
theorem BoxF.other {w : World} {b : Nat} {v0 v1 v2 v3 : Value} (h : BoxF w b v0 v1 v2 v3) {p : Addr} (hp : p.block ≠ b) (u : Value) : BoxF (w.setCell p u) b v0 v1 v2 v3 := by
  obtain ⟨⟨k0, k1, k2, k3⟩, ⟨f0, f1, f2, f3⟩, l⟩ := h
  refine ⟨⟨keep_other hp k0, keep_other hp k1, keep_other hp k2, keep_other hp k3⟩, ⟨?_, ?_, ?_, ?_⟩, by simp [World.setCell]; exact l⟩
  · simp [go_sem, f0]
  · simp [go_sem, f1]
  · simp [go_sem, f2]
  · simp [go_sem, f3]
theorem Tell.put {w : World} {B b : Nat} {v : Value} {k : Nat} {L X : Int} (h : Tell w B v k L X) (hb : b < B) (u0 u1 u2 u3 : Value) : Tell ((((w.setCell ⟨b, 0, none⟩ u0).setCell ⟨b, 1, none⟩ u1).setCell ⟨b, 2, none⟩ u2).setCell ⟨b, 3, none⟩ u3) B v k L X :=
  (((h.set (p := ⟨b, 0, none⟩) hb u0).set (p := ⟨b, 1, none⟩) hb u1).set (p := ⟨b, 2, none⟩) hb u2).set (p := ⟨b, 3, none⟩) hb u3
theorem below_put {w0 w : World} {B b : Nat} (h : Below B w0 w) (hb : B ≤ b) (u0 u1 u2 u3 : Value) : Below B w0 ((((w.setCell ⟨b, 0, none⟩ u0).setCell ⟨b, 1, none⟩ u1).setCell ⟨b, 2, none⟩ u2).setCell ⟨b, 3, none⟩ u3) :=
  (((h.setCell (p := ⟨b, 0, none⟩) hb u0).setCell (p := ⟨b, 1, none⟩) hb u1).setCell (p := ⟨b, 2, none⟩) hb u2).setCell (p := ⟨b, 3, none⟩) hb u3
theorem and_1_u (n : Int) : bits .and .u64 n 1 = n % 2 := by
  have h127 : (BitVec.ofInt 64 1).toNat = 2 ^ 1 - 1 := by decide
  have key : (BitVec.ofInt 64 n &&& BitVec.ofInt 64 1).toNat = (n % ((2 ^ 64 : Nat) : Int)).toNat % 2 ^ 1 := by
    rw [BitVec.toNat_and, BitVec.toNat_ofInt, h127, Nat.and_two_pow_sub_one_eq_mod]
  show IntKind.u64.wrap ((BitVec.ofInt 64 n &&& BitVec.ofInt 64 1).toNat : Nat) = n % 2
  rw [key, IntKind.wrap_u64]
  omega
theorem and_31_i (n : Int) : bits .and .i64 n 31 = n % 32 := by
  have h127 : (BitVec.ofInt 64 31).toNat = 2 ^ 5 - 1 := by decide
  have key : (BitVec.ofInt 64 n &&& BitVec.ofInt 64 31).toNat = (n % ((2 ^ 64 : Nat) : Int)).toNat % 2 ^ 5 := by
    rw [BitVec.toNat_and, BitVec.toNat_ofInt, h127, Nat.and_two_pow_sub_one_eq_mod]
  show IntKind.i64.wrap ((BitVec.ofInt 64 n &&& BitVec.ofInt 64 31).toNat : Nat) = n % 32
  rw [key, IntKind.wrap_i64]
  omega
theorem half_bit (M j : Nat) : M / 2 ^ j = 2 * (M / 2 ^ (j + 1)) + M / 2 ^ j % 2 := by
  rw [Nat.pow_succ, ← Nat.div_div_eq_div_mul]
  omega
end Go.Proofs.Ytgpgmnmifhkmbaa
