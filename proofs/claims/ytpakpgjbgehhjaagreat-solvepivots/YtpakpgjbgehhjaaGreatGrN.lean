/-
  Texts put together: StepM.
-/
import Derived.Test.YtpakpgjbgehhjaaGreatProg
import Derived.Test.YtpakpgjbgehhjaaGreatGrL
import Derived.Test.YtpakpgjbgehhjaaGreatGrH
/-
  Facts of memory handed on, step by step: a draw, a new block, a store into another block. No conditions.
-/
namespace Go.Proofs.YtpakpgjbgehhjaaGreat
open Go.RowKit
set_option linter.unusedVariables false

theorem URow.drew {w : World} {a : Option Addr} {len cap : Nat} {Z : Nat → Int} (h : URow w a len cap Z) : URow w.drew a len cap Z := h.below ((Below.refl _ _).drew)
theorem URow.alloc {w : World} {a : Option Addr} {len cap : Nat} {Z : Nat → Int} (h : URow w a len cap Z) (o : Obj) : URow (w.alloc o) a len cap Z := h.below ((Below.refl _ _).alloc (Nat.le_refl _) _)
theorem URow.put {w : World} {g off : Nat} {len cap : Nat} {Z : Nat → Int} (h : URow w (some ⟨g, off, none⟩) len cap Z) {p : Addr} (hp : p.block ≠ g) (u : Value) : URow (w.setCell p u) (some ⟨g, off, none⟩) len cap Z :=
  h.bes ((Bes.refl (some p.block) w).set (.inr rfl) u) (fun _ b o s' e ec => by injection e with e; injection e with e1; injection ec with ec; exact hp (ec.trans e1.symm))
theorem RowU.alloc {w : World} {g : Nat} {xs : List Int} (h : RowU w g xs) (o : Obj) : RowU (w.alloc o) g xs := h.below ((Below.refl _ _).alloc (Nat.le_refl _) _)
theorem RowU.put {w : World} {g : Nat} {xs : List Int} (h : RowU w g xs) {p : Addr} (hp : p.block ≠ g) (u : Value) : RowU (w.setCell p u) g xs :=
  h.bes ((Bes.refl (some p.block) w).set (.inr rfl) u) (fun e => hp (Option.some.inj e))
theorem MBox.cells {w : World} {b : Nat} {R C S : Int} {s : Value} (h : MBox w b R C S s) : w.cell? ⟨b, 0, none⟩ = some (.int .i64 R) ∧ w.cell? ⟨b, 1, none⟩ = some (.int .i64 C) ∧ w.cell? ⟨b, 2, none⟩ = some (.int .i64 S) ∧ w.cell? ⟨b, 3, none⟩ = some s := ⟨h.1, h.2.1, h.2.2.1, h.2.2.2.1⟩
theorem RowU.rowZ {w : World} {g n : Nat} {xs : List Int} (h : RowU w g xs) (hl : xs.length = n) (hn : n ≤ 1000000) (hw : InW xs) : URow w (some ⟨g, 0, none⟩) n n (fun j => xs[j]?.getD 0) := by
  subst hl
  exact h.row hn (fun j => hw.get j)
theorem URow.cellg {w : World} {g n c : Nat} {Z : Nat → Int} (h : URow w (some ⟨g, 0, none⟩) n c Z) (j : Nat) (hj : j < n) : g < w.heap.size ∧ w.cell? ⟨g, j, none⟩ = some (.int .u64 (Z j)) := by
  obtain ⟨b, o, e, hl, hc⟩ := h.2.2.2 (by omega)
  injection e with e
  injection e with e1 e2 e3
  subst e1 e2
  have := hc j hj
  rw [Nat.zero_add] at this
  exact ⟨hl, this⟩
theorem RowU.rowF {w : World} {g n : Nat} {xs : List Int} (h : RowU w g xs) (hl : xs.length = n) (hn : n ≤ 1000000) (hw : InW xs) {F : Nat → Int} (hF : F = fun j => xs[j]?.getD 0) : URow w (some ⟨g, 0, none⟩) n n F := by
  rw [hF]
  exact h.rowZ hl hn hw
theorem Apt.ne {c g off len : Nat} (h : c ≠ g) : Apt (some c) (some ⟨g, off, none⟩) len := fun _ b o s e ec => by
  injection e with e
  injection e with e1
  injection ec with ec
  exact h (ec.trans e1.symm)
theorem Bes.old {c : Nat} {w a b : World} (h : Below w.heap.size w a) (hb : Bes (some c) a b) (hc : w.heap.size ≤ c) : Below w.heap.size w b := h.trans (hb.below _ h.size (fun k e => by injection e with e; omega))
theorem mAtN (R C S : Nat) (a : Option Addr) (len cap : Nat) (Z : Nat → Int) (i k : Nat) (w : World) (h : Rgt (R : Int) (C : Int) (S : Int) len) (hx : URow w a len cap Z) (hi : i < R) (hk : k < C) :
    Calls Tryz.prog 13 #[.agg #[.int .i64 (R : Int), .int .i64 (C : Int), .int .i64 (S : Int), .slice a len cap], .int .i64 (i : Int), .int .i64 (k : Int)] w fun e w' => e = .returned (.int .u64 (Z (i * S + k))) ∧ Below w.heap.size w w' := by
  refine (mAt (R : Int) (C : Int) (S : Int) a len cap Z (i : Int) (k : Int) w h hx ⟨by omega, by omega, by omega, by omega⟩).mono ?_
  rintro e w' ⟨rfl, hb⟩
  refine ⟨?_, hb⟩
  rw [show ((i : Int) * (S : Int) + (k : Int)).toNat = i * S + k by rw [← Int.natCast_mul]; omega]
theorem mCheckOk (R C S : Nat) (a : Option Addr) (len cap : Nat) (w : World) (h : Rgt (R : Int) (C : Int) (S : Int) len) (hl : (len : Int) ≤ 9223372036854775807) :
    Calls Tryz.prog 34 #[.agg #[.int .i64 (R : Int), .int .i64 (C : Int), .int .i64 (S : Int), .slice a len cap]] w fun e w' => e = .returned (.int .i64 0) ∧ Below w.heap.size w w' := by
  refine (mCheck _ _ _ _ _ _ _ hl (by have := h.2.2.2.2.2.1; omega)).mono ?_
  rintro e w' ⟨⟨rfl, _⟩ | ⟨_, hN⟩, hb⟩
  · exact ⟨rfl, hb⟩
  · exact absurd h hN
end Go.Proofs.YtpakpgjbgehhjaaGreat
