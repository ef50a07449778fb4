/-
  What a Calc's methods return: the numbers of soft's own; F gets all flags that come; a nil Calc: the numbers alone.
-/
import Derived.Test.YtokgfeeaoioegaaSoftF
namespace Go.Proofs.Ytokgfeeaoioegaa
open Go.RowKit
set_option linter.unusedVariables false

theorem cNote0 (b f : Int) (w : World) :
    Calls Try.prog 80 #[.pointer none, .int .u64 b, .int .u8 f] w fun e w' => e = .returned (.int .u64 b) ∧ w' = w := by
  go_enter Try.func80, Try.ntmps80
  go_wp2
  go_ret
  exact ⟨ret_eq rfl, rfl⟩
theorem cNote (k : Nat) (b f F : Int) (w : World) (c : w.cell? ⟨k, 0, none⟩ = some (.int .u8 F)) (z : w.frozen? ⟨k, 0, none⟩ = false) :
    Calls Try.prog 80 #[.pointer (some ⟨k, 0, none⟩), .int .u64 b, .int .u8 f] w fun e w' => e = .returned (.int .u64 b) ∧ w' = w.setCell ⟨k, 0, none⟩ (.int .u8 (bits .or .u8 F f)) := by
  go_enter Try.func80, Try.ntmps80
  go_wp2
  go_ret
  exact ⟨ret_eq rfl, rfl⟩
theorem cAdd0 (a b : Int) (w : World) (h0 : 0 ≤ a) (h1 : a < 18446744073709551616) (g0 : 0 ≤ b) (g1 : b < 18446744073709551616) :
    Calls Try.prog 44 #[.pointer none, .int .u64 a, .int .u64 b] w fun e w' => e = .returned (.int .u64 (addS a b).1) ∧ Below w.heap.size w w' := by
  go_enter Try.func44, Try.ntmps44
  go_wp2_with fail
  refine (pAdd _ _ _ h0 h1 g0 g1).mono ?_
  rintro e w1 ⟨rfl, hb1⟩
  go_wp2_with fail
  refine (cNote0 _ _ _).mono ?_
  rintro e w2 ⟨rfl, rfl⟩
  go_wp2
  go_ret
  exact ⟨ret_eq rfl, hb1⟩
theorem cAdd (k : Nat) (a b F : Int) (w : World) (h0 : 0 ≤ a) (h1 : a < 18446744073709551616) (g0 : 0 ≤ b) (g1 : b < 18446744073709551616) (hk : k < w.heap.size) (c : w.cell? ⟨k, 0, none⟩ = some (.int .u8 F)) (z : w.frozen? ⟨k, 0, none⟩ = false) :
    Calls Try.prog 44 #[.pointer (some ⟨k, 0, none⟩), .int .u64 a, .int .u64 b] w fun e w' => e = .returned (.int .u64 (addS a b).1) ∧ ∃ w1, Below w.heap.size w w1 ∧ w' = w1.setCell ⟨k, 0, none⟩ (.int .u8 (bits .or .u8 F (addS a b).2)) := by
  go_enter Try.func44, Try.ntmps44
  go_wp2_with fail
  refine (pAdd _ _ _ h0 h1 g0 g1).mono ?_
  rintro e w1 ⟨rfl, hb1⟩
  have c1 := cell_later hb1 c
  have z1 := (hb1.frozen (p := ⟨k, 0, none⟩) hk).trans z
  go_wp2_with fail
  refine (cNote _ _ _ _ _ c1 z1).mono ?_
  rintro e w2 ⟨rfl, rfl⟩
  go_wp2
  go_ret
  exact ⟨ret_eq rfl, w1, hb1, rfl⟩
theorem cSub0 (a b : Int) (w : World) (h0 : 0 ≤ a) (h1 : a < 18446744073709551616) (g0 : 0 ≤ b) (g1 : b < 18446744073709551616) :
    Calls Try.prog 46 #[.pointer none, .int .u64 a, .int .u64 b] w fun e w' => e = .returned (.int .u64 (addS a (wFlip b)).1) ∧ Below w.heap.size w w' := by
  go_enter Try.func46, Try.ntmps46
  go_wp2_with fail
  refine (pSub _ _ _ h0 h1 g0 g1).mono ?_
  rintro e w1 ⟨rfl, hb1⟩
  go_wp2_with fail
  refine (cNote0 _ _ _).mono ?_
  rintro e w2 ⟨rfl, rfl⟩
  go_wp2
  go_ret
  exact ⟨ret_eq rfl, hb1⟩
theorem cSub (k : Nat) (a b F : Int) (w : World) (h0 : 0 ≤ a) (h1 : a < 18446744073709551616) (g0 : 0 ≤ b) (g1 : b < 18446744073709551616) (hk : k < w.heap.size) (c : w.cell? ⟨k, 0, none⟩ = some (.int .u8 F)) (z : w.frozen? ⟨k, 0, none⟩ = false) :
    Calls Try.prog 46 #[.pointer (some ⟨k, 0, none⟩), .int .u64 a, .int .u64 b] w fun e w' => e = .returned (.int .u64 (addS a (wFlip b)).1) ∧ ∃ w1, Below w.heap.size w w1 ∧ w' = w1.setCell ⟨k, 0, none⟩ (.int .u8 (bits .or .u8 F (addS a (wFlip b)).2)) := by
  go_enter Try.func46, Try.ntmps46
  go_wp2_with fail
  refine (pSub _ _ _ h0 h1 g0 g1).mono ?_
  rintro e w1 ⟨rfl, hb1⟩
  have c1 := cell_later hb1 c
  have z1 := (hb1.frozen (p := ⟨k, 0, none⟩) hk).trans z
  go_wp2_with fail
  refine (cNote _ _ _ _ _ c1 z1).mono ?_
  rintro e w2 ⟨rfl, rfl⟩
  go_wp2
  go_ret
  exact ⟨ret_eq rfl, w1, hb1, rfl⟩
theorem cMul0 (a b : Int) (w : World) (h0 : 0 ≤ a) (h1 : a < 18446744073709551616) (g0 : 0 ≤ b) (g1 : b < 18446744073709551616) :
    Calls Try.prog 45 #[.pointer none, .int .u64 a, .int .u64 b] w fun e w' => e = .returned (.int .u64 (mulS a b).1) ∧ Below w.heap.size w w' := by
  go_enter Try.func45, Try.ntmps45
  go_wp2_with fail
  refine (pMul _ _ _ h0 h1 g0 g1).mono ?_
  rintro e w1 ⟨rfl, hb1⟩
  go_wp2_with fail
  refine (cNote0 _ _ _).mono ?_
  rintro e w2 ⟨rfl, rfl⟩
  go_wp2
  go_ret
  exact ⟨ret_eq rfl, hb1⟩
theorem cMul (k : Nat) (a b F : Int) (w : World) (h0 : 0 ≤ a) (h1 : a < 18446744073709551616) (g0 : 0 ≤ b) (g1 : b < 18446744073709551616) (hk : k < w.heap.size) (c : w.cell? ⟨k, 0, none⟩ = some (.int .u8 F)) (z : w.frozen? ⟨k, 0, none⟩ = false) :
    Calls Try.prog 45 #[.pointer (some ⟨k, 0, none⟩), .int .u64 a, .int .u64 b] w fun e w' => e = .returned (.int .u64 (mulS a b).1) ∧ ∃ w1, Below w.heap.size w w1 ∧ w' = w1.setCell ⟨k, 0, none⟩ (.int .u8 (bits .or .u8 F (mulS a b).2)) := by
  go_enter Try.func45, Try.ntmps45
  go_wp2_with fail
  refine (pMul _ _ _ h0 h1 g0 g1).mono ?_
  rintro e w1 ⟨rfl, hb1⟩
  have c1 := cell_later hb1 c
  have z1 := (hb1.frozen (p := ⟨k, 0, none⟩) hk).trans z
  go_wp2_with fail
  refine (cNote _ _ _ _ _ c1 z1).mono ?_
  rintro e w2 ⟨rfl, rfl⟩
  go_wp2
  go_ret
  exact ⟨ret_eq rfl, w1, hb1, rfl⟩
end Go.Proofs.Ytokgfeeaoioegaa
