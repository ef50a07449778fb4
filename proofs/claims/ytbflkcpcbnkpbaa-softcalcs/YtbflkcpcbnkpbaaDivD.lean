/-
  What wide's Div returns.
-/
import Derived.Test.YtbflkcpcbnkpbaaDivC
import Derived.Test.YtbflkcpcbnkpbaaWideD
namespace Go.Proofs.Ytbflkcpcbnkpbaa
open Go.RowKit
set_option linter.unusedVariables false

theorem div64 (hi lo y Qt Rt : Int) (w : World) (h0 : 0 ≤ hi) (h1 : hi < y) (l0 : 0 ≤ lo) (l1 : lo < 18446744073709551616) (y1 : y < 18446744073709551616) (hQt : Qt = ((wid hi lo / y.toNat : Nat) : Int)) (hRt : Rt = ((wid hi lo % y.toNat : Nat) : Int)) :
    Calls Try.prog 89 #[.int .u64 hi, .int .u64 lo, .int .u64 y] w fun e w' => e = .returned (.tuple #[.int .u64 Qt, .int .u64 Rt]) ∧ Below w.heap.size w w' := by
  by_cases h : hi = 0
  · subst h
    obtain ⟨l, rfl⟩ := Int.eq_ofNat_of_zero_le l0
    obtain ⟨v, rfl⟩ := Int.eq_ofNat_of_zero_le (show 0 ≤ y by omega)
    have e : wid 0 (l : Int) = l := by unfold wid; simp
    rw [e, Int.toNat_natCast] at hQt hRt
    rw [hQt, hRt, Int.natCast_ediv, Int.natCast_emod]
    exact div64_zero _ _ w l0 l1 (by omega) y1
  · exact div64_more hi lo y Qt Rt w (by omega) h1 l0 l1 y1 hQt hRt

set_option maxHeartbeats 1000000 in
theorem wDiv_great (ah al b : Int) (w : World) (a0 : 0 ≤ ah) (a1 : ah < 18446744073709551616) (a2 : 0 ≤ al) (a3 : al < 18446744073709551616) (b0 : 0 ≤ b) (b1 : b < 18446744073709551616) (h : b ≤ ah) :
    Calls Try.prog 85 #[.agg #[.int .u64 ah, .int .u64 al], .int .u64 b] w fun e w' => e = .returned (.tuple #[.int .u64 0, .int .u64 0, .bool false]) ∧ Below w.heap.size w w' := by
  go_enter Try.func85, Try.ntmps85
  go_wp2_with fail
  go_ret3
  exact ⟨ret_eq rfl, (Below.refl _ _).alloc (Nat.le_refl _) _⟩
set_option maxHeartbeats 1000000 in
theorem wDiv (ah al b Qt Rt : Int) (w : World) (a0 : 0 ≤ ah) (a2 : 0 ≤ al) (a3 : al < 18446744073709551616) (b1 : b < 18446744073709551616) (h : ah < b) (hQt : Qt = ((wid ah al / b.toNat : Nat) : Int)) (hRt : Rt = ((wid ah al % b.toNat : Nat) : Int)) :
    Calls Try.prog 85 #[.agg #[.int .u64 ah, .int .u64 al], .int .u64 b] w fun e w' => e = .returned (.tuple #[.int .u64 Qt, .int .u64 Rt, .bool true]) ∧ Below w.heap.size w w' := by
  have HQt : Hid (_ = _) := hQt
  have HRt : Hid (_ = _) := hRt
  clear hQt hRt
  go_enter Try.func85, Try.ntmps85
  go_wp2_with fail
  refine (div64 _ _ _ _ _ _ a0 h a2 a3 b1 HQt.out HRt.out).mono ?_
  rintro e w1 ⟨rfl, hb1⟩
  have hb0 : Below w.heap.size w (w.alloc _) := (Below.refl _ _).alloc (Nat.le_refl _) (.cells #[.int .u64 ah, .int .u64 al] 24)
  have hb := hb0.trans (hb1.mono hb0.size)
  go_wp2
  go_ret3
  exact ⟨ret_eq rfl, hb⟩
end Go.Proofs.Ytbflkcpcbnkpbaa
