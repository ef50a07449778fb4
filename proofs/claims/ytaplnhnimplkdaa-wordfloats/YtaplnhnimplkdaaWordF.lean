/-
  What package word's Float and Of return: the bits themselves, taken for a float64 and back; and when a float64 is equal to itself: where its pattern is no Nan. No conditions.
-/
import Derived.Test.YtaplnhnimplkdaaWordL
import Derived.WalkLawsBesides
namespace Go.Proofs.Ytaplnhnimplkdaa
open Go.ChangeShapes Go.WideShapes Go.ChangeAt Go.RowKit

theorem frombits_run (b : Int) (w : World) : (callFunc 55 #[.int .u64 b]).run Try.prog w = .ok (.value (.float .f64 b.toNat)) w :=
  run_callFunc_extern (e := Extern.MathFloatBits.float64frombits) Try.func55 (by kernel_rfl) (by kernel_rfl) (by kernel_rfl) (by kernel_rfl) _ w
theorem bits_run (b : Nat) (w : World) : (callFunc 56 #[.float .f64 b]).run Try.prog w = .ok (.value (.int .u64 b)) w :=
  run_callFunc_extern (e := Extern.MathFloatBits.float64bits) Try.func56 (by kernel_rfl) (by kernel_rfl) (by kernel_rfl) (by kernel_rfl) _ w
theorem float_any (b : Int) (w : World) :
    Calls Try.prog 31 #[.int .u64 b] w fun e w' => e = .returned (.float .f64 b.toNat) ∧ w' = w := by
  have hf := frombits_run b
  go_enter Try.func31, Try.ntmps31
  go_wp2
  go_ret
  exact ⟨rfl, rfl⟩
theorem float_nat (n : Nat) (w : World) :
    Calls Try.prog 31 #[.int .u64 (n : Int)] w fun e w' => e = .returned (.float .f64 n) ∧ w' = w := by
  have h := float_any (n : Int) w
  rwa [Int.toNat_natCast] at h
theorem of_any (b : Nat) (w : World) :
    Calls Try.prog 32 #[.float .f64 b] w fun e w' => e = .returned (.int .u64 b) ∧ w' = w := by
  have hf := bits_run b
  go_enter Try.func32, Try.ntmps32
  go_wp2
  go_ret
  exact ⟨rfl, rfl⟩
theorem order_self (d : Ieee.Datum) : d.order d = if d.isNaN then none else some .eq := by
  cases d with
  | number s m i => simp [Ieee.Datum.order, Ieee.Datum.isNaN]
  | infinity s => simp [Ieee.Datum.order, Ieee.Datum.isNaN]
  | nan s f => simp [Ieee.Datum.order, Ieee.Datum.isNaN]
theorem read_nan (b : Nat) : (FloatKind.f64.format.read b).isNaN = decide (9218868437227405312 < b % 9223372036854775808) := by
  show (Ieee.double.read b).isNaN = _
  unfold Ieee.Format.read
  simp only [show Ieee.double.signWeight = 9223372036854775808 from by decide +kernel, show Ieee.double.binade = 4503599627370496 from by decide +kernel, show Ieee.double.infRung = 9218868437227405312 from by decide +kernel]
  repeat' split
  all_goals simp only [Ieee.Datum.isNaN]
  all_goals (symm; first | (rw [decide_eq_true_eq]; omega) | (rw [decide_eq_false_iff_not]; omega))
theorem order_word (b : Nat) : FloatKind.f64.format.order b b = if 9218868437227405312 < b % 9223372036854775808 then none else some .eq := by
  unfold Ieee.Format.order
  rw [order_self, read_nan b]
  simp only [decide_eq_true_eq]
end Go.Proofs.Ytaplnhnimplkdaa
