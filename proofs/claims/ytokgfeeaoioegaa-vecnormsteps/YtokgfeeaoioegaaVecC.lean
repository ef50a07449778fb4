/-
  What vec's Dot, Asum, Scal, Axpy return, with any Calc: the values step by step, and all flags. Conditions: the lists lie beside the Calc.
-/
import Derived.Test.YtokgfeeaoioegaaCalcM
import Derived.Test.YtokgfeeaoioegaaAddC
import Derived.Deep.RegionHeld3
namespace Go.Proofs.Ytokgfeeaoioegaa
open Go.RowKit
set_option linter.unusedVariables false

theorem mulS_rng (a b : Int) : 0 ≤ (mulS a b).1 ∧ (mulS a b).1 < 18446744073709551616 := ⟨(mulS_bd a b).1, (mulS_bd a b).2.1⟩
set_option maxHeartbeats 1000000 in
theorem vDotBad (p a1 a2 : Value) (A1 A2 : Option Addr) (n1 n2 c1 c2 : Nat) (w : World) (h : (n1 : Int) ≠ (n2 : Int)) :
    Calls Try.prog 41 #[p, .slice A1 n1 c1, .slice A2 n2 c2] w fun e w' => e = .returned (.tuple #[.int .u64 9221120237041090560, .int .i64 4]) ∧ w' = w := by
  go_enter Try.func41, Try.ntmps41
  go_wp2
  go_ret2
  exact ⟨rfl, rfl⟩
set_option maxHeartbeats 1000000 in
theorem vDot (p : Value) (c : Option Nat) (F : Int) (a1 a2 : Option Addr) (n c1 c2 : Nat) (X Y : Nat → Int) (w : World) (hc : IsCalc w p c F) (hx : URow w a1 n c1 X) (hy : URow w a2 n c2 Y) (ax : Apt c a1 n) (ay : Apt c a2 n) :
    Calls Try.prog 41 #[p, .slice a1 n c1, .slice a2 n c2] w fun e w' => e = .returned (.tuple #[.int .u64 (dotV X Y n), .int .i64 0]) ∧ IsCalc w' p c (dotF F X Y n) ∧ Bes c w w' := by
  have HC : Hid (IsCalc w p c F) := hc
  have HX : Hid (URow w a1 n c1 X) := hx
  have HY : Hid (URow w a2 n c2 Y) := hy
  have AX : Hid (Apt c a1 n) := ax
  have AY : Hid (Apt c a2 n) := ay
  have hn : (n : Int) ≤ 9223372036854775807 := by have := hx.1; have := hx.2.1; unfold maxLen at this; omega
  clear hc hx hy ax ay
  go_enter Try.func41, Try.ntmps41
  go_wp2
  go_loopw [10, 24] (fun s i wr => ∃ k : Nat, s = .int .u64 (dotV X Y k) ∧ i = .int .i64 (k : Int) ∧ k ≤ n ∧ Hid (IsCalc wr p c (dotF F X Y k)) ∧ Hid (Bes c w wr)) (fun _ i _ => n - (intOf i).toNat)
  case atStart => exact ⟨0, rfl, rfl, Nat.zero_le _, HC, Bes.refl _ _⟩
  case round =>
    obtain ⟨k, rfl, rfl, hk, C, B⟩ := hrel
    by_cases hlt : (k : Int) < (n : Int)
    · obtain ⟨_, _, zx, fx⟩ := HX.out.bes B.out AX.out
      obtain ⟨_, _, zy, fy⟩ := HY.out.bes B.out AY.out
      obtain ⟨b1, o1, rfl, l1, e1⟩ := fx (by omega)
      obtain ⟨b2, o2, rfl, l2, e2⟩ := fy (by omega)
      have q1 := e1 k (by omega)
      have q2 := e2 k (by omega)
      obtain ⟨x0, x1⟩ := zx k
      obtain ⟨y0, y1⟩ := zy k
      obtain ⟨d0, d1⟩ := dotV_rng X Y k
      clear zx fx zy fy e1 e2
      have SV : Hid ((addS (dotV X Y k) (mulS (X k) (Y k)).1).1 = dotV X Y (k + 1)) := rfl
      have SF : Hid (bits .or .u8 (bits .or .u8 (dotF F X Y k) (mulS (X k) (Y k)).2) (addS (dotV X Y k) (mulS (X k) (Y k)).1).2 = dotF F X Y (k + 1)) := rfl
      obtain ⟨m0, m1⟩ := mulS_rng (X k) (Y k)
      obtain ⟨x, hx⟩ : ∃ x, X k = x := ⟨_, rfl⟩
      obtain ⟨y, hy⟩ : ∃ y, Y k = y := ⟨_, rfl⟩
      obtain ⟨d, hd⟩ : ∃ d, dotV X Y k = d := ⟨_, rfl⟩
      obtain ⟨F1, hF⟩ : ∃ d, dotF F X Y k = d := ⟨_, rfl⟩
      rw [hx] at q1 x0 x1 SV SF m0 m1
      rw [hy] at q2 y0 y1 SV SF m0 m1
      rw [hd] at d0 d1 SV SF ⊢
      rw [hF] at C SF
      obtain ⟨M, hM⟩ : ∃ M, mulS x y = M := ⟨_, rfl⟩
      rw [hM] at SV SF m0 m1
      have HM : Hid (_ = _) := hM
      clear hx hy hd hF hM
      obtain ⟨m, fm⟩ := M
      simp only at SV SF m0 m1
      go_wp2_with fail
      refine (uMul p c x y F1 _ C.out x0 x1 y0 y1).mono ?_
      rintro e w1 ⟨rfl, C1, B1⟩
      rw [HM.out] at C1 ⊢
      have HC1 : Hid (IsCalc _ _ _ _) := C1
      have HB1 : Hid (Bes _ _ _) := B.out.trans B1
      clear C1 B1 B C
      go_wp2_with fail
      refine (uAdd p c d m _ _ HC1.out d0 d1 m0 m1).mono ?_
      rintro e w2 ⟨rfl, C2, B2⟩
      rw [SV.out]
      rw [SF.out] at C2
      have HC2 : Hid (IsCalc _ _ _ _) := C2
      have HB2 : Hid (Bes _ _ _) := HB1.out.trans B2
      clear C2 B2 HB1 HC1
      go_wp2
      go_roundw
      case rel => exact ⟨k + 1, rfl, by go_num, by omega, HC2, HB2⟩
      case measure => simp [intOf]; omega
    · obtain rfl : k = n := by omega
      go_wp2
      go_ret2
      exact ⟨rfl, C.out, B.out⟩
end Go.Proofs.Ytokgfeeaoioegaa
