/-
  Texts put together: MatV.
-/
import Derived.Test.YtpakpgjbgehhjaaProg
import Derived.Test.YtpakpgjbgehhjaaGrQ
import Derived.Test.YtpakpgjbgehhjaaGrP
/-
  The greatest number of a matrix, exactly, and the power of two beneath it. Conditions: all are finite.
-/
namespace Go.Proofs.Ytpakpgjbgehhjaa
open Go.RowKit
set_option linter.unusedVariables false

theorem mFinNo (R C S : Nat) (a : Option Addr) (len cap : Nat) (Z : Nat → Int) (w : World) (h : Rgt (R : Int) (C : Int) (S : Int) len) (hx : URow w a len cap Z) (hf : ¬ AllF Z R C S) :
    Calls Try.prog 22 #[.agg #[.int .i64 (R : Int), .int .i64 (C : Int), .int .i64 (S : Int), .slice a len cap]] w fun e w' => e = .returned (.bool false) ∧ Below w.heap.size w w' := by
  refine (mFin R C S a len cap Z w h hx).mono ?_
  rintro e w' ⟨⟨_, hN⟩ | ⟨rfl, _⟩, hb⟩
  · exact absurd hN hf
  · exact ⟨rfl, hb⟩
theorem upw_zero : upw 0 = 0 := by decide +kernel
theorem upw_V (B : Int) (hf : mag B < 9218868437227405312) (h0 : 0 < V (mag B)) : 2 ^ (upw B + 1074).toNat ≤ V (mag B) ∧ V (mag B) < 2 ^ (upw B + 1075).toNat := by
  obtain ⟨p1, p2, p3, p4⟩ := parts_bd B
  have hV := parts_V B hf
  have hm : 0 < (wMant B).toNat := by
    rcases Nat.eq_zero_or_pos (wMant B).toNat with e | e
    · rw [e, Nat.zero_mul] at hV
      omega
    · exact e
  obtain ⟨b1, b2, b3⟩ := bl_span (wMant B).toNat hm
  obtain ⟨p, hp⟩ : ∃ p, (wPow B + 1074).toNat = p := ⟨_, rfl⟩
  have hu : upw B = wPow B + ((bl (wMant B).toNat).length : Int) - 1 := by unfold upw; rw [if_neg (by omega)]
  rw [hp] at hV
  rw [hV, show (upw B + 1074).toNat = (bl (wMant B).toNat).length - 1 + p by omega, show (upw B + 1075).toNat = (bl (wMant B).toNat).length + p by omega, Nat.pow_add, Nat.pow_add]
  exact ⟨Nat.mul_le_mul_right _ b2, Nat.mul_lt_mul_of_pos_right b3 (Nat.two_pow_pos p)⟩
theorem V_le (p q : Nat) (h : p ≤ q) : V p ≤ V q := by
  rcases Nat.lt_or_ge p q with g | g
  · exact Nat.le_of_lt (V_lt p q g)
  · rw [show p = q by omega]
    exact Nat.le_refl _
theorem V_nil : V 0 = 0 := by decide +kernel
theorem most_unit {Z : Nat → Int} {R C S : Nat} {B : Int} (hf : AllF Z R C S) (hG : GrM Z C S R 0 B) :
    (B = 0 ∧ mxv (flat Z C S) (R * C) = 0) ∨ (B ≠ 0 ∧ ((2 ^ (upw B + 64 * 17).toNat : Nat) : Int) ≤ mxv (flat Z C S) (R * C) ∧ mxv (flat Z C S) (R * C) < ((2 ^ (upw B + 1 + 64 * 17).toNat : Nat) : Int)) := by
  obtain ⟨g0, g1, g2, g3⟩ := hG
  have at_ : ∀ t, t < R * C → t / C < R ∧ t % C < C := fun t ht => by
    have hC : 0 < C := by
      rcases Nat.eq_zero_or_pos C with e | e
      · rw [e, Nat.mul_zero] at ht
        omega
      · exact e
    exact ⟨Nat.div_lt_of_lt_mul (by rw [Nat.mul_comm]; exact ht), Nat.mod_lt _ hC⟩
  have fin : ∀ t, t < R * C → mag (flat Z C S t) < 9218868437227405312 := fun t ht => hf _ _ (at_ t ht).1 (at_ t ht).2
  have le : ∀ t, t < R * C → mag (flat Z C S t) ≤ B.toNat := fun t ht => by
    have := g2 (t / C) (t % C) (.inl (at_ t ht))
    show (Z (t / C * S + t % C) % 9223372036854775808).toNat ≤ B.toNat
    omega
  by_cases hB : B = 0
  · refine .inl ⟨hB, mxv_zero (fun t ht => ?_)⟩
    have := le t ht
    rw [hB] at this
    exact Nat.le_zero.1 this
  · obtain ⟨i, k, hik, e⟩ := g3.resolve_left hB
    have hi : i < R ∧ k < C := by omega
    have ht : i * C + k < R * C := row_lt C i k R hi.1 hi.2
    have hm : mag (flat Z C S (i * C + k)) = B.toNat := by
      rw [flat_at _ _ _ _ _ hi.2]
      unfold mag
      omega
    have hmB : mag B = B.toNat := by unfold mag; omega
    have hfB : mag B < 9218868437227405312 := by rw [hmB, ← hm]; exact fin _ ht
    have hV0 : 0 < V (mag B) := by
      have := V_lt 0 (mag B) (by rw [hmB]; omega)
      omega
    obtain ⟨u1, u2⟩ := upw_V B hfB hV0
    have b := upw_bd B
    refine .inr ⟨hB, ?_⟩
    exact mxv_pow ⟨b.1, b.2, fun t ht => Nat.lt_of_le_of_lt (by rw [hmB]; exact V_le _ _ (le t ht)) u2, i * C + k, ht, by rw [hm, ← hmB]; exact u1⟩ fin
end Go.Proofs.Ytpakpgjbgehhjaa
