/-
  Texts put together: MulM.
-/
import Derived.Test.YtpakpgjbgehhjaaProg
import Derived.Test.YtpakpgjbgehhjaaGrT
import Derived.Test.YtpakpgjbgehhjaaGrM
/-
  Of products without Over, Under and Invalid none of their dots has any. No conditions.
-/
namespace Go.Proofs.Ytpakpgjbgehhjaa
open Go.RowKit
set_option linter.unusedVariables false

theorem dotF_is (F : Nat) (hF : F < 256) (X Y : Nat → Int) (n : Nat) : dotF (F : Int) X Y n = ((F ||| orN (fun k => orL [mf (X k) (Y k), af (dotV X Y k) (mulS (X k) (Y k)).1]) n : Nat) : Int) := by
  have hd := fun k => dotV_rng X Y k
  have hm := fun k => mulS_rng (X k) (Y k)
  refine foldC (fun k => dotF (F : Int) X Y k) (fun k => [mf (X k) (Y k), af (dotV X Y k) (mulS (X k) (Y k)).1]) (fun k p hp => ?_) F hF rfl (fun k => ?_) n
  · simp only [List.mem_cons, List.not_mem_nil, or_false] at hp
    rcases hp with rfl | rfl
    · exact mf_lt _ _
    · exact af_lt _ _ (hd k).1 (hd k).2 (hm k).1 (hm k).2
  · show bits .or .u8 (bits .or .u8 (dotF (F : Int) X Y k) (mulS (X k) (Y k)).2) (addS (dotV X Y k) (mulS (X k) (Y k)).1).2 = _
    rw [mf_eq, af_eq _ _ (hd k).1 (hd k).2 (hm k).1 (hm k).2]
    rfl
theorem and22_all : ∀ a b : Fin 32, bits .and .u8 ((a.1 ||| b.1 : Nat) : Int) 22 = 0 → bits .and .u8 ((a.1 : Nat) : Int) 22 = 0 ∧ bits .and .u8 ((b.1 : Nat) : Int) 22 = 0 := by decide +kernel
theorem mask_dot (F : Int) (h0 : 0 ≤ F) (h1 : F ≤ 31) (X Y : Nat → Int) (n : Nat) (h : bits .and .u8 (dotF F X Y n) 22 = 0) : bits .and .u8 F 22 = 0 ∧ bits .and .u8 (dotF 0 X Y n) 22 = 0 := by
  obtain ⟨f, rfl⟩ : ∃ f : Nat, F = (f : Int) := ⟨F.toNat, by omega⟩
  have e := dotF_is f (by omega) X Y n
  have e0 := dotF_is 0 (by decide) X Y n
  rw [Nat.zero_or] at e0
  have r0 := dotF_rng 0 X Y (by decide) (by decide) n
  generalize orN (fun k => orL [mf (X k) (Y k), af (dotV X Y k) (mulS (X k) (Y k)).1]) n = q at e e0
  rw [e] at h
  rw [show dotF 0 X Y n = (q : Int) from e0] at r0 ⊢
  exact and22_all ⟨f, by omega⟩ ⟨q, by omega⟩ h
theorem mmR_rng (F : Int) (h0 : 0 ≤ F) (h1 : F ≤ 31) (X : Nat → Int) (Y : Nat → Nat → Int) (C n : Nat) : 0 ≤ mmR F X Y C n ∧ mmR F X Y C n ≤ 31 := by
  induction n with
  | zero => exact ⟨h0, h1⟩
  | succ k ih => exact dotF_rng _ X (Y k) ih.1 ih.2 C
theorem mmF_rng (F : Int) (h0 : 0 ≤ F) (h1 : F ≤ 31) (Z Y : Nat → Nat → Int) (C D n : Nat) : 0 ≤ mmF F Z Y C D n ∧ mmF F Z Y C D n ≤ 31 := by
  induction n with
  | zero => exact ⟨h0, h1⟩
  | succ k ih => exact mmR_rng _ ih.1 ih.2 (Z k) Y C D
theorem mask_mmR (F : Int) (h0 : 0 ≤ F) (h1 : F ≤ 31) (X : Nat → Int) (Y : Nat → Nat → Int) (C n : Nat) (h : bits .and .u8 (mmR F X Y C n) 22 = 0) : bits .and .u8 F 22 = 0 ∧ ∀ k, k < n → bits .and .u8 (dotF 0 X (Y k) C) 22 = 0 := by
  induction n with
  | zero => exact ⟨h, fun k hk => absurd hk (Nat.not_lt_zero k)⟩
  | succ m ih =>
    have r := mmR_rng F h0 h1 X Y C m
    obtain ⟨a, b⟩ := mask_dot _ r.1 r.2 X (Y m) C h
    obtain ⟨c, d⟩ := ih a
    refine ⟨c, fun k hk => ?_⟩
    rcases Nat.lt_or_ge k m with g | g
    · exact d k g
    · rw [show k = m by omega]; exact b
theorem mask_mmF (F : Int) (h0 : 0 ≤ F) (h1 : F ≤ 31) (Z Y : Nat → Nat → Int) (C D n : Nat) (h : bits .and .u8 (mmF F Z Y C D n) 22 = 0) : ∀ i k, i < n → k < D → bits .and .u8 (dotF 0 (Z i) (Y k) C) 22 = 0 := by
  induction n with
  | zero => exact fun i k hi => absurd hi (Nat.not_lt_zero i)
  | succ m ih =>
    have r := mmF_rng F h0 h1 Z Y C D m
    obtain ⟨a, b⟩ := mask_mmR _ r.1 r.2 (Z m) Y C D h
    intro i k hi hk
    rcases Nat.lt_or_ge i m with g | g
    · exact ih a i k g hk
    · rw [show i = m by omega]; exact b k hk
end Go.Proofs.Ytpakpgjbgehhjaa
