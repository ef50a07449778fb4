/-
  Texts put together: FlagM VecF VecG VecH.
-/
import Derived.Test.YtpakpgjbgehhjaaProg
import Derived.Test.YtpakpgjbgehhjaaGrI
import Derived.Deep.RegionHeld3
/-
  Flags put together: the order does not matter. Numbers below 256.
-/
namespace Go.Proofs.Ytpakpgjbgehhjaa
set_option linter.unusedVariables false

theorem or_u8 (a b : Nat) (ha : a < 256) (hb : b < 256) : bits .or .u8 (a : Int) (b : Int) = ((a ||| b : Nat) : Int) := by
  have hlt : a ||| b < 2 ^ 8 := Nat.or_lt_two_pow ha hb
  have key : (BitVec.ofInt 8 (a : Int) ||| BitVec.ofInt 8 (b : Int)).toNat = a ||| b := by
    rw [BitVec.toNat_or, BitVec.toNat_ofInt, BitVec.toNat_ofInt]
    rw [show ((a : Int) % ((2 ^ 8 : Nat) : Int)).toNat = a by omega, show ((b : Int) % ((2 ^ 8 : Nat) : Int)).toNat = b by omega]
  show IntKind.u8.wrap ((BitVec.ofInt 8 (a : Int) ||| BitVec.ofInt 8 (b : Int)).toNat : Nat) = _
  rw [key, IntKind.wrap_u8]
  omega
theorem or_left (a b c : Nat) : a ||| (b ||| c) = b ||| (a ||| c) := by rw [← Nat.or_assoc, Nat.or_comm a b, Nat.or_assoc]
theorem or_four (a b c d : Nat) : (a ||| b) ||| (c ||| d) = (a ||| c) ||| (b ||| d) := by rw [Nat.or_assoc, or_left b c d, ← Nat.or_assoc]
/-- All of the first n, put together. -/
def orN (f : Nat → Nat) : Nat → Nat
  | 0 => 0
  | k + 1 => orN f k ||| f k
theorem orN_lt (f : Nat → Nat) (hf : ∀ k, f k < 256) (n : Nat) : orN f n < 256 := by
  induction n with
  | zero => exact Nat.zero_lt_succ _
  | succ n ih => exact Nat.or_lt_two_pow (n := 8) ih (hf n)
theorem orN_or (f g : Nat → Nat) (n : Nat) : orN (fun k => f k ||| g k) n = orN f n ||| orN g n := by
  induction n with
  | zero => simp [orN]
  | succ n ih =>
    show orN (fun k => f k ||| g k) n ||| (f n ||| g n) = (orN f n ||| f n) ||| (orN g n ||| g n)
    rw [ih]
    exact or_four _ _ _ _
/-- What gets one flag more at each step, told as a whole. -/
theorem fold_is (G : Nat → Int) (f : Nat → Nat) (hf : ∀ k, f k < 256) (F : Nat) (hF : F < 256) (h0 : G 0 = (F : Int)) (hs : ∀ k, G (k + 1) = bits .or .u8 (G k) (f k : Int)) (n : Nat) : G n = ((F ||| orN f n : Nat) : Int) := by
  induction n with
  | zero => rw [h0]; show (F : Int) = ((F ||| 0 : Nat) : Int); rw [Nat.or_zero]
  | succ n ih =>
    rw [hs, ih, or_u8 _ _ (Nat.or_lt_two_pow (n := 8) hF (orN_lt f hf n)) (hf n), Nat.or_assoc]
    rfl
/-- Two flags, one behind the other, are one. -/
theorem or_two (A : Nat) (p q : Nat) (hA : A < 256) (hp : p < 256) (hq : q < 256) : bits .or .u8 (bits .or .u8 (A : Int) (p : Int)) (q : Int) = bits .or .u8 (A : Int) ((p ||| q : Nat) : Int) := by
  rw [or_u8 A p hA hp, or_u8 _ q (Nat.or_lt_two_pow (n := 8) hA hp) hq, or_u8 A _ hA (Nat.or_lt_two_pow (n := 8) hp hq), Nat.or_assoc]
end Go.Proofs.Ytpakpgjbgehhjaa

/-
  What vec's Axpy returns, with any Calc: the sums, one behind the other, and all flags. Conditions: the lists lie beside the Calc; at most a million numbers.
-/
namespace Go.Proofs.Ytpakpgjbgehhjaa
open Go.RowKit
set_option linter.unusedVariables false

def axpV (a : Int) (X Y : Nat → Int) : Nat → Int := fun i => (addS (mulS a (X i)).1 (Y i)).1
def axpF (F a : Int) (X Y : Nat → Int) : Nat → Int
  | 0 => F
  | k + 1 => bits .or .u8 (bits .or .u8 (axpF F a X Y k) (mulS a (X k)).2) (addS (mulS a (X k)).1 (Y k)).2
theorem IsCalc.drew {w : World} {p : Value} {c : Option Nat} {F : Int} (h : IsCalc w p c F) : IsCalc w.drew p c F := h.later ((Below.refl _ _).drew)
end Go.Proofs.Ytpakpgjbgehhjaa

/-
  What vec's Rot returns, with any Calc: sums and differences, and all flags. Conditions: the lists lie beside the Calc; at most a million numbers.
-/
namespace Go.Proofs.Ytpakpgjbgehhjaa
open Go.RowKit
set_option linter.unusedVariables false

theorem bes_put (w : World) (g i : Nat) (u : Value) : Bes (some g) w (w.setCell ⟨g, i, none⟩ u) := (Bes.refl _ w).set (p := ⟨g, i, none⟩) (.inr rfl) u
theorem ne_sm {g b : Nat} (h : g ≠ b) : (some g : Option Nat) ≠ some b := fun e => h (Option.some.inj e)
def rotV (c s : Int) (X Y : Nat → Int) : Nat → Int := fun i => (addS (mulS c (X i)).1 (mulS s (Y i)).1).1
def rotW (c s : Int) (X Y : Nat → Int) : Nat → Int := fun i => (addS (mulS c (Y i)).1 (wFlip (mulS s (X i)).1)).1
def rotF (F c s : Int) (X Y : Nat → Int) : Nat → Int
  | 0 => F
  | k + 1 => bits .or .u8 (bits .or .u8 (bits .or .u8 (bits .or .u8 (bits .or .u8 (bits .or .u8 (rotF F c s X Y k) (mulS c (X k)).2) (mulS s (Y k)).2) (addS (mulS c (X k)).1 (mulS s (Y k)).1).2) (mulS c (Y k)).2) (mulS s (X k)).2) (addS (mulS c (Y k)).1 (wFlip (mulS s (X k)).1)).2
end Go.Proofs.Ytpakpgjbgehhjaa

/-
  The flags of sums and products in another order are the same. Conditions: numbers of 64 bits.
-/
namespace Go.Proofs.Ytpakpgjbgehhjaa
open Go.RowKit
set_option linter.unusedVariables false

def orC (A : Int) (ps : List Nat) : Int := List.foldl (fun (x : Int) (p : Nat) => bits .or .u8 x (p : Int)) A ps
def orL : List Nat → Nat
  | [] => 0
  | p :: ps => p ||| orL ps
theorem orL_lt (ps : List Nat) (h : ∀ p ∈ ps, p < 256) : orL ps < 256 := by
  induction ps with
  | nil => exact Nat.zero_lt_succ _
  | cons p ps ih => exact Nat.or_lt_two_pow (n := 8) (h p List.mem_cons_self) (ih (fun q hq => h q (List.mem_cons_of_mem _ hq)))
theorem orC_nat (ps : List Nat) : ∀ (A : Nat), A < 256 → (∀ p ∈ ps, p < 256) → orC (A : Int) ps = ((A ||| orL ps : Nat) : Int) := by
  induction ps with
  | nil => intro A _ _; show (A : Int) = ((A ||| 0 : Nat) : Int); rw [Nat.or_zero]
  | cons p ps ih =>
    intro A hA h
    have hp := h p List.mem_cons_self
    show orC (bits .or .u8 (A : Int) (p : Int)) ps = _
    rw [or_u8 A p hA hp, ih _ (Nat.or_lt_two_pow (n := 8) hA hp) (fun q hq => h q (List.mem_cons_of_mem _ hq))]
    show ((A ||| p ||| orL ps : Nat) : Int) = ((A ||| (p ||| orL ps) : Nat) : Int)
    rw [Nat.or_assoc]
theorem foldC (G : Nat → Int) (ps : Nat → List Nat) (hp : ∀ k, ∀ p ∈ ps k, p < 256) (F : Nat) (hF : F < 256) (h0 : G 0 = (F : Int)) (hs : ∀ k, G (k + 1) = orC (G k) (ps k)) (n : Nat) : G n = ((F ||| orN (fun k => orL (ps k)) n : Nat) : Int) := by
  induction n with
  | zero => rw [h0]; show (F : Int) = ((F ||| 0 : Nat) : Int); rw [Nat.or_zero]
  | succ n ih =>
    rw [hs, ih, orC_nat _ _ (Nat.or_lt_two_pow (n := 8) hF (orN_lt _ (fun k => orL_lt _ (hp k)) n)) (hp n), Nat.or_assoc]
    rfl
def mf (a b : Int) : Nat := (mulS a b).2.toNat
def af (a b : Int) : Nat := (addS a b).2.toNat
theorem mf_eq (a b : Int) : (mulS a b).2 = (mf a b : Int) := by have := mulS_bd a b; unfold mf; omega
theorem mf_lt (a b : Int) : mf a b < 256 := by have := mulS_bd a b; unfold mf; omega
theorem af_eq (a b : Int) (h0 : 0 ≤ a) (h1 : a < 18446744073709551616) (g0 : 0 ≤ b) (g1 : b < 18446744073709551616) : (addS a b).2 = (af a b : Int) := by have := addS_bd a b h0 h1 g0 g1; unfold af; omega
theorem af_lt (a b : Int) (h0 : 0 ≤ a) (h1 : a < 18446744073709551616) (g0 : 0 ≤ b) (g1 : b < 18446744073709551616) : af a b < 256 := by have := addS_bd a b h0 h1 g0 g1; unfold af; omega
/-- The flags of one round of the law: a sum; a turn's sum and difference. -/
def stpF (F a s : Int) (X Y : Nat → Int) : Nat → Int
  | 0 => F
  | k + 1 => bits .or .u8 (bits .or .u8 (bits .or .u8 (bits .or .u8 (bits .or .u8 (bits .or .u8 (bits .or .u8 (bits .or .u8 (stpF F a s X Y k) (mulS a (X k)).2) (addS (mulS a (X k)).1 (Y k)).2) (mulS a (X k)).2) (mulS s (Y k)).2) (addS (mulS a (X k)).1 (mulS s (Y k)).1).2) (mulS a (Y k)).2) (mulS s (X k)).2) (addS (mulS a (Y k)).1 (wFlip (mulS s (X k)).1)).2
def mixF (F a : Int) (X : Nat → Int) : Nat → Int
  | 0 => F
  | k + 1 => bits .or .u8 (bits .or .u8 (mixF F a X k) (mulS a (X k)).2) (addS (asuV X k) (X k % 9223372036854775808)).2
theorem flags_same (a s : Int) (X Y : Nat → Int) (n : Nat) (hX : ∀ i, 0 ≤ X i ∧ X i < 18446744073709551616) (hY : ∀ i, 0 ≤ Y i ∧ Y i < 18446744073709551616) :
    asuF (sclF (rotF (axpF (dotF 0 X Y n) a X Y n) a s X Y n) a X n) X n = mixF (stpF (dotF 0 X Y n) a s X Y n) a X n := by
  obtain ⟨D, hD, hD2⟩ : ∃ D : Nat, dotF 0 X Y n = (D : Int) ∧ D < 256 := ⟨(dotF 0 X Y n).toNat, by have := dotF_rng 0 X Y (by decide) (by decide) n; omega, by have := dotF_rng 0 X Y (by decide) (by decide) n; omega⟩
  rw [hD]
  have q1 : ∀ k, 0 ≤ (mulS a (X k)).1 ∧ (mulS a (X k)).1 < 18446744073709551616 := fun k => mulS_rng _ _
  have q2 : ∀ k, 0 ≤ (mulS s (Y k)).1 ∧ (mulS s (Y k)).1 < 18446744073709551616 := fun k => mulS_rng _ _
  have q3 : ∀ k, 0 ≤ (mulS a (Y k)).1 ∧ (mulS a (Y k)).1 < 18446744073709551616 := fun k => mulS_rng _ _
  have q4 : ∀ k, 0 ≤ wFlip (mulS s (X k)).1 ∧ wFlip (mulS s (X k)).1 < 18446744073709551616 := fun k => wFlip_bd _
  have q5 : ∀ k, 0 ≤ X k % 9223372036854775808 ∧ X k % 9223372036854775808 < 18446744073709551616 := fun k => by omega
  have e1 : ∀ k, (addS (mulS a (X k)).1 (Y k)).2 = (af (mulS a (X k)).1 (Y k) : Int) := fun k => af_eq _ _ (q1 k).1 (q1 k).2 (hY k).1 (hY k).2
  have e2 : ∀ k, (addS (mulS a (X k)).1 (mulS s (Y k)).1).2 = (af (mulS a (X k)).1 (mulS s (Y k)).1 : Int) := fun k => af_eq _ _ (q1 k).1 (q1 k).2 (q2 k).1 (q2 k).2
  have e3 : ∀ k, (addS (mulS a (Y k)).1 (wFlip (mulS s (X k)).1)).2 = (af (mulS a (Y k)).1 (wFlip (mulS s (X k)).1) : Int) := fun k => af_eq _ _ (q3 k).1 (q3 k).2 (q4 k).1 (q4 k).2
  have e4 : ∀ k, (addS (asuV X k) (X k % 9223372036854775808)).2 = (af (asuV X k) (X k % 9223372036854775808) : Int) := fun k => af_eq _ _ (asuV_rng X k).1 (asuV_rng X k).2 (q5 k).1 (q5 k).2
  have l1 : ∀ k, af (mulS a (X k)).1 (Y k) < 256 := fun k => af_lt _ _ (q1 k).1 (q1 k).2 (hY k).1 (hY k).2
  have l2 : ∀ k, af (mulS a (X k)).1 (mulS s (Y k)).1 < 256 := fun k => af_lt _ _ (q1 k).1 (q1 k).2 (q2 k).1 (q2 k).2
  have l3 : ∀ k, af (mulS a (Y k)).1 (wFlip (mulS s (X k)).1) < 256 := fun k => af_lt _ _ (q3 k).1 (q3 k).2 (q4 k).1 (q4 k).2
  have l4 : ∀ k, af (asuV X k) (X k % 9223372036854775808) < 256 := fun k => af_lt _ _ (asuV_rng X k).1 (asuV_rng X k).2 (q5 k).1 (q5 k).2
  have mem : ∀ (p : Nat) (l : List Nat), (∀ q ∈ l, q < 256) → p < 256 → ∀ q ∈ p :: l, q < 256 := fun p l h hp q hq => by
    rcases List.mem_cons.1 hq with rfl | h2
    · exact hp
    · exact h q h2
  have nil : ∀ q ∈ ([] : List Nat), q < 256 := fun q hq => by cases hq
  -- each, as one
  have A := foldC (axpF (D : Int) a X Y) (fun k => [mf a (X k), af (mulS a (X k)).1 (Y k)]) (fun k => mem _ _ (mem _ _ nil (l1 k)) (mf_lt _ _)) D hD2 rfl (fun k => by
    show bits .or .u8 (bits .or .u8 _ (mulS a (X k)).2) (addS (mulS a (X k)).1 (Y k)).2 = bits .or .u8 (bits .or .u8 _ (mf a (X k) : Int)) (af (mulS a (X k)).1 (Y k) : Int)
    rw [mf_eq, e1]) n
  generalize hA : orN (fun k => orL [mf a (X k), af (mulS a (X k)).1 (Y k)]) n = NA at A
  have hAl : D ||| NA < 256 := by rw [← hA]; exact Nat.or_lt_two_pow (n := 8) hD2 (orN_lt _ (fun k => orL_lt _ (mem _ _ (mem _ _ nil (l1 k)) (mf_lt _ _))) n)
  rw [A]
  have mR : ∀ k, ∀ q ∈ [mf a (X k), mf s (Y k), af (mulS a (X k)).1 (mulS s (Y k)).1, mf a (Y k), mf s (X k), af (mulS a (Y k)).1 (wFlip (mulS s (X k)).1)], q < 256 := fun k => mem _ _ (mem _ _ (mem _ _ (mem _ _ (mem _ _ (mem _ _ nil (l3 k)) (mf_lt _ _)) (mf_lt _ _)) (l2 k)) (mf_lt _ _)) (mf_lt _ _)
  have Rr := foldC (rotF ((D ||| NA : Nat) : Int) a s X Y) _ mR (D ||| NA) hAl rfl (fun k => by
    show bits .or .u8 (bits .or .u8 (bits .or .u8 (bits .or .u8 (bits .or .u8 (bits .or .u8 _ (mulS a (X k)).2) (mulS s (Y k)).2) (addS (mulS a (X k)).1 (mulS s (Y k)).1).2) (mulS a (Y k)).2) (mulS s (X k)).2) (addS (mulS a (Y k)).1 (wFlip (mulS s (X k)).1)).2 = bits .or .u8 (bits .or .u8 (bits .or .u8 (bits .or .u8 (bits .or .u8 (bits .or .u8 _ (mf a (X k) : Int)) (mf s (Y k) : Int)) (af (mulS a (X k)).1 (mulS s (Y k)).1 : Int)) (mf a (Y k) : Int)) (mf s (X k) : Int)) (af (mulS a (Y k)).1 (wFlip (mulS s (X k)).1) : Int)
    rw [mf_eq, mf_eq, mf_eq, mf_eq, e2, e3]) n
  generalize hR : orN (fun k => orL [mf a (X k), mf s (Y k), af (mulS a (X k)).1 (mulS s (Y k)).1, mf a (Y k), mf s (X k), af (mulS a (Y k)).1 (wFlip (mulS s (X k)).1)]) n = NR at Rr
  have hRl : D ||| NA ||| NR < 256 := by rw [← hR]; exact Nat.or_lt_two_pow (n := 8) hAl (orN_lt _ (fun k => orL_lt _ (mR k)) n)
  rw [Rr]
  have mS : ∀ k, ∀ q ∈ [mf a (X k)], q < 256 := fun k => mem _ _ nil (mf_lt _ _)
  have Sc := foldC (sclF ((D ||| NA ||| NR : Nat) : Int) a X) _ mS (D ||| NA ||| NR) hRl rfl (fun k => by
    show bits .or .u8 _ (mulS a (X k)).2 = bits .or .u8 _ (mf a (X k) : Int)
    rw [mf_eq]) n
  generalize hS : orN (fun k => orL [mf a (X k)]) n = NS at Sc
  have hSl : D ||| NA ||| NR ||| NS < 256 := by rw [← hS]; exact Nat.or_lt_two_pow (n := 8) hRl (orN_lt _ (fun k => orL_lt _ (mS k)) n)
  rw [Sc]
  have mU : ∀ k, ∀ q ∈ [af (asuV X k) (X k % 9223372036854775808)], q < 256 := fun k => mem _ _ nil (l4 k)
  have Us := foldC (asuF ((D ||| NA ||| NR ||| NS : Nat) : Int) X) _ mU (D ||| NA ||| NR ||| NS) hSl rfl (fun k => by
    show bits .or .u8 _ (addS (asuV X k) (X k % 9223372036854775808)).2 = bits .or .u8 _ (af (asuV X k) (X k % 9223372036854775808) : Int)
    rw [e4]) n
  generalize hU : orN (fun k => orL [af (asuV X k) (X k % 9223372036854775808)]) n = NU at Us
  rw [Us]
  have mT : ∀ k, ∀ q ∈ [mf a (X k), af (mulS a (X k)).1 (Y k), mf a (X k), mf s (Y k), af (mulS a (X k)).1 (mulS s (Y k)).1, mf a (Y k), mf s (X k), af (mulS a (Y k)).1 (wFlip (mulS s (X k)).1)], q < 256 := fun k => mem _ _ (mem _ _ (mR k) (l1 k)) (mf_lt _ _)
  have St := foldC (stpF (D : Int) a s X Y) _ mT D hD2 rfl (fun k => by
    show bits .or .u8 (bits .or .u8 (bits .or .u8 (bits .or .u8 (bits .or .u8 (bits .or .u8 (bits .or .u8 (bits .or .u8 _ (mulS a (X k)).2) (addS (mulS a (X k)).1 (Y k)).2) (mulS a (X k)).2) (mulS s (Y k)).2) (addS (mulS a (X k)).1 (mulS s (Y k)).1).2) (mulS a (Y k)).2) (mulS s (X k)).2) (addS (mulS a (Y k)).1 (wFlip (mulS s (X k)).1)).2 = bits .or .u8 (bits .or .u8 (bits .or .u8 (bits .or .u8 (bits .or .u8 (bits .or .u8 (bits .or .u8 (bits .or .u8 _ (mf a (X k) : Int)) (af (mulS a (X k)).1 (Y k) : Int)) (mf a (X k) : Int)) (mf s (Y k) : Int)) (af (mulS a (X k)).1 (mulS s (Y k)).1 : Int)) (mf a (Y k) : Int)) (mf s (X k) : Int)) (af (mulS a (Y k)).1 (wFlip (mulS s (X k)).1) : Int)
    rw [mf_eq, mf_eq, mf_eq, mf_eq, e1, e2, e3]) n
  have hT : orN (fun k => orL [mf a (X k), af (mulS a (X k)).1 (Y k), mf a (X k), mf s (Y k), af (mulS a (X k)).1 (mulS s (Y k)).1, mf a (Y k), mf s (X k), af (mulS a (Y k)).1 (wFlip (mulS s (X k)).1)]) n = NA ||| NR := by
    rw [← hA, ← hR, ← orN_or]
    congr 1
    funext k
    simp only [orL, Nat.or_zero, Nat.or_assoc]
  rw [hT] at St
  have hTl : D ||| (NA ||| NR) < 256 := by rw [← Nat.or_assoc]; exact hRl
  rw [St]
  have mM : ∀ k, ∀ q ∈ [mf a (X k), af (asuV X k) (X k % 9223372036854775808)], q < 256 := fun k => mem _ _ (mU k) (mf_lt _ _)
  have Mx := foldC (mixF ((D ||| (NA ||| NR) : Nat) : Int) a X) _ mM (D ||| (NA ||| NR)) hTl rfl (fun k => by
    show bits .or .u8 (bits .or .u8 _ (mulS a (X k)).2) (addS (asuV X k) (X k % 9223372036854775808)).2 = bits .or .u8 (bits .or .u8 _ (mf a (X k) : Int)) (af (asuV X k) (X k % 9223372036854775808) : Int)
    rw [mf_eq, e4]) n
  have hM : orN (fun k => orL [mf a (X k), af (asuV X k) (X k % 9223372036854775808)]) n = NS ||| NU := by
    rw [← hS, ← hU, ← orN_or]
    congr 1
    funext k
    simp only [orL, Nat.or_zero]
  rw [hM] at Mx
  rw [Mx]
  simp only [Nat.or_assoc]
/-- A region's condition may become stronger on the way. -/
theorem wpAnyH_strong {P : Program} {ops : Array Oper} {Q : Exit → Act → World → Prop} {md : Region.Mode} {S S' : World → Prop} (hSS : ∀ w, S' w → S w) : ∀ (fuel : Nat) (listed : Array Bool) (a : Act) (w : World), wpAnyH P md ops Q S' fuel listed a w → wpAnyH P md ops Q S fuel listed a w
  | 0, _, _, _, h => h
  | fuel + 1, _, _, _, h => ⟨h.1, fun i hi => wpOp_mono (fun a' w' h' => ⟨hSS _ h'.1, wpAnyH_strong hSS fuel _ a' w' h'.2⟩) (h.2 i hi)⟩
end Go.Proofs.Ytpakpgjbgehhjaa
