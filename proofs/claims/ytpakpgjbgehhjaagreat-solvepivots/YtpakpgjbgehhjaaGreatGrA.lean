/-
  Texts put together: Hlp Bst BitM RoundM RoundV RoundS RoundR WordM PartM SoftM RndM LawM MoreM RootM.
-/
import Derived.Test.YtpakpgjbgehhjaaGreatProg
import Derived.WalkKit
import Derived.ProofKit
import Derived.Laws.BitsAllLaws
import Derived.Laws.Bits128
/-
  Small equations between endings and values. No conditions.
-/
namespace Go.Proofs.YtpakpgjbgehhjaaGreat
open Go.ChangeShapes Go.WideShapes Go.ChangeAt Go.RowKit

theorem ret_eq {u v : Value} (h : u = v) : Ending.returned u = Ending.returned v := by rw [h]
theorem int_eq {k : IntKind} {a b : Int} (h : a = b) : Value.int k a = Value.int k b := by rw [h]
theorem bool_eq {a b : Bool} (h : a = b) : Value.bool a = Value.bool b := by rw [h]
theorem tup2 {a b c d : Value} (h : a = c) (g : b = d) : Value.tuple #[a, b] = Value.tuple #[c, d] := by rw [h, g]
end Go.Proofs.YtpakpgjbgehhjaaGreat

/-
  Chains of worlds. No conditions.
-/
namespace Go.Proofs.YtpakpgjbgehhjaaGreat
open Go.RowKit
theorem bstep {w w1 w2 : World} (h : Below w.heap.size w w1) (g : Below w1.heap.size w1 w2) : Below w.heap.size w w2 := h.trans (g.mono h.size)
theorem bmore {w w1 : World} (h : Below w.heap.size w w1) (o : Obj) : Below w.heap.size w (w1.alloc o) := h.alloc h.size o
end Go.Proofs.YtpakpgjbgehhjaaGreat

/-
  Whole numbers as lists of bits, the lowest first (plain mathematics, no program in sight): the value of a list, the list of a number without noughts at its end, and that a list of bits without noughts at its end is the list of its value. No conditions.
-/
namespace Go.Proofs.YtpakpgjbgehhjaaGreat

/-- The value of a list of bits, the lowest first. -/
def val : List Int → Nat
  | [] => 0
  | x :: xs => x.toNat + 2 * val xs
/-- Each is 0 or 1. -/
def Bin (xs : List Int) : Prop := ∀ x ∈ xs, x = 0 ∨ x = 1
/-- The list of a number, without noughts at its end. -/
def bl (n : Nat) : List Int := if h : n = 0 then [] else ((n % 2 : Nat) : Int) :: bl (n / 2)

theorem bl_zero : bl 0 = [] := by rw [bl]; simp
theorem bl_pos (n : Nat) (h : n ≠ 0) : bl n = ((n % 2 : Nat) : Int) :: bl (n / 2) := by rw [bl]; simp [h]
theorem Bin.cons {x : Int} {xs : List Int} (h : Bin (x :: xs)) : (x = 0 ∨ x = 1) ∧ Bin xs := ⟨h x (by simp), fun y hy => h y (by simp [hy])⟩
theorem Bin.nil : Bin [] := fun x hx => by cases hx
theorem Bin.append {xs ys : List Int} (h : Bin xs) (g : Bin ys) : Bin (xs ++ ys) := fun x hx => by
  rcases List.mem_append.1 hx with hx | hx
  · exact h x hx
  · exact g x hx
theorem Bin.take {xs : List Int} (h : Bin xs) (n : Nat) : Bin (xs.take n) := fun x hx => h x (List.mem_of_mem_take hx)
theorem Bin.drop {xs : List Int} (h : Bin xs) (n : Nat) : Bin (xs.drop n) := fun x hx => h x (List.mem_of_mem_drop hx)
theorem Bin.get {xs : List Int} (h : Bin xs) (i : Nat) (hi : i < xs.length) : xs[i] = 0 ∨ xs[i] = 1 := h _ (List.getElem_mem hi)
/-- How long the list of a number is. -/
theorem bl_length_le (n k : Nat) : (bl n).length ≤ k ↔ n < 2 ^ k := by
  induction k generalizing n with
  | zero =>
    by_cases h : n = 0
    · subst h; simp [bl_zero]
    · rw [bl_pos n h]; simp; omega
  | succ k ih =>
    by_cases h : n = 0
    · subst h; simp [bl_zero, Nat.two_pow_pos]
    · rw [bl_pos n h, List.length_cons, Nat.add_le_add_iff_right, ih, Nat.pow_succ]
      omega
theorem bl_length_lt (n k : Nat) : k < (bl n).length ↔ 2 ^ k ≤ n := by
  have := bl_length_le n k
  omega
theorem bl_nil_iff (n : Nat) : (bl n).length = 0 ↔ n = 0 := by
  have := bl_length_le n 0
  simp only [Nat.pow_zero] at this
  omega
end Go.Proofs.YtpakpgjbgehhjaaGreat

/-
  The plain mathematics of rounding to binary64 (no program in sight): half to even; the pattern of the number nearest to x 2^e as one whole number, that does not hang on how x 2^e is laid, and grows with it; what a little more changes.
-/
namespace Go.Proofs.YtpakpgjbgehhjaaGreat
set_option linter.unusedVariables false

/-- x by 2^d, to the nearest, half to even. -/
def rne (x d : Nat) : Nat := if 2 ^ d < 2 * (x % 2 ^ d) ∨ (2 * (x % 2 ^ d) = 2 ^ d ∧ x / 2 ^ d % 2 = 1) then x / 2 ^ d + 1 else x / 2 ^ d
theorem rne_zero (x : Nat) : rne x 0 = x := by
  unfold rne
  rw [Nat.pow_zero, Nat.mod_one, Nat.div_one, if_neg (by omega)]
theorem rne_scale (x d k : Nat) : rne (x * 2 ^ k) (d + k) = rne x d := by
  unfold rne
  have hk := Nat.two_pow_pos k
  have e : 2 * (x % 2 ^ d * 2 ^ k) = (2 * (x % 2 ^ d)) * 2 ^ k := (Nat.mul_assoc _ _ _).symm
  have c1 : 2 ^ d * 2 ^ k < 2 * (x % 2 ^ d * 2 ^ k) ↔ 2 ^ d < 2 * (x % 2 ^ d) := by rw [e]; exact Nat.mul_lt_mul_right hk
  have c2 : 2 * (x % 2 ^ d * 2 ^ k) = 2 ^ d * 2 ^ k ↔ 2 * (x % 2 ^ d) = 2 ^ d := by rw [e]; exact Nat.mul_left_inj (by omega)
  rw [Nat.pow_add, Nat.mul_mod_mul_right, Nat.mul_div_mul_right _ _ hk]
  simp only [c1, c2]
theorem rne_ge_div (x d : Nat) : x / 2 ^ d ≤ rne x d := by unfold rne; split <;> omega
theorem rne_le_div (x d : Nat) : rne x d ≤ x / 2 ^ d + 1 := by unfold rne; split <;> omega
theorem rne_mono (x y d : Nat) (h : x ≤ y) : rne x d ≤ rne y d := by
  have hq : x / 2 ^ d ≤ y / 2 ^ d := Nat.div_le_div_right h
  rcases Nat.lt_or_ge (x / 2 ^ d) (y / 2 ^ d) with g | g
  · exact Nat.le_trans (rne_le_div x d) (Nat.le_trans g (rne_ge_div y d))
  · have e : x / 2 ^ d = y / 2 ^ d := Nat.le_antisymm hq g
    have hx := Nat.div_add_mod x (2 ^ d)
    have hy := Nat.div_add_mod y (2 ^ d)
    rw [e] at hx
    have hr : x % 2 ^ d ≤ y % 2 ^ d := by omega
    unfold rne
    rw [e]
    split <;> split <;> omega
theorem rne_mul (m d : Nat) : rne (m * 2 ^ d) d = m := by
  have := rne_scale m 0 d
  rw [Nat.zero_add, rne_zero] at this
  exact this
theorem rne_le (x m d : Nat) (h : x ≤ m * 2 ^ d) : rne x d ≤ m := by
  have := rne_mono _ _ d h
  rwa [rne_mul] at this
theorem rne_ge (x m d : Nat) (h : m * 2 ^ d ≤ x) : m ≤ rne x d := by
  have := rne_mono _ _ d h
  rwa [rne_mul] at this
/-- A little more: it counts only that there is some. -/
theorem rne_sticky (x t d k : Nat) (hd : 0 < d) (ht : 0 < t) (hk : t < 2 ^ k) : rne (x * 2 ^ k + t) (d + k) = x / 2 ^ d + (if 2 ^ d ≤ 2 * (x % 2 ^ d) then 1 else 0) := by
  have hp := Nat.two_pow_pos d
  have hx := Nat.div_add_mod x (2 ^ d)
  have hm := Nat.mod_lt x hp
  have e0 : x * 2 ^ k + t = (x % 2 ^ d * 2 ^ k + t) + (2 ^ d * 2 ^ k) * (x / 2 ^ d) := by
    conv => lhs; rw [← hx]
    grind
  have hs : x % 2 ^ d * 2 ^ k + t < 2 ^ d * 2 ^ k := by
    have : (x % 2 ^ d + 1) * 2 ^ k ≤ 2 ^ d * 2 ^ k := Nat.mul_le_mul_right _ hm
    rw [Nat.add_mul, Nat.one_mul] at this
    omega
  have hpp : 0 < 2 ^ d * 2 ^ k := Nat.mul_pos hp (Nat.two_pow_pos k)
  have e1 : (x * 2 ^ k + t) / (2 ^ d * 2 ^ k) = x / 2 ^ d := by rw [e0, Nat.add_mul_div_left _ _ hpp, Nat.div_eq_of_lt hs, Nat.zero_add]
  have e2 : (x * 2 ^ k + t) % (2 ^ d * 2 ^ k) = x % 2 ^ d * 2 ^ k + t := by rw [e0, Nat.add_mul_mod_self_left, Nat.mod_eq_of_lt hs]
  obtain ⟨c, rfl⟩ : ∃ c, d = c + 1 := ⟨d - 1, by omega⟩
  have hc : (2 : Nat) ^ (c + 1) = 2 * 2 ^ c := by rw [Nat.pow_succ, Nat.mul_comm]
  unfold rne
  rw [Nat.pow_add 2 (c + 1) k, e1, e2]
  generalize x / 2 ^ (c + 1) = q at *
  generalize x % 2 ^ (c + 1) = r at *
  rw [hc]
  by_cases h : 2 ^ c ≤ r
  · have h1 : 2 ^ c * 2 ^ k ≤ r * 2 ^ k := Nat.mul_le_mul_right _ h
    rw [if_pos (Or.inl (by rw [Nat.mul_assoc]; omega)), if_pos (by omega)]
  · have h1 : (r + 1) * 2 ^ k ≤ 2 ^ c * 2 ^ k := Nat.mul_le_mul_right _ (by omega)
    rw [Nat.add_mul, Nat.one_mul] at h1
    rw [if_neg (by rw [Nat.mul_assoc]; omega), if_neg (by omega), Nat.add_zero]
/-- No nearer to any other multiple of 2^d. -/
theorem rne_near (x d : Nat) : 2 * (rne x d * 2 ^ d) ≤ 2 * x + 2 ^ d ∧ 2 * x ≤ 2 * (rne x d * 2 ^ d) + 2 ^ d := by
  have hx := Nat.div_add_mod x (2 ^ d)
  have hm := Nat.mod_lt x (Nat.two_pow_pos d)
  rw [Nat.mul_comm (2 ^ d)] at hx
  unfold rne
  split
  · rw [Nat.add_mul, Nat.one_mul]; omega
  · omega
/-- By 2^d, where d may be less than nought. -/
def rneI (x : Nat) (d : Int) : Nat := if 0 < d then rne x d.toNat else x * 2 ^ (-d).toNat
theorem rneI_scale (x : Nat) (d : Int) (k : Nat) : rneI (x * 2 ^ k) (d + k) = rneI x d := by
  unfold rneI
  by_cases h : 0 < d
  · rw [if_pos h, if_pos (by omega), show (d + (k : Int)).toNat = d.toNat + k by omega, rne_scale]
  · rw [if_neg h]
    by_cases g : 0 < d + (k : Int)
    · rw [if_pos g]
      have : x * 2 ^ k = (x * 2 ^ (-d).toNat) * 2 ^ (d + (k : Int)).toNat := by
        rw [Nat.mul_assoc, ← Nat.pow_add, show (-d).toNat + (d + (k : Int)).toNat = k by omega]
      rw [this, rne_mul]
    · rw [if_neg g, Nat.mul_assoc, ← Nat.pow_add, show k + (-(d + (k : Int))).toNat = (-d).toNat by omega]
theorem rneI_mono (x y : Nat) (d : Int) (h : x ≤ y) : rneI x d ≤ rneI y d := by
  unfold rneI
  split
  · exact rne_mono _ _ _ h
  · exact Nat.mul_le_mul_right _ h
def lostI (x : Nat) (d : Int) : Bool := decide (0 < d ∧ x % 2 ^ d.toNat ≠ 0)
theorem lostI_scale (x : Nat) (d : Int) (k : Nat) : lostI (x * 2 ^ k) (d + k) = lostI x d := by
  unfold lostI
  rw [decide_eq_decide]
  by_cases h : 0 < d
  · rw [show (d + (k : Int)).toNat = d.toNat + k by omega, Nat.pow_add, Nat.mul_mod_mul_right]
    have := Nat.two_pow_pos k
    have e : x % 2 ^ d.toNat * 2 ^ k ≠ 0 ↔ x % 2 ^ d.toNat ≠ 0 := by
      rw [Nat.mul_ne_zero_iff]
      exact ⟨fun h => h.1, fun h => ⟨h, by omega⟩⟩
    rw [e]
    exact ⟨fun g => ⟨h, g.2⟩, fun g => ⟨by omega, g.2⟩⟩
  · refine ⟨fun g => absurd ?_ g.2, fun g => absurd g.1 h⟩
    have : x * 2 ^ k = (x * 2 ^ (-d).toNat) * 2 ^ (d + (k : Int)).toNat := by
      have := g.1
      rw [Nat.mul_assoc, ← Nat.pow_add, show (-d).toNat + (d + (k : Int)).toNat = k by omega]
    rw [this, Nat.mul_mod_left]
/-- How many bits. -/
theorem len_scale (x k : Nat) (hx : 0 < x) : (bl (x * 2 ^ k)).length = (bl x).length + k := by
  have h1 := (bl_length_le x (bl x).length).1 (Nat.le_refl _)
  have h0 : 0 < (bl x).length := (bl_length_lt x 0).2 (by rw [Nat.pow_zero]; exact hx)
  have h2 := (bl_length_lt x ((bl x).length - 1)).1 (by omega)
  have a : (bl (x * 2 ^ k)).length ≤ (bl x).length + k := by
    rw [bl_length_le, Nat.pow_add]
    exact Nat.mul_lt_mul_of_pos_right h1 (Nat.two_pow_pos _)
  have b : (bl x).length - 1 + k < (bl (x * 2 ^ k)).length := by
    rw [bl_length_lt, Nat.pow_add]
    exact Nat.mul_le_mul_right _ h2
  omega
theorem len_sticky (x t k : Nat) (hx : 0 < x) (ht : t < 2 ^ k) : (bl (x * 2 ^ k + t)).length = (bl x).length + k := by
  have h1 := (bl_length_le x (bl x).length).1 (Nat.le_refl _)
  have h0 : 0 < (bl x).length := (bl_length_lt x 0).2 (by rw [Nat.pow_zero]; exact hx)
  have h2 := (bl_length_lt x ((bl x).length - 1)).1 (by omega)
  have a : (bl (x * 2 ^ k + t)).length ≤ (bl x).length + k := by
    rw [bl_length_le, Nat.pow_add]
    have : (x + 1) * 2 ^ k ≤ 2 ^ (bl x).length * 2 ^ k := Nat.mul_le_mul_right _ h1
    rw [Nat.add_mul, Nat.one_mul] at this
    omega
  have b : (bl x).length - 1 + k < (bl (x * 2 ^ k + t)).length := by
    rw [bl_length_lt, Nat.pow_add]
    exact Nat.le_trans (Nat.mul_le_mul_right _ h2) (Nat.le_add_right _ _)
  omega
theorem len_mono (x y : Nat) (h : x ≤ y) : (bl x).length ≤ (bl y).length := by
  rw [bl_length_le]
  exact Nat.lt_of_le_of_lt h ((bl_length_le y _).1 (Nat.le_refl _))
/-- The place of the last bit that is kept of x 2^e. -/
def lastP (x : Nat) (e : Int) : Int := max (e + ((bl x).length : Int) - 53) (-1074)
theorem lastP_scale (x : Nat) (e : Int) (k : Nat) (hx : 0 < x) : lastP (x * 2 ^ k) e = lastP x (e + k) := by
  unfold lastP
  rw [len_scale x k hx]
  push_cast
  omega
/-- What is kept: at most 53 bits, or 2^53. -/
def keptP (x : Nat) (e : Int) : Nat := rneI x (lastP x e - e)
theorem keptP_scale (x : Nat) (e : Int) (k : Nat) (hx : 0 < x) : keptP (x * 2 ^ k) e = keptP x (e + k) := by
  unfold keptP
  rw [lastP_scale x e k hx, show lastP x (e + k) - e = (lastP x (e + k) - (e + k)) + k by omega, rneI_scale]
theorem keptP_le (x : Nat) (e : Int) : keptP x e ≤ 9007199254740992 := by
  have h1 := (bl_length_le x (bl x).length).1 (Nat.le_refl _)
  unfold keptP
  have hl : e + ((bl x).length : Int) - 53 ≤ lastP x e := by unfold lastP; omega
  generalize lastP x e = l at *
  unfold rneI
  split
  · refine rne_le _ _ _ (Nat.le_trans (Nat.le_of_lt h1) ?_)
    rw [show (9007199254740992 : Nat) = 2 ^ 53 by decide, ← Nat.pow_add]
    exact Nat.pow_le_pow_right (by decide) (by omega)
  · refine Nat.le_trans (Nat.mul_le_mul_right _ (Nat.le_of_lt h1)) ?_
    rw [show (9007199254740992 : Nat) = 2 ^ 53 by decide, ← Nat.pow_add]
    exact Nat.pow_le_pow_right (by decide) (by omega)
theorem keptP_ge (x : Nat) (e : Int) (hx : 0 < x) (h : -1074 < lastP x e) : 4503599627370496 ≤ keptP x e := by
  have h0 : 0 < (bl x).length := (bl_length_lt x 0).2 (by rw [Nat.pow_zero]; exact hx)
  have h2 := (bl_length_lt x ((bl x).length - 1)).1 (by omega)
  unfold keptP
  have hl : e + ((bl x).length : Int) - 53 = lastP x e := by unfold lastP at *; omega
  generalize lastP x e = l at *
  unfold rneI
  rw [show (4503599627370496 : Nat) = 2 ^ 52 by decide]
  split
  · refine rne_ge _ _ _ (Nat.le_trans ?_ h2)
    rw [← Nat.pow_add]
    exact Nat.pow_le_pow_right (by decide) (by omega)
  · refine Nat.le_trans ?_ (Nat.mul_le_mul_right _ h2)
    rw [← Nat.pow_add]
    exact Nat.pow_le_pow_right (by decide) (by omega)
/-- The pattern of the number nearest to x 2^e, as if exponents had no upper bound. -/
def patP (x : Nat) (e : Int) : Nat := if x = 0 then 0 else keptP x e + (lastP x e + 1074).toNat * 4503599627370496
theorem patP_scale (x : Nat) (e : Int) (k : Nat) : patP (x * 2 ^ k) e = patP x (e + k) := by
  have hp := Nat.two_pow_pos k
  unfold patP
  by_cases hx : x = 0
  · subst hx; rw [Nat.zero_mul, if_pos rfl, if_pos rfl]
  · have : x * 2 ^ k ≠ 0 := Nat.mul_ne_zero hx (by omega)
    rw [if_neg hx, if_neg this, keptP_scale x e k (by omega), lastP_scale x e k (by omega)]
theorem patP_mono (x y : Nat) (e : Int) (h : x ≤ y) : patP x e ≤ patP y e := by
  unfold patP
  by_cases hx : x = 0
  · rw [if_pos hx]; exact Nat.zero_le _
  · rw [if_neg hx, if_neg (by omega)]
    have hl := len_mono x y h
    have hll : lastP x e ≤ lastP y e := by unfold lastP; omega
    have hlm : -1074 ≤ lastP x e := by unfold lastP; omega
    by_cases g : lastP x e = lastP y e
    · have := rneI_mono x y (lastP x e - e) h
      unfold keptP
      rw [← g]
      omega
    · have k1 := keptP_le x e
      have k2 := keptP_ge y e (by omega) (by omega)
      omega
/-- Does the pattern tell less than x 2^e? -/
def lostP (x : Nat) (e : Int) : Bool := lostI x (lastP x e - e)
theorem lostP_scale (x : Nat) (e : Int) (k : Nat) (hx : 0 < x) : lostP (x * 2 ^ k) e = lostP x (e + k) := by
  unfold lostP
  rw [lastP_scale x e k hx, show lastP x (e + k) - e = (lastP x (e + k) - (e + k)) + k by omega, lostI_scale]
/-- Is it below 2^-1022? -/
def smallP (x : Nat) (e : Int) : Bool := decide (e + ((bl x).length : Int) < -1021)
theorem smallP_scale (x : Nat) (e : Int) (k : Nat) (hx : 0 < x) : smallP (x * 2 ^ k) e = smallP x (e + k) := by
  unfold smallP
  rw [len_scale x k hx, decide_eq_decide]
  push_cast
  omega
/-- The flags: Inexact 1, Under 2, Over 4. -/
def flagP (x : Nat) (e : Int) : Nat := if 9218868437227405312 ≤ patP x e then 5 else if x ≠ 0 ∧ lostP x e = true then (if smallP x e then 3 else 1) else 0
/-- The pattern without its sign. -/
def numP (x : Nat) (e : Int) : Nat := min (patP x e) 9218868437227405312
theorem flagP_scale (x : Nat) (e : Int) (k : Nat) : flagP (x * 2 ^ k) e = flagP x (e + k) := by
  have hp := Nat.two_pow_pos k
  unfold flagP
  rw [patP_scale]
  by_cases hx : x = 0
  · subst hx; rw [Nat.zero_mul]; simp
  · have : x * 2 ^ k ≠ 0 := Nat.mul_ne_zero hx (by omega)
    rw [lostP_scale x e k (by omega), smallP_scale x e k (by omega)]
    simp only [ne_eq, hx, this]
theorem numP_scale (x : Nat) (e : Int) (k : Nat) : numP (x * 2 ^ k) e = numP x (e + k) := by unfold numP; rw [patP_scale]
theorem numP_mono (x y : Nat) (e : Int) (h : x ≤ y) : numP x e ≤ numP y e := by
  have := patP_mono x y e h
  unfold numP
  omega
/-- A little more than x 2^e, told by whatever lies beneath: where at least one bit of x falls out. -/
theorem sticky_all (x t k t' k' : Nat) (e : Int) (hx : 0 < x) (hd : e < lastP x e) (ht : 0 < t) (htk : t < 2 ^ k) (ht' : 0 < t') (htk' : t' < 2 ^ k') :
    patP (x * 2 ^ k + t) (e - k) = patP (x * 2 ^ k' + t') (e - k') := by
  have key : ∀ t k : Nat, 0 < t → t < 2 ^ k → patP (x * 2 ^ k + t) (e - k) = x / 2 ^ (lastP x e - e).toNat + (if 2 ^ (lastP x e - e).toNat ≤ 2 * (x % 2 ^ (lastP x e - e).toNat) then 1 else 0) + (lastP x e + 1074).toNat * 4503599627370496 := by
    intro t k ht hk
    have hl : lastP (x * 2 ^ k + t) (e - k) = lastP x e := by
      unfold lastP
      rw [len_sticky x t k hx hk]
      push_cast
      omega
    unfold patP keptP
    rw [if_neg (by omega), hl]
    unfold rneI
    rw [if_pos (by omega), show (lastP x e - (e - (k : Int))).toNat = (lastP x e - e).toNat + k by omega, rne_sticky x t _ k (by omega) ht hk]
  rw [key t k ht htk, key t' k' ht' htk']
theorem sticky_lost (x t k : Nat) (e : Int) (hx : 0 < x) (hd : e < lastP x e) (ht : 0 < t) (htk : t < 2 ^ k) : lostP (x * 2 ^ k + t) (e - k) = true ∧ smallP (x * 2 ^ k + t) (e - k) = smallP x e := by
  have hl : lastP (x * 2 ^ k + t) (e - k) = lastP x e := by
    unfold lastP
    rw [len_sticky x t k hx htk]
    push_cast
    omega
  refine ⟨?_, ?_⟩
  · unfold lostP lostI
    rw [hl, decide_eq_true_eq]
    refine ⟨by omega, ?_⟩
    rw [show (lastP x e - (e - (k : Int))).toNat = k + (lastP x e - e).toNat by omega, Nat.pow_add]
    intro g
    have h1 : (x * 2 ^ k + t) % 2 ^ k = 0 := by
      rw [← Nat.mod_mul_right_mod (x * 2 ^ k + t) (2 ^ k) (2 ^ (lastP x e - e).toNat), g, Nat.zero_mod]
    rw [Nat.add_comm, Nat.add_mul_mod_self_right, Nat.mod_eq_of_lt htk] at h1
    omega
  · unfold smallP
    rw [len_sticky x t k hx htk, decide_eq_decide]
    push_cast
    omega
end Go.Proofs.YtpakpgjbgehhjaaGreat

/-
  What a pattern without its sign stands for, as a whole number times 2^-1074, and what rounding makes of it (plain mathematics, no program in sight).
-/
namespace Go.Proofs.YtpakpgjbgehhjaaGreat
set_option linter.unusedVariables false

/-- What a pattern without sign stands for, times 2^1074. -/
def V (p : Nat) : Nat := if p < 4503599627370496 then p else (4503599627370496 + p % 4503599627370496) * 2 ^ (p / 4503599627370496 - 1)
theorem V_split (k d : Nat) (hk : k ≤ 9007199254740992) (h : 4503599627370496 ≤ k ∨ d = 0) : V (k + d * 4503599627370496) = k * 2 ^ d := by
  unfold V
  by_cases h1 : k < 4503599627370496
  · obtain rfl : d = 0 := by omega
    rw [if_pos (by omega), Nat.pow_zero]
    omega
  · rw [if_neg (by omega)]
    by_cases h2 : k = 9007199254740992
    · subst h2
      rw [show (9007199254740992 + d * 4503599627370496) % 4503599627370496 = 0 by omega, show (9007199254740992 + d * 4503599627370496) / 4503599627370496 - 1 = d + 1 by omega, Nat.pow_succ]
      omega
    · rw [show (k + d * 4503599627370496) % 4503599627370496 = k - 4503599627370496 by omega, show (k + d * 4503599627370496) / 4503599627370496 - 1 = d by omega, show 4503599627370496 + (k - 4503599627370496) = k by omega]
theorem V_form (p : Nat) : ∃ k d : Nat, p = k + d * 4503599627370496 ∧ V p = k * 2 ^ d ∧ k < 9007199254740992 ∧ (4503599627370496 ≤ k ∨ d = 0) := by
  by_cases h : p < 4503599627370496
  · exact ⟨p, 0, by omega, by rw [Nat.pow_zero, Nat.mul_one]; unfold V; rw [if_pos h], by omega, Or.inr rfl⟩
  · refine ⟨4503599627370496 + p % 4503599627370496, p / 4503599627370496 - 1, by omega, ?_, by omega, Or.inl (by omega)⟩
    unfold V
    rw [if_neg h]
theorem lastP_exact (m : Nat) (e : Int) (hm : m < 9007199254740992) (he : -1074 ≤ e) (hn : 4503599627370496 ≤ m ∨ e = -1074) : lastP m e = e := by
  have h1 : (bl m).length ≤ 53 := (bl_length_le m 53).2 hm
  unfold lastP
  rcases hn with hn | hn
  · have h2 : 52 < (bl m).length := (bl_length_lt m 52).2 hn
    omega
  · omega
theorem patP_exact (m : Nat) (e : Int) (h0 : 0 < m) (hm : m < 9007199254740992) (he : -1074 ≤ e) (hn : 4503599627370496 ≤ m ∨ e = -1074) : patP m e = m + (e + 1074).toNat * 4503599627370496 := by
  unfold patP keptP rneI
  rw [if_neg (by omega), lastP_exact m e hm he hn, if_neg (by omega), show (-(e - e)).toNat = 0 by omega, Nat.pow_zero, Nat.mul_one]
theorem lostP_exact (m : Nat) (e : Int) (hm : m < 9007199254740992) (he : -1074 ≤ e) (hn : 4503599627370496 ≤ m ∨ e = -1074) : lostP m e = false := by
  unfold lostP lostI
  rw [lastP_exact m e hm he hn, decide_eq_false_iff_not]
  omega
/-- A pattern's number is rounded to it. -/
theorem patP_V (p : Nat) : patP (V p) (-1074) = p := by
  obtain ⟨k, d, e, hv, hk, hd⟩ := V_form p
  by_cases h0 : k = 0
  · subst h0
    obtain rfl : d = 0 := by omega
    rw [hv, Nat.zero_mul]
    unfold patP
    rw [if_pos rfl]
    omega
  · rw [hv, patP_scale, patP_exact k _ (by omega) hk (by omega) (by omega), show (-1074 + (d : Int) + 1074).toNat = d by omega]
    exact e.symm
theorem lostP_V (p : Nat) : lostP (V p) (-1074) = false ∨ V p = 0 := by
  obtain ⟨k, d, e, hv, hk, hd⟩ := V_form p
  by_cases h0 : k = 0
  · right; rw [hv, h0, Nat.zero_mul]
  · left; rw [hv, lostP_scale k _ d (by omega), lostP_exact k _ hk (by omega) (by omega)]
theorem V_mono (p q : Nat) (h : p ≤ q) : V p ≤ V q := by
  rcases Nat.lt_or_ge (V q) (V p) with g | g
  · have := patP_mono _ _ (-1074) (Nat.le_of_lt g)
    rw [patP_V, patP_V] at this
    have e : p = q := Nat.le_antisymm h this
    rw [e] at g
    omega
  · exact g
theorem V_lt (p q : Nat) (h : p < q) : V p < V q := by
  rcases Nat.lt_or_ge (V p) (V q) with g | g
  · exact g
  · have := patP_mono _ _ (-1074) g
    rw [patP_V, patP_V] at this
    omega
theorem V_zero : V 0 = 0 := by unfold V; rfl
theorem V_pos (p : Nat) (h : 0 < p) : 0 < V p := by have := V_lt 0 p h; rw [V_zero] at this; exact this
/-- A number of at most 53 bits, times a power of two, is told just so. -/
theorem told (c d : Nat) (hc : c ≤ 9007199254740992) : lostP (c * 2 ^ d) (-1074) = false := by
  by_cases h0 : c = 0
  · subst h0
    rw [Nat.zero_mul]
    unfold lostP lostI
    rw [decide_eq_false_iff_not, Nat.zero_mod]
    omega
  · rw [lostP_scale c _ d (by omega)]
    by_cases h1 : c = 9007199254740992
    · subst h1
      have h2 : lastP 9007199254740992 (-1074 + (d : Int)) = d - 1073 := by
        have e : (bl 9007199254740992).length = 54 := by
          have a := (bl_length_le 9007199254740992 54).2 (by decide)
          have b := (bl_length_lt 9007199254740992 53).2 (by decide)
          omega
        unfold lastP
        rw [e]
        omega
      unfold lostP lostI
      rw [h2, decide_eq_false_iff_not, show ((d : Int) - 1073 - (-1074 + (d : Int))).toNat = 1 by omega]
      omega
    · have h1 : (bl c).length ≤ 53 := (bl_length_le c 53).2 (by omega)
      have h2 : lastP c (-1074 + (d : Int)) ≤ -1074 + (d : Int) := by unfold lastP; omega
      unfold lostP lostI
      rw [decide_eq_false_iff_not]
      omega
end Go.Proofs.YtpakpgjbgehhjaaGreat

/-
  Rounding what is told with a little more, quotients, sums with signs (plain mathematics, no program in sight).
-/
namespace Go.Proofs.YtpakpgjbgehhjaaGreat
set_option linter.unusedVariables false

/-- The flags of a little more don't hang on how it is told. -/
theorem sticky_flag (x t k t' k' : Nat) (e : Int) (hx : 0 < x) (hd : e < lastP x e) (ht : 0 < t) (htk : t < 2 ^ k) (ht' : 0 < t') (htk' : t' < 2 ^ k') :
    flagP (x * 2 ^ k + t) (e - k) = flagP (x * 2 ^ k' + t') (e - k') := by
  obtain ⟨a1, a2⟩ := sticky_lost x t k e hx hd ht htk
  obtain ⟨b1, b2⟩ := sticky_lost x t' k' e hx hd ht' htk'
  have c1 : x * 2 ^ k + t ≠ 0 := by omega
  have c2 : x * 2 ^ k' + t' ≠ 0 := by omega
  unfold flagP
  rw [sticky_all x t k t' k' e hx hd ht htk ht' htk', a1, a2, b1, b2]
  simp only [ne_eq, c1, c2]
/-- Rounded with a little more, or without. -/
def numM (x : Nat) (e : Int) (more : Bool) : Nat := numP (x * 2 ^ 2 + more.toNat) (e - (2 : Nat))
def flagM (x : Nat) (e : Int) (more : Bool) : Nat := flagP (x * 2 ^ 2 + more.toNat) (e - (2 : Nat))
theorem numM_false (x : Nat) (e : Int) : numM x e false = numP x e := by
  unfold numM
  rw [Bool.toNat_false, Nat.add_zero, numP_scale, Int.sub_add_cancel]
theorem flagM_false (x : Nat) (e : Int) : flagM x e false = flagP x e := by
  unfold flagM
  rw [Bool.toNat_false, Nat.add_zero, flagP_scale, Int.sub_add_cancel]
/-- Some bits beneath, told as a little more. -/
theorem more_shift (N j : Nat) (e : Int) (hq : 0 < N / 2 ^ j) (hd : e < lastP (N / 2 ^ j) e) :
    numM (N / 2 ^ j) e (decide (N % 2 ^ j ≠ 0)) = numP N (e - j) ∧ flagM (N / 2 ^ j) e (decide (N % 2 ^ j ≠ 0)) = flagP N (e - j) := by
  have hN := Nat.div_add_mod N (2 ^ j)
  have hm := Nat.mod_lt N (Nat.two_pow_pos j)
  rw [Nat.mul_comm] at hN
  by_cases h : N % 2 ^ j = 0
  · rw [h, Nat.add_zero] at hN
    rw [show decide (N % 2 ^ j ≠ 0) = false by simp [h], numM_false, flagM_false]
    have a := numP_scale (N / 2 ^ j) (e - j) j
    have b := flagP_scale (N / 2 ^ j) (e - j) j
    rw [hN, Int.sub_add_cancel] at a b
    exact ⟨a.symm, b.symm⟩
  · rw [show decide (N % 2 ^ j ≠ 0) = true by simp [h]]
    unfold numM flagM
    rw [Bool.toNat_true]
    have a := sticky_all (N / 2 ^ j) 1 2 (N % 2 ^ j) j e hq hd (by omega) (by decide) (by omega) hm
    have b := sticky_flag (N / 2 ^ j) 1 2 (N % 2 ^ j) j e hq hd (by omega) (by decide) (by omega) hm
    rw [hN] at a b
    unfold numP
    rw [a, b]
    exact ⟨rfl, rfl⟩
/-- A quotient with more bits is rounded alike. -/
theorem more_div (N y j : Nat) (e : Int) (hy : 0 < y) (hq : 0 < N / y) (hd : e < lastP (N / y) e) :
    numM (N / y) e (decide (N % y ≠ 0)) = numM (N * 2 ^ j / y) (e - j) (decide (N * 2 ^ j % y ≠ 0)) ∧ flagM (N / y) e (decide (N % y ≠ 0)) = flagM (N * 2 ^ j / y) (e - j) (decide (N * 2 ^ j % y ≠ 0)) := by
  have hN := Nat.div_add_mod N y
  have hm := Nat.mod_lt N hy
  have e0 : N * 2 ^ j = N % y * 2 ^ j + y * (N / y * 2 ^ j) := by
    conv => lhs; rw [← hN]
    grind
  have e1 : N * 2 ^ j / y = N / y * 2 ^ j + N % y * 2 ^ j / y := by rw [e0, Nat.add_mul_div_left _ _ hy, Nat.add_comm]
  have e2 : N * 2 ^ j % y = N % y * 2 ^ j % y := by rw [e0, Nat.add_mul_mod_self_left]
  have ht : N % y * 2 ^ j / y < 2 ^ j := by
    rw [Nat.div_lt_iff_lt_mul hy, Nat.mul_comm (2 ^ j)]
    exact Nat.mul_lt_mul_of_pos_right hm (Nat.two_pow_pos j)
  rw [e1, e2]
  by_cases h : N % y = 0
  · rw [h, Nat.zero_mul, Nat.zero_div, Nat.zero_mod, Nat.add_zero]
    rw [show decide ((0 : Nat) ≠ 0) = false by simp, numM_false, flagM_false, numM_false, flagM_false, numP_scale, flagP_scale, Int.sub_add_cancel]
    exact ⟨rfl, rfl⟩
  · rw [show decide (N % y ≠ 0) = true by simp [h]]
    generalize hX : N / y = X at *
    have hR := Nat.div_add_mod (N % y * 2 ^ j) y
    have hpos : 0 < N % y * 2 ^ j := Nat.mul_pos (by omega) (Nat.two_pow_pos j)
    generalize N % y * 2 ^ j / y = t at *
    by_cases g : N % y * 2 ^ j % y = 0
    · rw [show decide (N % y * 2 ^ j % y ≠ 0) = false from decide_eq_false (fun k => k g), numM_false, flagM_false]
      have ht0 : 0 < t := by
        rw [g, Nat.add_zero] at hR
        rcases Nat.eq_zero_or_pos t with k | k
        · rw [k, Nat.mul_zero] at hR; omega
        · exact k
      unfold numM flagM
      rw [Bool.toNat_true]
      have a := sticky_all X 1 2 t j e hq hd (by omega) (by decide) ht0 ht
      have b := sticky_flag X 1 2 t j e hq hd (by omega) (by decide) ht0 ht
      unfold numP
      rw [a, b]
      exact ⟨rfl, rfl⟩
    · rw [show decide (N % y * 2 ^ j % y ≠ 0) = true from decide_eq_true g]
      unfold numM flagM
      rw [Bool.toNat_true]
      have hk : (X * 2 ^ j + t) * 2 ^ 2 + 1 = X * 2 ^ (j + 2) + (t * 4 + 1) := by rw [Nat.pow_add]; grind
      have hlt : t * 4 + 1 < 2 ^ (j + 2) := by rw [Nat.pow_add]; omega
      have a := sticky_all X 1 2 (t * 4 + 1) (j + 2) e hq hd (by omega) (by decide) (by omega) hlt
      have b := sticky_flag X 1 2 (t * 4 + 1) (j + 2) e hq hd (by omega) (by decide) (by omega) hlt
      rw [show e - ((j + 2 : Nat) : Int) = e - (j : Int) - ((2 : Nat) : Int) by push_cast; omega] at a b
      unfold numP
      rw [hk, a, b]
      exact ⟨rfl, rfl⟩
/-- What is less than one unit of a difference falls out of it so. -/
theorem sub_floor (X Y j : Nat) (h : Y ≤ X * 2 ^ j) : (X * 2 ^ j - Y) / 2 ^ j = X - Y / 2 ^ j - (decide (Y % 2 ^ j ≠ 0)).toNat ∧ ((X * 2 ^ j - Y) % 2 ^ j ≠ 0 ↔ Y % 2 ^ j ≠ 0) := by
  have hp := Nat.two_pow_pos j
  have hY := Nat.div_add_mod Y (2 ^ j)
  have hm := Nat.mod_lt Y hp
  by_cases g : Y % 2 ^ j = 0
  · have e : X * 2 ^ j - Y = (X - Y / 2 ^ j) * 2 ^ j := by rw [Nat.sub_mul, Nat.mul_comm (Y / 2 ^ j)]; omega
    rw [e, Nat.mul_div_cancel _ hp, Nat.mul_mod_left]
    simp [g]
  · have hXY : Y / 2 ^ j < X := by
      rcases Nat.lt_or_ge (Y / 2 ^ j) X with k | k
      · exact k
      · have : X * 2 ^ j ≤ 2 ^ j * (Y / 2 ^ j) := by rw [Nat.mul_comm X]; exact Nat.mul_le_mul_left _ k
        omega
    obtain ⟨Z, hZ⟩ : ∃ Z, X = Y / 2 ^ j + 1 + Z := ⟨X - Y / 2 ^ j - 1, by omega⟩
    have e : X * 2 ^ j - Y = (2 ^ j - Y % 2 ^ j) + 2 ^ j * Z := by
      have : X * 2 ^ j = 2 ^ j * (Y / 2 ^ j) + 2 ^ j + 2 ^ j * Z := by rw [hZ]; grind
      omega
    have hlt : 2 ^ j - Y % 2 ^ j < 2 ^ j := by omega
    rw [e, Nat.add_mul_div_left _ _ hp, Nat.add_mul_mod_self_left, Nat.div_eq_of_lt hlt, Nat.mod_eq_of_lt hlt]
    rw [show decide (Y % 2 ^ j ≠ 0) = true by simp [g], Bool.toNat_true]
    omega
/-- The sign's bit. -/
def sgnB (neg : Bool) : Int := if neg then 9223372036854775808 else 0
theorem V_one : V 4607182418800017408 = 4503599627370496 * 2 ^ 1022 := V_split 4503599627370496 1022 (by decide) (by decide)
end Go.Proofs.YtpakpgjbgehhjaaGreat

/-
  What the program's way of rounding comes to (plain mathematics, no program in sight): a whole number shifted down by n bits, to the nearest, half to even, with a little more; and that it is the rounding of RoundM at 202 bits more.
-/
namespace Go.Proofs.YtpakpgjbgehhjaaGreat
set_option linter.unusedVariables false

def kk : Nat := 202
theorem one_kk : 1 < 2 ^ kk := by decide +kernel
/-- What is rounded to, and the flags; a little more is told 202 bits beneath. -/
def numR (x : Nat) (e : Int) (more : Bool) : Nat := if x = 0 then 0 else numP (x * 2 ^ kk + more.toNat) (e - (kk : Nat))
def flagR (x : Nat) (e : Int) (more : Bool) : Nat := if x = 0 then (if more then 3 else 0) else flagP (x * 2 ^ kk + more.toNat) (e - (kk : Nat))
theorem numR_false (x : Nat) (e : Int) : numR x e false = numP x e ∧ flagR x e false = flagP x e := by
  unfold numR flagR
  by_cases hx : x = 0
  · subst hx
    rw [if_pos rfl, if_pos rfl]
    unfold numP flagP patP
    simp
  · rw [if_neg hx, if_neg hx, Bool.toNat_false, Nat.add_zero, numP_scale, flagP_scale, Int.sub_add_cancel]
    exact ⟨rfl, rfl⟩
/-- Where at least one bit falls out, a little more may be told at any place beneath. -/
theorem numR_more (x : Nat) (e : Int) (more : Bool) (hx : 0 < x) (hd : e < lastP x e) : numR x e more = numM x e more ∧ flagR x e more = flagM x e more := by
  cases more
  · rw [(numR_false x e).1, (numR_false x e).2, numM_false, flagM_false]
    exact ⟨rfl, rfl⟩
  · unfold numR flagR numM flagM numP
    rw [if_neg (by omega), if_neg (by omega), Bool.toNat_true, sticky_all x 1 kk 1 2 e hx hd (by omega) one_kk (by omega) (by decide), sticky_flag x 1 kk 1 2 e hx hd (by omega) one_kk (by omega) (by decide)]
    exact ⟨rfl, rfl⟩
/-- The nearest whole number to x by 2^n, as the program finds it. -/
def nearN (x : Nat) (n : Int) (more : Bool) : Nat :=
  if n ≤ 0 then x * 2 ^ (-n).toNat
  else x / 2 ^ n.toNat + (if x / 2 ^ (n.toNat - 1) % 2 = 1 ∧ (x % 2 ^ (n.toNat - 1) ≠ 0 ∨ more = true ∨ x / 2 ^ n.toNat % 2 = 1) then 1 else 0)
def inexN (x : Nat) (n : Int) (more : Bool) : Bool :=
  if n ≤ 0 then more else decide (x / 2 ^ (n.toNat - 1) % 2 = 1 ∨ x % 2 ^ (n.toNat - 1) ≠ 0 ∨ more = true)
theorem bit_split (x c : Nat) : x / 2 ^ (c + 1) = x / 2 ^ c / 2 ∧ x % 2 ^ (c + 1) = x % 2 ^ c + 2 ^ c * (x / 2 ^ c % 2) := by
  refine ⟨?_, ?_⟩
  · rw [Nat.pow_succ, Nat.div_div_eq_div_mul]
  · rw [Nat.pow_succ, Nat.mod_mul]
theorem hk0 : (kk : Int) = 202 := rfl
theorem near_rne (x : Nat) (n : Int) (more : Bool) (hn : -200 < n) : nearN x n more = rne (x * 2 ^ kk + more.toNat) (n + kk).toNat := by
  have hkk := hk0
  unfold nearN
  by_cases h : n ≤ 0
  · rw [if_pos h]
    obtain ⟨m, hm⟩ : ∃ m, (n + kk).toNat = m + 2 := ⟨(n + kk).toNat - 2, by omega⟩
    have e : x * 2 ^ kk = x * 2 ^ (-n).toNat * 2 ^ (m + 2) := by
      rw [Nat.mul_assoc, ← Nat.pow_add]
      congr 2
      omega
    rw [e, hm]
    have hp := Nat.two_pow_pos m
    have h4 : 2 ^ (m + 2) = 4 * 2 ^ m := by rw [Nat.pow_add]; omega
    have ht : more.toNat ≤ 1 := Bool.toNat_le more
    generalize x * 2 ^ (-n).toNat = z
    unfold rne
    have hlt : more.toNat < 2 ^ (m + 2) := by omega
    rw [show z * 2 ^ (m + 2) + more.toNat = more.toNat + 2 ^ (m + 2) * z by rw [Nat.mul_comm]; omega, Nat.add_mul_mod_self_left, Nat.mod_eq_of_lt hlt, Nat.add_mul_div_left _ _ (by omega), Nat.div_eq_of_lt hlt, if_neg (by omega), Nat.zero_add]
  · rw [if_neg h]
    obtain ⟨c, hc⟩ : ∃ c, n.toNat = c + 1 := ⟨n.toNat - 1, by omega⟩
    rw [show (n + kk).toNat = n.toNat + kk by omega, hc, Nat.add_sub_cancel]
    obtain ⟨b1, b2⟩ := bit_split x c
    have hp := Nat.two_pow_pos c
    have hm := Nat.mod_lt x hp
    have hc2 : 2 ^ (c + 1) = 2 * 2 ^ c := by rw [Nat.pow_succ, Nat.mul_comm]
    have hbit : x / 2 ^ c % 2 = 0 ∨ x / 2 ^ c % 2 = 1 := by omega
    cases more
    · rw [show (false : Bool).toNat = 0 from rfl, Nat.add_zero (x * 2 ^ kk), rne_scale]
      unfold rne
      rw [b2]
      generalize x / 2 ^ (c + 1) = q at *
      generalize x % 2 ^ c = r at *
      rw [hc2]
      rcases hbit with hb | hb
      · rw [hb, if_neg (by omega), if_neg (by omega), Nat.add_zero]
      · rw [hb]
        by_cases g : r ≠ 0 ∨ false = true ∨ q % 2 = 1
        · rw [if_pos ⟨rfl, g⟩, if_pos ?_]
          rcases g with g | g | g
          · left; omega
          · cases g
          · by_cases g2 : r = 0
            · right; omega
            · left; omega
        · rw [if_neg (fun k => g k.2), if_neg ?_, Nat.add_zero]
          intro k
          apply g
          rcases k with k | k
          · left; omega
          · right; right; exact k.2
    · rw [Bool.toNat_true, rne_sticky x 1 (c + 1) kk (by omega) (by omega) one_kk, b2, hc2]
      rcases hbit with hb | hb
      · rw [hb, if_neg (by omega), if_neg (by omega)]
      · rw [hb, if_pos ⟨rfl, Or.inr (Or.inl rfl)⟩, if_pos (by omega)]
theorem inex_lost (x : Nat) (n : Int) (more : Bool) (hn : -200 < n) : inexN x n more = lostI (x * 2 ^ kk + more.toNat) (n + kk) := by
  have hkk := hk0
  unfold inexN lostI
  by_cases h : n ≤ 0
  · rw [if_pos h]
    obtain ⟨m, hm⟩ : ∃ m, (n + kk).toNat = m + 2 := ⟨(n + kk).toNat - 2, by omega⟩
    have e : x * 2 ^ kk = 2 ^ (m + 2) * (x * 2 ^ (-n).toNat) := by
      rw [Nat.mul_comm (2 ^ (m + 2)), Nat.mul_assoc, ← Nat.pow_add]
      congr 2
      omega
    have hp := Nat.two_pow_pos m
    have h4 : 2 ^ (m + 2) = 4 * 2 ^ m := by rw [Nat.pow_add]; omega
    have ht : more.toNat ≤ 1 := Bool.toNat_le more
    have hlt : more.toNat < 2 ^ (m + 2) := by omega
    rw [hm, e, Nat.add_comm, Nat.add_mul_mod_self_left, Nat.mod_eq_of_lt hlt]
    cases more <;> simp <;> omega
  · rw [if_neg h]
    obtain ⟨c, hc⟩ : ∃ c, n.toNat = c + 1 := ⟨n.toNat - 1, by omega⟩
    rw [show (n + kk).toNat = kk + n.toNat by omega, hc, Nat.add_sub_cancel, decide_eq_decide]
    obtain ⟨b1, b2⟩ := bit_split x c
    have hp := Nat.two_pow_pos c
    have hbit : x / 2 ^ c % 2 = 0 ∨ x / 2 ^ c % 2 = 1 := by omega
    have key : (x * 2 ^ kk + more.toNat) % 2 ^ (kk + (c + 1)) = more.toNat + 2 ^ kk * (x % 2 ^ (c + 1)) := by
      have ht : more.toNat < 2 ^ kk := Nat.lt_of_le_of_lt (Bool.toNat_le more) one_kk
      rw [Nat.add_comm (x * 2 ^ kk), Nat.mul_comm x, Nat.pow_add, Nat.mod_mul, Nat.add_mul_mod_self_left, Nat.mod_eq_of_lt ht, Nat.add_mul_div_left _ _ (Nat.two_pow_pos _), Nat.div_eq_of_lt ht, Nat.zero_add]
    rw [key, b2]
    have hbig := Nat.two_pow_pos kk
    generalize x % 2 ^ c = r at *
    constructor
    · intro g
      refine ⟨by omega, ?_⟩
      rcases g with g | g | g
      · rw [g]
        have : 0 < 2 ^ kk * (r + 2 ^ c * 1) := Nat.mul_pos hbig (by omega)
        omega
      · have : 0 < 2 ^ kk * (r + 2 ^ c * (x / 2 ^ c % 2)) := Nat.mul_pos hbig (by omega)
        omega
      · rw [g, Bool.toNat_true]; omega
    · intro g
      rcases hbit with hb | hb
      · by_cases hr : r = 0
        · right; right
          cases more
          · exfalso
            apply g.2
            rw [hr, hb]
            simp
          · rfl
        · right; left; exact hr
      · left; exact hb
/-- What Round keeps, where its last bit stands, and what is lost, all of x and e alone. -/
theorem round_parts (x : Nat) (e : Int) (more : Bool) (hx : 0 < x) :
    lastP (x * 2 ^ kk + more.toNat) (e - (kk : Nat)) = lastP x e ∧ keptP (x * 2 ^ kk + more.toNat) (e - (kk : Nat)) = nearN x (lastP x e - e) more
    ∧ lostP (x * 2 ^ kk + more.toNat) (e - (kk : Nat)) = inexN x (lastP x e - e) more ∧ smallP (x * 2 ^ kk + more.toNat) (e - (kk : Nat)) = decide (e + ((bl x).length : Int) ≤ -1022) := by
  have ht : more.toNat < 2 ^ kk := Nat.lt_of_le_of_lt (Bool.toNat_le more) one_kk
  have hl := len_sticky x more.toNat kk hx ht
  have h0 : 0 < (bl x).length := (bl_length_lt x 0).2 (by rw [Nat.pow_zero]; exact hx)
  have hL : lastP (x * 2 ^ kk + more.toNat) (e - (kk : Nat)) = lastP x e := by
    unfold lastP
    rw [hl]
    push_cast
    omega
  have hkk := hk0
  have hn : -200 < lastP x e - e := by unfold lastP; omega
  refine ⟨hL, ?_, ?_, ?_⟩
  · unfold keptP rneI
    rw [hL, if_pos (by omega), near_rne x _ more hn, show lastP x e - (e - ((kk : Nat) : Int)) = lastP x e - e + kk by omega]
  · unfold lostP
    rw [hL, inex_lost x _ more hn, show lastP x e - (e - ((kk : Nat) : Int)) = lastP x e - e + kk by omega]
  · unfold smallP
    rw [hl, decide_eq_decide]
    push_cast
    omega
theorem round_num (x : Nat) (e : Int) (more : Bool) (hx : 0 < x) :
    numR x e more = min (nearN x (lastP x e - e) more + (lastP x e + 1074).toNat * 4503599627370496) 9218868437227405312
    ∧ flagR x e more = (if 9218868437227405312 ≤ nearN x (lastP x e - e) more + (lastP x e + 1074).toNat * 4503599627370496 then 5 else if inexN x (lastP x e - e) more then (if e + ((bl x).length : Int) ≤ -1022 then 3 else 1) else 0) := by
  obtain ⟨a, b, c, d⟩ := round_parts x e more hx
  have hne : x * 2 ^ kk + more.toNat ≠ 0 := by
    have : 0 < x * 2 ^ kk := Nat.mul_pos hx (Nat.two_pow_pos kk)
    omega
  unfold numR flagR numP flagP patP
  rw [if_neg (by omega : ¬ x = 0), if_neg (by omega : ¬ x = 0), if_neg hne, a, b, c, d]
  refine ⟨rfl, ?_⟩
  simp only [ne_eq, hne, not_false_eq_true, true_and, decide_eq_true_eq]
theorem near_bd (x : Nat) (e : Int) (more : Bool) (hx : 0 < x) : nearN x (lastP x e - e) more ≤ 9007199254740992 ∧ (4503599627370496 ≤ nearN x (lastP x e - e) more ∨ lastP x e = -1074) := by
  obtain ⟨a, b, c, d⟩ := round_parts x e more hx
  rw [← b]
  refine ⟨keptP_le _ _, ?_⟩
  have hlm : -1074 ≤ lastP x e := by unfold lastP; omega
  by_cases h : lastP x e = -1074
  · exact Or.inr h
  · left
    refine keptP_ge _ _ ?_ (by rw [a]; omega)
    have : 0 < x * 2 ^ kk := Nat.mul_pos hx (Nat.two_pow_pos kk)
    omega
end Go.Proofs.YtpakpgjbgehhjaaGreat

/-
  Plain facts on patterns of 64 bits (no program in sight): what masks, shifts and the sign bit come to, as integer arithmetic. No conditions but that a pattern lies in [0, 2^64).
-/
namespace Go.Proofs.YtpakpgjbgehhjaaGreat

theorem and_sign (b : Int) (h0 : 0 ≤ b) (h1 : b < 18446744073709551616) : bits .and .u64 b 9223372036854775808 = b / 9223372036854775808 * 9223372036854775808 := by
  rw [u64_and b _ h0 h1 (by decide) (by decide)]
  have := nat_bit 63 b.toNat
  simp only [show (9223372036854775808 : Int).toNat = 2 ^ 63 from rfl]
  rw [this]
  omega
theorem and_quiet (b : Int) (h0 : 0 ≤ b) (h1 : b < 18446744073709551616) : bits .and .u64 b 2251799813685248 = b / 2251799813685248 % 2 * 2251799813685248 := by
  rw [u64_and b _ h0 h1 (by decide) (by decide)]
  have := nat_bit 51 b.toNat
  simp only [show (2251799813685248 : Int).toNat = 2 ^ 51 from rfl]
  rw [this]
  omega
theorem and_exp (b : Int) (h0 : 0 ≤ b) (h1 : b < 18446744073709551616) : bits .and .u64 b 2047 = b % 2048 := by
  rw [u64_and b _ h0 h1 (by decide) (by decide)]
  have := nat_mask11 b.toNat
  simp only [show (2047 : Int).toNat = 2047 from rfl]
  rw [this]
  omega
theorem and_frac (b : Int) (h0 : 0 ≤ b) (h1 : b < 18446744073709551616) : bits .and .u64 b 4503599627370495 = b % 4503599627370496 := by
  rw [u64_and b _ h0 h1 (by decide) (by decide)]
  have := nat_mask52 b.toNat
  simp only [show (4503599627370495 : Int).toNat = 4503599627370495 from rfl]
  rw [this]
  omega
theorem and_exp_i (n : Int) : bits .and .i64 n 2047 = n % 2048 := by
  have h127 : (BitVec.ofInt 64 2047).toNat = 2 ^ 11 - 1 := by decide
  have key : (BitVec.ofInt 64 n &&& BitVec.ofInt 64 2047).toNat = (n % ((2 ^ 64 : Nat) : Int)).toNat % 2 ^ 11 := by
    rw [BitVec.toNat_and, BitVec.toNat_ofInt, h127, Nat.and_two_pow_sub_one_eq_mod]
  show IntKind.i64.wrap ((BitVec.ofInt 64 n &&& BitVec.ofInt 64 2047).toNat : Nat) = n % 2048
  rw [key, IntKind.wrap_i64]
  omega
theorem or_join52 (a b : Int) (h0 : 0 ≤ a) (h1 : a < 18446744073709551616) (g : a % 4503599627370496 = 0) (h2 : 0 ≤ b) (h3 : b < 4503599627370496) : bits .or .u64 a b = a + b := by
  rw [u64_or a b h0 h1 h2 (by omega)]
  rw [nat_join 52 a.toNat b.toNat (by omega) (by omega)]
  omega
theorem or_sign (b : Int) (h0 : 0 ≤ b) (h1 : b < 9223372036854775808) : bits .or .u64 b 9223372036854775808 = b + 9223372036854775808 := by
  rw [u64_or b _ h0 (by omega) (by decide) (by decide), Nat.or_comm]
  rw [nat_join 63 _ b.toNat (by decide) (by omega)]
  omega
theorem nat_xor_top (c : Nat) (h : c < 2 ^ 63) : c ^^^ 2 ^ 63 = c + 2 ^ 63 := by
  have e : c + 2 ^ 63 = 2 ^ 63 ||| c := by rw [nat_join 63 (2 ^ 63) c (by decide) h]; omega
  rw [e]
  apply Nat.eq_of_testBit_eq
  intro j
  rw [Nat.testBit_xor, Nat.testBit_or, Nat.testBit_two_pow]
  by_cases hj : 63 = j
  · subst hj
    simp [Nat.testBit_lt_two_pow h]
  · simp [hj]
theorem nat_xor_top' (c : Nat) (h : c < 2 ^ 63) : (c + 2 ^ 63) ^^^ 2 ^ 63 = c := by
  rw [← nat_xor_top c h, Nat.xor_assoc, Nat.xor_self, Nat.xor_zero]
theorem xor_sign (b : Int) (h0 : 0 ≤ b) (h1 : b < 18446744073709551616) : bits .xor .u64 b 9223372036854775808 = (b + 9223372036854775808) % 18446744073709551616 := by
  rw [u64_xor b _ h0 h1 (by decide) (by decide)]
  simp only [show (9223372036854775808 : Int).toNat = 2 ^ 63 from rfl]
  by_cases h : b < 9223372036854775808
  · rw [nat_xor_top b.toNat (by omega)]
    omega
  · obtain ⟨c, hc⟩ : ∃ c : Nat, b.toNat = c + 2 ^ 63 := ⟨b.toNat - 2 ^ 63, by omega⟩
    rw [hc, nat_xor_top' c (by omega)]
    omega
theorem andNot_sign (b : Int) (h0 : 0 ≤ b) (h1 : b < 18446744073709551616) : bits .andNot .u64 b 9223372036854775808 = b % 9223372036854775808 := by
  rw [u64_andNot b _ h0 h1 (by decide) (by decide)]
  have := nat_mask63 b.toNat
  simp only [show (18446744073709551615 - (9223372036854775808 : Int).toNat) = 9223372036854775807 from rfl]
  rw [this]
  omega

/-- What a pattern stands for: 1 zero, 2 below the normal ones, 3 normal, 4 infinity, 5 no number. -/
def wKind (b : Int) : Int :=
  if b / 4503599627370496 % 2048 = 0 then (if b % 4503599627370496 = 0 then 1 else 2)
  else if b / 4503599627370496 % 2048 < 2047 then 3
  else if b % 4503599627370496 = 0 then 4 else 5
def wFlip (b : Int) : Int := (b + 9223372036854775808) % 18446744073709551616
def wMant (b : Int) : Int :=
  if wKind b = 3 then 4503599627370496 + b % 4503599627370496 else if wKind b = 2 then b % 4503599627370496 else 0
def wPow (b : Int) : Int :=
  if wKind b = 3 then b / 4503599627370496 % 2048 - 1075 else if wKind b = 2 then -1074 else 0

/-- The pattern of a sign, an exponent's lowest 11 bits and a fraction's lowest 52. -/
def wMake (n : Bool) (x b : Int) : Int := (if n then 9223372036854775808 else 0) + x % 2048 * 4503599627370496 + b % 4503599627370496
theorem wFlip_bd (b : Int) : 0 ≤ wFlip b ∧ wFlip b < 18446744073709551616 := by
  unfold wFlip; omega
theorem wKind_nan (b : Int) : wKind b = 5 ↔ 9218868437227405312 < b % 9223372036854775808 := by
  unfold wKind; repeat' split
  all_goals omega
theorem wKind_zero (b : Int) : wKind b = 1 ↔ b % 9223372036854775808 = 0 := by
  unfold wKind; repeat' split
  all_goals omega
end Go.Proofs.YtpakpgjbgehhjaaGreat

/-
  What the parts of a pattern tell of what it stands for (plain mathematics, no program in sight).
-/
namespace Go.Proofs.YtpakpgjbgehhjaaGreat
set_option linter.unusedVariables false

/-- A pattern without its sign. -/
def mag (b : Int) : Nat := (b % 9223372036854775808).toNat
theorem parts_bd (b : Int) : 0 ≤ wMant b ∧ wMant b < 9007199254740992 ∧ -1074 ≤ wPow b ∧ wPow b ≤ 971 := by
  unfold wMant wPow wKind
  repeat' split
  all_goals omega
theorem fin_mag (b : Int) : (b / 4503599627370496 % 2048 < 2047) ↔ mag b < 9218868437227405312 := by unfold mag; omega
theorem parts_V (b : Int) (hf : mag b < 9218868437227405312) : V (mag b) = (wMant b).toNat * 2 ^ (wPow b + 1074).toNat := by
  unfold mag at *
  have hk : wKind b = 1 ∨ wKind b = 2 ∨ wKind b = 3 := by
    unfold wKind; repeat' split
    all_goals omega
  rcases hk with hk | hk | hk
  · have := (wKind_zero b).1 hk
    unfold wMant
    rw [hk, if_neg (by decide), if_neg (by decide), this]
    exact V_zero.trans (Nat.zero_mul _).symm
  · have h2 : b / 4503599627370496 % 2048 = 0 ∧ b % 4503599627370496 ≠ 0 := by
      unfold wKind at hk; repeat' split at hk
      all_goals omega
    unfold wMant wPow
    rw [hk, if_neg (by decide), if_pos rfl, if_neg (by decide), if_pos rfl, show ((-1074 : Int) + 1074).toNat = 0 from rfl, Nat.pow_zero, Nat.mul_one]
    unfold V
    rw [if_pos (by omega)]
    omega
  · have h2 : b / 4503599627370496 % 2048 ≠ 0 ∧ b / 4503599627370496 % 2048 < 2047 := by
      unfold wKind at hk; repeat' split at hk
      all_goals omega
    unfold wMant wPow
    rw [hk, if_pos rfl, if_pos rfl]
    unfold V
    rw [if_neg (by omega)]
    congr 1
    · omega
    · congr 1
      omega
theorem num_V (p : Nat) (hp : p < 9218868437227405312) : numP (V p) (-1074) = p ∧ flagP (V p) (-1074) = 0 := by
  unfold numP flagP
  rw [patP_V, if_neg (by omega)]
  refine ⟨by omega, ?_⟩
  rcases lostP_V p with h | h
  · rw [h, if_neg (by simp)]
  · rw [h, if_neg (by simp)]
theorem whole_sign (b : Int) (h0 : 0 ≤ b) (h1 : b < 18446744073709551616) : b = sgnB (decide (9223372036854775808 ≤ b)) + (mag b : Int) := by
  unfold sgnB mag
  by_cases h : 9223372036854775808 ≤ b
  · rw [decide_eq_true h, if_pos rfl]; omega
  · rw [decide_eq_false h, if_neg (by decide)]; omega
theorem and_63_i (n : Int) : bits .and .i64 n 63 = n % 64 := by
  have h127 : (BitVec.ofInt 64 63).toNat = 2 ^ 6 - 1 := by decide
  have key : (BitVec.ofInt 64 n &&& BitVec.ofInt 64 63).toNat = (n % ((2 ^ 64 : Nat) : Int)).toNat % 2 ^ 6 := by
    rw [BitVec.toNat_and, BitVec.toNat_ofInt, h127, Nat.and_two_pow_sub_one_eq_mod]
  show IntKind.i64.wrap ((BitVec.ofInt 64 n &&& BitVec.ofInt 64 63).toNat : Nat) = n % 64
  rw [key, IntKind.wrap_i64]
  omega
end Go.Proofs.YtpakpgjbgehhjaaGreat

/-
  Sums, products and quotients of patterns, as the document defines them (plain mathematics, no program in sight), and how the program lays them.
-/
namespace Go.Proofs.YtpakpgjbgehhjaaGreat
set_option linter.unusedVariables false

def sgn (b : Int) : Bool := decide (9223372036854775808 ≤ b)
/-- What a pattern stands for, times 2^1074. -/
def sv (b : Int) : Int := if sgn b then -((V (mag b) : Nat) : Int) else ((V (mag b) : Nat) : Int)
def sigs (b : Int) : Bool := decide (wKind b = 5 ∧ b / 2251799813685248 % 2 = 0)
def nanF (a b : Int) : Int := if sigs a || sigs b then 16 else 0
def isNan (b : Int) : Bool := decide (9218868437227405312 < mag b)
def isInf (b : Int) : Bool := decide (mag b = 9218868437227405312)
def isZ (b : Int) : Bool := decide (mag b = 0)
/-- A number with its sign, rounded. -/
def rndS (s : Int) : Int × Int := (sgnB (decide (s < 0)) + ((numP s.natAbs (-1074) : Nat) : Int), ((flagP s.natAbs (-1074) : Nat) : Int))
def addS (a b : Int) : Int × Int :=
  if isNan a || isNan b then (9221120237041090560, nanF a b)
  else if isInf a && isInf b && decide (a ≠ b) then (9221120237041090560, 16)
  else if isInf a then (a, 0)
  else if isInf b then (b, 0)
  else if isZ a && isZ b then (sgnB (sgn a && sgn b), 0)
  else rndS (sv a + sv b)
def mulS (a b : Int) : Int × Int :=
  if isNan a || isNan b then (9221120237041090560, nanF a b)
  else if (isInf a && isZ b) || (isZ a && isInf b) then (9221120237041090560, 16)
  else if isInf a || isInf b then (sgnB (sgn a != sgn b) + 9218868437227405312, 0)
  else (sgnB (sgn a != sgn b) + ((numP (V (mag a) * V (mag b)) (-2148) : Nat) : Int), ((flagP (V (mag a) * V (mag b)) (-2148) : Nat) : Int))
def jj : Nat := 3000
theorem jj_is : (jj : Int) = 3000 := rfl
/-- The quotient of two numbers, with 3000 bits more than it needs. -/
def quoN (x y : Nat) : Nat := numM (x * 2 ^ jj / y) (-(jj : Int)) (decide (x * 2 ^ jj % y ≠ 0))
def quoF (x y : Nat) : Nat := flagM (x * 2 ^ jj / y) (-(jj : Int)) (decide (x * 2 ^ jj % y ≠ 0))
def divS (a b : Int) : Int × Int :=
  if isNan a || isNan b then (9221120237041090560, nanF a b)
  else if (isInf a && isInf b) || (isZ a && isZ b) then (9221120237041090560, 16)
  else if isInf a then (sgnB (sgn a != sgn b) + 9218868437227405312, 0)
  else if isInf b || isZ a then (sgnB (sgn a != sgn b), 0)
  else if isZ b then (sgnB (sgn a != sgn b) + 9218868437227405312, 8)
  else (sgnB (sgn a != sgn b) + ((quoN (V (mag a)) (V (mag b)) : Nat) : Int), ((quoF (V (mag a)) (V (mag b)) : Nat) : Int))

theorem numP_le (x : Nat) (e : Int) : numP x e ≤ 9218868437227405312 := by unfold numP; omega
theorem flagP_le (x : Nat) (e : Int) : flagP x e ≤ 5 := by
  unfold flagP; repeat' split
  all_goals omega
theorem sgnB_le (n : Bool) : 0 ≤ sgnB n ∧ sgnB n ≤ 9223372036854775808 := by cases n <;> simp [sgnB]
theorem nanF_cases (a b : Int) : nanF a b = 0 ∨ nanF a b = 16 := by unfold nanF; split <;> omega
theorem rndS_bd (s : Int) : 0 ≤ (rndS s).1 ∧ (rndS s).1 < 18446744073709551616 ∧ 0 ≤ (rndS s).2 ∧ (rndS s).2 ≤ 31 := by
  have h1 := numP_le s.natAbs (-1074)
  have h2 := flagP_le s.natAbs (-1074)
  have h3 := sgnB_le (decide (s < 0))
  unfold rndS
  refine ⟨?_, ?_, ?_, ?_⟩ <;> simp only <;> omega
theorem addS_bd (a b : Int) (h0 : 0 ≤ a) (h1 : a < 18446744073709551616) (g0 : 0 ≤ b) (g1 : b < 18446744073709551616) : 0 ≤ (addS a b).1 ∧ (addS a b).1 < 18446744073709551616 ∧ 0 ≤ (addS a b).2 ∧ (addS a b).2 ≤ 31 := by
  have hn := nanF_cases a b
  have hs := sgnB_le (sgn a && sgn b)
  have hr := rndS_bd (sv a + sv b)
  unfold addS
  repeat' split
  all_goals first | exact hr | (refine ⟨?_, ?_, ?_, ?_⟩ <;> simp only <;> omega)
theorem mulS_bd (a b : Int) : 0 ≤ (mulS a b).1 ∧ (mulS a b).1 < 18446744073709551616 ∧ 0 ≤ (mulS a b).2 ∧ (mulS a b).2 ≤ 31 := by
  have hn := nanF_cases a b
  have hs := sgnB_le (sgn a != sgn b)
  have h1 := numP_le (V (mag a) * V (mag b)) (-2148)
  have h2 := flagP_le (V (mag a) * V (mag b)) (-2148)
  unfold mulS
  repeat' split
  all_goals (refine ⟨?_, ?_, ?_, ?_⟩ <;> simp only <;> omega)
theorem numM_le (x : Nat) (e : Int) (m : Bool) : numM x e m ≤ 9218868437227405312 := by unfold numM; exact numP_le _ _
theorem flagM_le (x : Nat) (e : Int) (m : Bool) : flagM x e m ≤ 5 := by unfold flagM; exact flagP_le _ _
theorem divS_bd (a b : Int) : 0 ≤ (divS a b).1 ∧ (divS a b).1 < 18446744073709551616 ∧ 0 ≤ (divS a b).2 ∧ (divS a b).2 ≤ 31 := by
  have hn := nanF_cases a b
  have hs := sgnB_le (sgn a != sgn b)
  have h1 : quoN (V (mag a)) (V (mag b)) ≤ 9218868437227405312 := by unfold quoN; exact numM_le _ _ _
  have h2 : quoF (V (mag a)) (V (mag b)) ≤ 5 := by unfold quoF; exact flagM_le _ _ _
  unfold divS
  repeat' split
  all_goals (refine ⟨?_, ?_, ?_, ?_⟩ <;> simp only <;> omega)

/-- Bits beneath, told as a little more: of the program's rounding. -/
theorem shift_num (N d : Nat) (E : Int) (hbig : N % 2 ^ d ≠ 0 → 18014398509481984 ≤ N / 2 ^ d) :
    numR (N / 2 ^ d) E (decide (N % 2 ^ d ≠ 0)) = numP N (E - d) ∧ flagR (N / 2 ^ d) E (decide (N % 2 ^ d ≠ 0)) = flagP N (E - d) := by
  by_cases h : N % 2 ^ d = 0
  · have hN := Nat.div_add_mod N (2 ^ d)
    rw [h, Nat.add_zero, Nat.mul_comm] at hN
    rw [show decide (N % 2 ^ d ≠ 0) = false from decide_eq_false (fun k => k h), (numR_false _ _).1, (numR_false _ _).2]
    have a := numP_scale (N / 2 ^ d) (E - d) d
    have b := flagP_scale (N / 2 ^ d) (E - d) d
    rw [hN, Int.sub_add_cancel] at a b
    exact ⟨a.symm, b.symm⟩
  · have hb := hbig h
    have hlen : 54 < (bl (N / 2 ^ d)).length := (bl_length_lt _ 54).2 hb
    have hL : E < lastP (N / 2 ^ d) E := by unfold lastP; omega
    have m := more_shift N d E (by omega) hL
    rw [(numR_more _ E _ (by omega) hL).1, (numR_more _ E _ (by omega) hL).2]
    exact m
theorem lay_num (M : Nat) (e : Int) (he : -1074 ≤ e) : numP (M * 2 ^ (e + 1074).toNat) (-1074) = numP M e ∧ flagP (M * 2 ^ (e + 1074).toNat) (-1074) = flagP M e := by
  rw [numP_scale, flagP_scale, show (-1074 : Int) + ((e + 1074).toNat : Int) = e by omega]
  exact ⟨rfl, rfl⟩
theorem lay_64 (M : Nat) (e : Int) : numP (M * 2 ^ 64) (e - 64) = numP M e ∧ flagP (M * 2 ^ 64) (e - 64) = flagP M e := by
  rw [numP_scale, flagP_scale, show e - 64 + ((64 : Nat) : Int) = e by omega]
  exact ⟨rfl, rfl⟩
theorem lost_deep (P d : Nat) (h : P * 2 ^ 64 % 2 ^ d ≠ 0) : 64 < d := by
  rcases Nat.lt_or_ge 64 d with g | g
  · exact g
  · exfalso
    apply h
    obtain ⟨k, hk⟩ : ∃ k, 64 = d + k := ⟨64 - d, by omega⟩
    rw [hk, Nat.pow_add, ← Nat.mul_assoc, Nat.mul_comm P, Nat.mul_assoc]
    exact Nat.mul_mod_right _ _
theorem add_lay (W P : Nat) (e1 e2 : Int) (h1 : -1074 ≤ e1) (h2 : -1074 ≤ e2) (hP : P = 0 ∨ (e2 ≤ e1 ∧ (e1 = e2 ∨ 4503599627370496 ≤ W))) :
    numR (W * 2 ^ 64 + P * 2 ^ 64 / 2 ^ (e1 - e2).toNat) (e1 - 64) (decide (P * 2 ^ 64 % 2 ^ (e1 - e2).toNat ≠ 0)) = numP (W * 2 ^ (e1 + 1074).toNat + P * 2 ^ (e2 + 1074).toNat) (-1074)
    ∧ flagR (W * 2 ^ 64 + P * 2 ^ 64 / 2 ^ (e1 - e2).toNat) (e1 - 64) (decide (P * 2 ^ 64 % 2 ^ (e1 - e2).toNat ≠ 0)) = flagP (W * 2 ^ (e1 + 1074).toNat + P * 2 ^ (e2 + 1074).toNat) (-1074) := by
  rcases hP with rfl | ⟨he, hW⟩
  · rw [Nat.zero_mul, Nat.zero_div, Nat.zero_mod, Nat.zero_mul, Nat.add_zero, Nat.add_zero, show decide ((0 : Nat) ≠ 0) = false from rfl, (numR_false _ _).1, (numR_false _ _).2, (lay_64 W e1).1, (lay_64 W e1).2, (lay_num W e1 h1).1, (lay_num W e1 h1).2]
    exact ⟨rfl, rfl⟩
  · obtain ⟨d, hd⟩ : ∃ d : Nat, (e1 - e2).toNat = d := ⟨_, rfl⟩
    rw [hd]
    have hp := Nat.two_pow_pos d
    have hN : (W * 2 ^ d + P) * 2 ^ 64 = P * 2 ^ 64 + 2 ^ d * (W * 2 ^ 64) := by rw [Nat.add_mul, Nat.mul_comm W, Nat.mul_assoc, Nat.add_comm]
    have q1 : (W * 2 ^ d + P) * 2 ^ 64 / 2 ^ d = W * 2 ^ 64 + P * 2 ^ 64 / 2 ^ d := by rw [hN, Nat.add_mul_div_left _ _ hp, Nat.add_comm]
    have q2 : (W * 2 ^ d + P) * 2 ^ 64 % 2 ^ d = P * 2 ^ 64 % 2 ^ d := by rw [hN, Nat.add_mul_mod_self_left]
    have s := shift_num ((W * 2 ^ d + P) * 2 ^ 64) d (e1 - 64) (by
      intro hl
      rw [q2] at hl
      have := lost_deep P d hl
      have hW2 : 4503599627370496 ≤ W := by omega
      rw [q1]
      exact Nat.le_trans (Nat.le_trans (by decide) (Nat.mul_le_mul_right (2 ^ 64) hW2)) (Nat.le_add_right _ _))
    rw [q1, q2, show e1 - 64 - (d : Int) = e2 - 64 by omega, (lay_64 _ e2).1, (lay_64 _ e2).2, ← (lay_num _ e2 h2).1, ← (lay_num _ e2 h2).2] at s
    rw [s.1, s.2, Nat.add_mul, Nat.mul_assoc, ← Nat.pow_add, show d + (e2 + 1074).toNat = (e1 + 1074).toNat by omega]
    exact ⟨rfl, rfl⟩
theorem sub_lay (W P : Nat) (e1 e2 : Int) (h1 : -1074 ≤ e1) (h2 : -1074 ≤ e2) (hPl : P < 9007199254740992) (hP : P = 0 ∨ (e2 ≤ e1 ∧ (e1 = e2 ∨ 4503599627370496 ≤ W))) (hle : P * 2 ^ (e2 + 1074).toNat ≤ W * 2 ^ (e1 + 1074).toNat) :
    (P * 2 ^ 64 / 2 ^ (e1 - e2).toNat + (decide (P * 2 ^ 64 % 2 ^ (e1 - e2).toNat ≠ 0)).toNat ≤ W * 2 ^ 64)
    ∧ (W * 2 ^ 64 - (P * 2 ^ 64 / 2 ^ (e1 - e2).toNat + (decide (P * 2 ^ 64 % 2 ^ (e1 - e2).toNat ≠ 0)).toNat) = 0 ↔ W * 2 ^ (e1 + 1074).toNat = P * 2 ^ (e2 + 1074).toNat)
    ∧ numR (W * 2 ^ 64 - (P * 2 ^ 64 / 2 ^ (e1 - e2).toNat + (decide (P * 2 ^ 64 % 2 ^ (e1 - e2).toNat ≠ 0)).toNat)) (e1 - 64) (decide (P * 2 ^ 64 % 2 ^ (e1 - e2).toNat ≠ 0)) = numP (W * 2 ^ (e1 + 1074).toNat - P * 2 ^ (e2 + 1074).toNat) (-1074)
    ∧ flagR (W * 2 ^ 64 - (P * 2 ^ 64 / 2 ^ (e1 - e2).toNat + (decide (P * 2 ^ 64 % 2 ^ (e1 - e2).toNat ≠ 0)).toNat)) (e1 - 64) (decide (P * 2 ^ 64 % 2 ^ (e1 - e2).toNat ≠ 0)) = flagP (W * 2 ^ (e1 + 1074).toNat - P * 2 ^ (e2 + 1074).toNat) (-1074) := by
  rcases hP with rfl | ⟨he, hW⟩
  · have hp1 := Nat.two_pow_pos (e1 + 1074).toNat
    rw [Nat.zero_mul, Nat.zero_div, Nat.zero_mod, Nat.zero_mul, show decide ((0 : Nat) ≠ 0) = false from rfl, show (false : Bool).toNat = 0 from rfl, Nat.add_zero, Nat.sub_zero, Nat.sub_zero, (numR_false _ _).1, (numR_false _ _).2, (lay_64 W e1).1, (lay_64 W e1).2, (lay_num W e1 h1).1, (lay_num W e1 h1).2]
    refine ⟨Nat.zero_le _, ?_, rfl, rfl⟩
    rw [Nat.mul_eq_zero, Nat.mul_eq_zero]
    omega
  · obtain ⟨d, hd⟩ : ∃ d : Nat, (e1 - e2).toNat = d := ⟨_, rfl⟩
    rw [hd]
    have hp := Nat.two_pow_pos d
    have hg := Nat.two_pow_pos (e2 + 1074).toNat
    have e12 : W * 2 ^ (e1 + 1074).toNat = W * 2 ^ d * 2 ^ (e2 + 1074).toNat := by
      rw [Nat.mul_assoc, ← Nat.pow_add, show d + (e2 + 1074).toNat = (e1 + 1074).toNat by omega]
    rw [e12] at hle ⊢
    have hle2 : P ≤ W * 2 ^ d := Nat.le_of_mul_le_mul_right hle hg
    have hle3 : P * 2 ^ 64 ≤ W * 2 ^ 64 * 2 ^ d := by
      rw [Nat.mul_assoc, Nat.mul_comm (2 ^ 64), ← Nat.mul_assoc]
      exact Nat.mul_le_mul_right _ hle2
    obtain ⟨f1, f2⟩ := sub_floor (W * 2 ^ 64) (P * 2 ^ 64) d hle3
    have hN : W * 2 ^ 64 * 2 ^ d - P * 2 ^ 64 = (W * 2 ^ d - P) * 2 ^ 64 := by
      rw [Nat.sub_mul, Nat.mul_assoc, Nat.mul_comm (2 ^ 64), ← Nat.mul_assoc]
    rw [hN] at f1 f2
    have hbound : P * 2 ^ 64 / 2 ^ d + (decide (P * 2 ^ 64 % 2 ^ d ≠ 0)).toNat ≤ W * 2 ^ 64 := by
      by_cases hl : P * 2 ^ 64 % 2 ^ d = 0
      · rw [decide_eq_false (fun k => k hl), show (false : Bool).toNat = 0 from rfl, Nat.add_zero]
        exact Nat.div_le_of_le_mul (by rw [Nat.mul_comm (2 ^ d)]; exact hle3)
      · rw [decide_eq_true hl, show (true : Bool).toNat = 1 from rfl]
        have : P * 2 ^ 64 / 2 ^ d < W * 2 ^ 64 := by
          rw [Nat.div_lt_iff_lt_mul hp]
          rcases Nat.lt_or_eq_of_le hle3 with g | g
          · exact g
          · exfalso; apply hl; rw [g]; exact Nat.mul_mod_left _ _
        omega
    have hx : W * 2 ^ 64 - (P * 2 ^ 64 / 2 ^ d + (decide (P * 2 ^ 64 % 2 ^ d ≠ 0)).toNat) = (W * 2 ^ d - P) * 2 ^ 64 / 2 ^ d := by rw [f1, Nat.sub_sub]
    have hdec : decide (P * 2 ^ 64 % 2 ^ d ≠ 0) = decide ((W * 2 ^ d - P) * 2 ^ 64 % 2 ^ d ≠ 0) := by rw [decide_eq_decide]; exact f2.symm
    have big : (W * 2 ^ d - P) * 2 ^ 64 % 2 ^ d ≠ 0 → 18014398509481984 ≤ (W * 2 ^ d - P) * 2 ^ 64 / 2 ^ d := by
      intro hl
      have hd64 := lost_deep P d (f2.1 hl)
      have hW2 : 4503599627370496 ≤ W := by omega
      rw [f1]
      have t : (decide (P * 2 ^ 64 % 2 ^ d ≠ 0)).toNat ≤ 1 := Bool.toNat_le _
      have u : P * 2 ^ 64 / 2 ^ d ≤ P := by
        refine Nat.div_le_of_le_mul ?_
        rw [Nat.mul_comm]
        exact Nat.mul_le_mul_right _ (Nat.pow_le_pow_right (by decide) (by omega))
      have v : 4503599627370496 * 2 ^ 64 ≤ W * 2 ^ 64 := Nat.mul_le_mul_right _ hW2
      rw [show 4503599627370496 * 2 ^ 64 = 83076749736557242056487941267521536 by decide] at v
      omega
    have s := shift_num ((W * 2 ^ d - P) * 2 ^ 64) d (e1 - 64) big
    rw [show e1 - 64 - (d : Int) = e2 - 64 by omega, (lay_64 _ e2).1, (lay_64 _ e2).2, ← (lay_num _ e2 h2).1, ← (lay_num _ e2 h2).2] at s
    refine ⟨hbound, ?_, ?_, ?_⟩
    · rw [hx]
      constructor
      · intro hz
        by_cases hl : (W * 2 ^ d - P) * 2 ^ 64 % 2 ^ d = 0
        · have := Nat.div_add_mod ((W * 2 ^ d - P) * 2 ^ 64) (2 ^ d)
          rw [hz, hl, Nat.mul_zero, Nat.add_zero] at this
          have h0 := Nat.mul_eq_zero.1 this.symm
          have : W * 2 ^ d = P := by
            rcases h0 with h0 | h0
            · omega
            · exact absurd h0 (by decide)
          rw [this]
        · have := big hl; omega
      · intro hz
        have : W * 2 ^ d = P := Nat.eq_of_mul_eq_mul_right hg hz
        rw [this, Nat.sub_self, Nat.zero_mul, Nat.zero_div]
    · rw [hx, hdec, s.1, Nat.sub_mul]
    · rw [hx, hdec, s.2, Nat.sub_mul]
theorem mul_lay (x y : Nat) (e g : Int) (he : -1074 ≤ e) (hg : -1074 ≤ g) : numP (x * 2 ^ (e + 1074).toNat * (y * 2 ^ (g + 1074).toNat)) (-2148) = numP (x * y) (e + g) ∧ flagP (x * 2 ^ (e + 1074).toNat * (y * 2 ^ (g + 1074).toNat)) (-2148) = flagP (x * y) (e + g) := by
  have h : x * 2 ^ (e + 1074).toNat * (y * 2 ^ (g + 1074).toNat) = x * y * 2 ^ ((e + 1074).toNat + (g + 1074).toNat) := by
    rw [Nat.pow_add]; grind
  rw [h, numP_scale, flagP_scale, show (-2148 : Int) + (((e + 1074).toNat + (g + 1074).toNat : Nat) : Int) = e + g by omega]
  exact ⟨rfl, rfl⟩
/-- However numbers are laid, with enough bits their quotient is rounded alike. -/
theorem quo_lay (x y e g s t : Nat) (E : Int) (hx : 0 < x) (hy : 0 < y) (hq : 18014398509481984 ≤ x * 2 ^ s / (y * 2 ^ t)) (hE : E = (e : Int) - g - s + t) (he : e ≤ 2500) (hg : g ≤ 2500) (hs : s ≤ 400) :
    numM (x * 2 ^ s / (y * 2 ^ t)) E (decide (x * 2 ^ s % (y * 2 ^ t) ≠ 0)) = quoN (x * 2 ^ e) (y * 2 ^ g) ∧ flagM (x * 2 ^ s / (y * 2 ^ t)) E (decide (x * 2 ^ s % (y * 2 ^ t) ≠ 0)) = quoF (x * 2 ^ e) (y * 2 ^ g) := by
  have hjj := jj_is
  have hlen : 54 < (bl (x * 2 ^ s / (y * 2 ^ t))).length := (bl_length_lt _ 54).2 hq
  have hL : E < lastP (x * 2 ^ s / (y * 2 ^ t)) E := by unfold lastP; omega
  have hyt : 0 < y * 2 ^ t := Nat.mul_pos hy (Nat.two_pow_pos t)
  obtain ⟨j, hj⟩ : ∃ j : Nat, j + s + g = e + jj + t := ⟨e + jj + t - s - g, by omega⟩
  obtain ⟨k, hk⟩ : ∃ k : Nat, k + g = e + jj := ⟨e + jj - g, by omega⟩
  have m := more_div (x * 2 ^ s) (y * 2 ^ t) j E hyt (by omega) hL
  have e1 : x * 2 ^ s * 2 ^ j = x * 2 ^ k * 2 ^ t := by
    rw [Nat.mul_assoc, ← Nat.pow_add, Nat.mul_assoc, ← Nat.pow_add, show s + j = k + t by omega]
  have e2 : x * 2 ^ e * 2 ^ jj = x * 2 ^ k * 2 ^ g := by
    rw [Nat.mul_assoc, ← Nat.pow_add, Nat.mul_assoc, ← Nat.pow_add, show e + jj = k + g by omega]
  have c : ∀ u : Nat, (x * 2 ^ k * 2 ^ u % (y * 2 ^ u) ≠ 0) ↔ (x * 2 ^ k % y ≠ 0) := by
    intro u
    rw [Nat.mul_mod_mul_right, ne_eq, Nat.mul_eq_zero]
    have := Nat.two_pow_pos u
    omega
  rw [e1, Nat.mul_div_mul_right _ _ (Nat.two_pow_pos t), show decide (x * 2 ^ k * 2 ^ t % (y * 2 ^ t) ≠ 0) = decide (x * 2 ^ k % y ≠ 0) by rw [decide_eq_decide]; exact c t, show E - (j : Int) = -(jj : Int) by omega] at m
  unfold quoN quoF
  rw [e2, Nat.mul_div_mul_right _ _ (Nat.two_pow_pos g), show decide (x * 2 ^ k * 2 ^ g % (y * 2 ^ g) ≠ 0) = decide (x * 2 ^ k % y ≠ 0) by rw [decide_eq_decide]; exact c g]
  exact m
theorem pow_order (g s : Int) (hg : mag g < 9218868437227405312) (hs : mag s ≤ mag g) (hz : mag s ≠ 0) : wPow s ≤ wPow g ∧ (wPow g = wPow s ∨ 4503599627370496 ≤ (wMant g).toNat) := by
  unfold mag at *
  unfold wPow wMant wKind
  repeat' split
  all_goals omega
theorem mant_zero (b : Int) (hf : mag b < 9218868437227405312) : wMant b = 0 ↔ mag b = 0 := by
  unfold mag at *
  unfold wMant wKind
  repeat' split
  all_goals omega
end Go.Proofs.YtpakpgjbgehhjaaGreat

/-
  Sums with signs, rounded; what a pattern is not (plain mathematics, no program in sight).
-/
namespace Go.Proofs.YtpakpgjbgehhjaaGreat
set_option linter.unusedVariables false

theorem rnd_same (g s : Int) (hs : sgn g = sgn s) (hp : 0 < V (mag g)) : rndS (sv g + sv s) = (sgnB (sgn g) + ((numP (V (mag g) + V (mag s)) (-1074) : Nat) : Int), ((flagP (V (mag g) + V (mag s)) (-1074) : Nat) : Int)) := by
  unfold rndS sv
  rw [← hs]
  cases sgn g
  · have h1 : ((if false = true then -((V (mag g) : Nat) : Int) else ((V (mag g) : Nat) : Int)) + (if false = true then -((V (mag s) : Nat) : Int) else ((V (mag s) : Nat) : Int))) = ((V (mag g) + V (mag s) : Nat) : Int) := by simp
    rw [h1, decide_eq_false (by omega), Int.natAbs_natCast]
  · have h1 : ((if true = true then -((V (mag g) : Nat) : Int) else ((V (mag g) : Nat) : Int)) + (if true = true then -((V (mag s) : Nat) : Int) else ((V (mag s) : Nat) : Int))) = -((V (mag g) + V (mag s) : Nat) : Int) := by simp; omega
    rw [h1, decide_eq_true (by omega), Int.natAbs_neg, Int.natAbs_natCast]
theorem rnd_diff (g s : Int) (hs : sgn g ≠ sgn s) (hle : V (mag s) ≤ V (mag g)) : rndS (sv g + sv s) = (sgnB (sgn g && decide (V (mag g) ≠ V (mag s))) + ((numP (V (mag g) - V (mag s)) (-1074) : Nat) : Int), ((flagP (V (mag g) - V (mag s)) (-1074) : Nat) : Int)) := by
  unfold rndS sv
  have hs2 : sgn s = !sgn g := by revert hs; cases sgn g <;> cases sgn s <;> simp
  rw [hs2]
  cases sgn g
  · have h1 : ((if false = true then -((V (mag g) : Nat) : Int) else ((V (mag g) : Nat) : Int)) + (if (!false) = true then -((V (mag s) : Nat) : Int) else ((V (mag s) : Nat) : Int))) = ((V (mag g) - V (mag s) : Nat) : Int) := by simp; omega
    rw [h1, decide_eq_false (by omega), Int.natAbs_natCast]
    rfl
  · have h1 : ((if true = true then -((V (mag g) : Nat) : Int) else ((V (mag g) : Nat) : Int)) + (if (!true) = true then -((V (mag s) : Nat) : Int) else ((V (mag s) : Nat) : Int))) = -((V (mag g) - V (mag s) : Nat) : Int) := by simp; omega
    rw [h1, Int.natAbs_neg, Int.natAbs_natCast, Bool.true_and, show decide (-((V (mag g) - V (mag s) : Nat) : Int) < 0) = decide (V (mag g) ≠ V (mag s)) by rw [decide_eq_decide]; omega]
theorem mag_fin (b : Int) (h : isNan b = false) (g : isInf b = false) : mag b < 9218868437227405312 := by
  unfold isNan at h
  unfold isInf at g
  rw [decide_eq_false_iff_not] at h g
  omega
theorem inf_not_z (b : Int) (h : isInf b = true) : isZ b = false := by
  unfold isInf at h
  unfold isZ
  rw [decide_eq_true_eq] at h
  rw [decide_eq_false_iff_not]
  omega
theorem zero_two (a : Int) (h0 : 0 ≤ a) (h1 : a < 18446744073709551616) (h : isZ a = true) : a = 0 ∨ a = 9223372036854775808 := by
  unfold isZ mag at h
  rw [decide_eq_true_eq] at h
  omega
theorem sv_comm (a b : Int) : rndS (sv a + sv b) = rndS (sv b + sv a) := by rw [Int.add_comm]
end Go.Proofs.YtpakpgjbgehhjaaGreat

/-
  What sums, products and quotients of patterns keep to (plain mathematics, no program in sight): order, ones, noughts, signs, exact differences.
-/
namespace Go.Proofs.YtpakpgjbgehhjaaGreat
set_option linter.unusedVariables false

theorem flip_mag (b : Int) (h0 : 0 ≤ b) (h1 : b < 18446744073709551616) : mag (wFlip b) = mag b := by unfold mag wFlip; omega
theorem flip_sgn (b : Int) (h0 : 0 ≤ b) (h1 : b < 18446744073709551616) : sgn (wFlip b) = !sgn b := by
  unfold sgn wFlip
  rw [Bool.eq_iff_iff]
  simp only [Bool.not_eq_true', decide_eq_true_eq, decide_eq_false_iff_not]
  omega
theorem flip_sv (b : Int) (h0 : 0 ≤ b) (h1 : b < 18446744073709551616) : sv (wFlip b) = - sv b := by
  unfold sv
  rw [flip_mag b h0 h1, flip_sgn b h0 h1]
  cases sgn b <;> simp
theorem sgn_mag (n : Bool) (N : Nat) (h : N < 9223372036854775808) : mag (sgnB n + (N : Int)) = N ∧ sgn (sgnB n + (N : Int)) = n ∧ 0 ≤ sgnB n + (N : Int) ∧ sgnB n + (N : Int) < 18446744073709551616 := by
  unfold mag sgn sgnB
  cases n
  · refine ⟨?_, decide_eq_false ?_, ?_, ?_⟩ <;> simp <;> omega
  · refine ⟨?_, decide_eq_true ?_, ?_, ?_⟩ <;> simp <;> omega
theorem whole (b : Int) (h0 : 0 ≤ b) (h1 : b < 18446744073709551616) : b = sgnB (sgn b) + (mag b : Int) := whole_sign b h0 h1
theorem sv_abs (b : Int) : (sv b).natAbs = V (mag b) := by unfold sv; cases sgn b <;> simp
theorem fin_facts (b : Int) (h : mag b < 9218868437227405312) : isNan b = false ∧ isInf b = false := by
  unfold isNan isInf
  exact ⟨decide_eq_false (by omega), decide_eq_false (by omega)⟩
theorem addS_fin (a b : Int) (ha : mag a < 9218868437227405312) (hb : mag b < 9218868437227405312) : addS a b = if isZ a && isZ b then (sgnB (sgn a && sgn b), 0) else rndS (sv a + sv b) := by
  obtain ⟨n1, i1⟩ := fin_facts a ha
  obtain ⟨n2, i2⟩ := fin_facts b hb
  unfold addS
  rw [n1, n2, i1, i2, if_neg (by simp), if_neg (by simp), if_neg (by simp), if_neg (by simp)]
theorem mulS_fin (a b : Int) (ha : mag a < 9218868437227405312) (hb : mag b < 9218868437227405312) : mulS a b = (sgnB (sgn a != sgn b) + ((numP (V (mag a) * V (mag b)) (-2148) : Nat) : Int), ((flagP (V (mag a) * V (mag b)) (-2148) : Nat) : Int)) := by
  obtain ⟨n1, i1⟩ := fin_facts a ha
  obtain ⟨n2, i2⟩ := fin_facts b hb
  unfold mulS
  rw [n1, n2, i1, i2, if_neg (by simp), if_neg (by simp), if_neg (by simp)]
theorem z_iff (b : Int) : isZ b = true ↔ mag b = 0 := by unfold isZ; rw [decide_eq_true_eq]
theorem z_not (b : Int) : isZ b = false ↔ mag b ≠ 0 := by unfold isZ; rw [decide_eq_false_iff_not]
theorem sv_zero (b : Int) (h : mag b = 0) : sv b = 0 := by unfold sv; rw [h, V_zero]; split <;> rfl
/-- A number is rounded to itself. -/
theorem rnd_self (a : Int) (h0 : 0 ≤ a) (h1 : a < 18446744073709551616) (hf : mag a < 9218868437227405312) (hz : mag a ≠ 0) : rndS (sv a) = (a, 0) := by
  have hp := V_pos (mag a) (by omega)
  unfold rndS
  rw [sv_abs, (num_V _ hf).1, (num_V _ hf).2]
  have hs : decide (sv a < 0) = sgn a := by
    unfold sv
    cases sgn a
    · exact decide_eq_false (by simp)
    · exact decide_eq_true (by simp; omega)
  rw [hs, ← whole a h0 h1]
  rfl
theorem one_is (e k : Nat) (hk : k = 52 + e) : 4503599627370496 * 2 ^ e = 2 ^ k := by rw [hk, Nat.pow_add]
end Go.Proofs.YtpakpgjbgehhjaaGreat

/-
  The mathematics of layer 5 (plain, no program in sight): roots rounded down, and that a root with more bits is rounded alike; powers of two; whole parts; a product and a sum as whole numbers.
-/
namespace Go.Proofs.YtpakpgjbgehhjaaGreat
set_option linter.unusedVariables false

/-- The root, rounded down. -/
def isq : Nat → Nat
  | 0 => 0
  | n + 1 => if (isq n + 1) * (isq n + 1) ≤ n + 1 then isq n + 1 else isq n
def ww : Nat := 200
def uu : Nat := 1074
theorem uu_is : (uu : Int) = 1074 := rfl
/-- The root of v 2^-1074, rounded. -/
def rootN (v : Nat) : Nat := numM (isq (v * 2 ^ ww)) (-637) (decide (isq (v * 2 ^ ww) * isq (v * 2 ^ ww) ≠ v * 2 ^ ww))
def rootF (v : Nat) : Nat := flagM (isq (v * 2 ^ ww)) (-637) (decide (isq (v * 2 ^ ww) * isq (v * 2 ^ ww) ≠ v * 2 ^ ww))
/-- The document's root of a pattern. -/
def sqrtS (a : Int) : Int × Int :=
  if isNan a then (9221120237041090560, nanF a a)
  else if isZ a then (a, 0)
  else if a = 9218868437227405312 then (a, 0)
  else if sgn a then (9221120237041090560, 16)
  else (((rootN (V (mag a)) : Nat) : Int), ((rootF (V (mag a)) : Nat) : Int))
/-! Powers of two. -/
/-- A pattern times 2^n. -/
def scaleS (a n : Int) : Int × Int :=
  if isNan a then (9221120237041090560, nanF a a)
  else if isInf a || isZ a then (a, 0)
  else (sgnB (sgn a) + ((numP (V (mag a)) (n - 1074) : Nat) : Int), ((flagP (V (mag a)) (n - 1074) : Nat) : Int))
/-- A whole number. -/
def fromS (n : Int) : Int × Int := (sgnB (decide (n < 0)) + ((numP n.natAbs 0 : Nat) : Int), ((flagP n.natAbs 0 : Nat) : Int))
/-- A number's whole part. -/
def toS (a : Int) : Int × Int :=
  if 9218868437227405312 ≤ mag a then (0, 16)
  else if (if sgn a then 9223372036854775808 else 9223372036854775807) < V (mag a) / 2 ^ uu then (0, 16)
  else (if sgn a then -((V (mag a) / 2 ^ uu : Nat) : Int) else ((V (mag a) / 2 ^ uu : Nat) : Int), if V (mag a) % 2 ^ uu ≠ 0 then 1 else 0)
/-! A product and a sum. -/
def pv (a b : Int) : Int := if sgn a != sgn b then -((V (mag a) * V (mag b) : Nat) : Int) else ((V (mag a) * V (mag b) : Nat) : Int)
end Go.Proofs.YtpakpgjbgehhjaaGreat

/-
  The mathematics of roots: the root of a rounded square is the number; a root lies between its neighbours; powers of two one behind the other.
-/
namespace Go.Proofs.YtpakpgjbgehhjaaGreat
set_option linter.unusedVariables false

end Go.Proofs.YtpakpgjbgehhjaaGreat
