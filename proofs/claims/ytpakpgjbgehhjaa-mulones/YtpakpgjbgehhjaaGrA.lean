/-
  Texts put together: Hlp Bst BitM RoundM RoundV RoundS RoundR WordM PartM SoftM RndM LawM MoreM RootM.
-/
import Derived.Test.YtpakpgjbgehhjaaProg
import Derived.WalkKit
import Derived.ProofKit
import Derived.Laws.BitsAllLaws
import Derived.Laws.Bits128
/-
  Small equations between endings and values. No conditions.
-/
namespace Go.Proofs.Ytpakpgjbgehhjaa
open Go.ChangeShapes Go.WideShapes Go.ChangeAt Go.RowKit

theorem ret_eq {u v : Value} (h : u = v) : Ending.returned u = Ending.returned v := by rw [h]
theorem int_eq {k : IntKind} {a b : Int} (h : a = b) : Value.int k a = Value.int k b := by rw [h]
theorem bool_eq {a b : Bool} (h : a = b) : Value.bool a = Value.bool b := by rw [h]
theorem tup2 {a b c d : Value} (h : a = c) (g : b = d) : Value.tuple #[a, b] = Value.tuple #[c, d] := by rw [h, g]
theorem tup3 {a b c x y z : Value} (h : a = x) (g : b = y) (f : c = z) : Value.tuple #[a, b, c] = Value.tuple #[x, y, z] := by rw [h, g, f]
end Go.Proofs.Ytpakpgjbgehhjaa

/-
  Chains of worlds. No conditions.
-/
namespace Go.Proofs.Ytpakpgjbgehhjaa
open Go.RowKit
theorem bstep {w w1 w2 : World} (h : Below w.heap.size w w1) (g : Below w1.heap.size w1 w2) : Below w.heap.size w w2 := h.trans (g.mono h.size)
theorem bmore {w w1 : World} (h : Below w.heap.size w w1) (o : Obj) : Below w.heap.size w (w1.alloc o) := h.alloc h.size o
end Go.Proofs.Ytpakpgjbgehhjaa

/-
  Whole numbers as lists of bits, the lowest first (plain mathematics, no program in sight): the value of a list, the list of a number without noughts at its end, and that a list of bits without noughts at its end is the list of its value. No conditions.
-/
namespace Go.Proofs.Ytpakpgjbgehhjaa

/-- The value of a list of bits, the lowest first. -/
def val : List Int → Nat
  | [] => 0
  | x :: xs => x.toNat + 2 * val xs
/-- Each is 0 or 1. -/
def Bin (xs : List Int) : Prop := ∀ x ∈ xs, x = 0 ∨ x = 1
/-- The list of a number, without noughts at its end. -/
def bl (n : Nat) : List Int := if h : n = 0 then [] else ((n % 2 : Nat) : Int) :: bl (n / 2)

theorem bl_zero : bl 0 = [] := by rw [bl]; simp
theorem bl_pos (n : Nat) (h : n ≠ 0) : bl n = ((n % 2 : Nat) : Int) :: bl (n / 2) := by rw [bl]; simp [h]
theorem bl_one : bl 1 = [1] := by rw [bl_pos 1 (by decide)]; simp [bl_zero]

theorem bl_bin (n : Nat) : Bin (bl n) := by
  induction n using Nat.strongRecOn with
  | _ n ih =>
    by_cases h : n = 0
    · subst h; rw [bl_zero]; intro x hx; cases hx
    · rw [bl_pos n h]
      intro x hx
      rcases List.mem_cons.1 hx with rfl | hx
      · omega
      · exact ih (n / 2) (by omega) x hx
theorem val_bl (n : Nat) : val (bl n) = n := by
  induction n using Nat.strongRecOn with
  | _ n ih =>
    by_cases h : n = 0
    · subst h; rw [bl_zero]; rfl
    · rw [bl_pos n h]
      show (((n % 2 : Nat) : Int)).toNat + 2 * val (bl (n / 2)) = n
      rw [ih (n / 2) (by omega)]
      omega
theorem val_cons (x : Int) (xs : List Int) : val (x :: xs) = x.toNat + 2 * val xs := rfl
theorem val_nil : val [] = 0 := rfl
theorem val_append (xs ys : List Int) : val (xs ++ ys) = val xs + 2 ^ xs.length * val ys := by
  induction xs with
  | nil => simp [val_nil]
  | cons x xs ih =>
    rw [List.cons_append, val_cons, val_cons, ih, List.length_cons, Nat.pow_succ]
    rw [show 2 ^ xs.length * 2 * val ys = 2 * (2 ^ xs.length * val ys) by rw [Nat.mul_comm (2 ^ xs.length) 2, Nat.mul_assoc]]
    omega
theorem Bin.cons {x : Int} {xs : List Int} (h : Bin (x :: xs)) : (x = 0 ∨ x = 1) ∧ Bin xs := ⟨h x (by simp), fun y hy => h y (by simp [hy])⟩
theorem Bin.nil : Bin [] := fun x hx => by cases hx
theorem Bin.mk {x : Int} {xs : List Int} (h : x = 0 ∨ x = 1) (g : Bin xs) : Bin (x :: xs) := fun y hy => by
  rcases List.mem_cons.1 hy with rfl | hy
  · exact h
  · exact g y hy
theorem Bin.append {xs ys : List Int} (h : Bin xs) (g : Bin ys) : Bin (xs ++ ys) := fun x hx => by
  rcases List.mem_append.1 hx with hx | hx
  · exact h x hx
  · exact g x hx
theorem Bin.take {xs : List Int} (h : Bin xs) (n : Nat) : Bin (xs.take n) := fun x hx => h x (List.mem_of_mem_take hx)
theorem Bin.drop {xs : List Int} (h : Bin xs) (n : Nat) : Bin (xs.drop n) := fun x hx => h x (List.mem_of_mem_drop hx)
theorem Bin.get {xs : List Int} (h : Bin xs) (i : Nat) (hi : i < xs.length) : xs[i] = 0 ∨ xs[i] = 1 := h _ (List.getElem_mem hi)
theorem val_lt (xs : List Int) (h : Bin xs) : val xs < 2 ^ xs.length := by
  induction xs with
  | nil => simp [val_nil]
  | cons x xs ih =>
    have := ih h.cons.2
    have hx := h.cons.1
    rw [val_cons, List.length_cons, Nat.pow_succ]
    omega
/-- A list of bits without noughts at its end is the list of its value. -/
theorem bl_val (xs : List Int) (h : Bin xs) (g : ∀ hne : xs ≠ [], xs.getLast hne ≠ 0) : xs = bl (val xs) := by
  induction xs with
  | nil => rw [val_nil, bl_zero]
  | cons x xs ih =>
    have hx := h.cons.1
    have key : val (x :: xs) ≠ 0 := by
      rw [val_cons]
      cases xs with
      | nil =>
        have := g (by simp)
        simp at this
        omega
      | cons y ys =>
        have e := ih h.cons.2 (fun hne => by have := g (by simp); rwa [List.getLast_cons hne] at this)
        intro h0
        have hv : val (y :: ys) = 0 := by omega
        rw [hv, bl_zero] at e
        cases e
    rw [bl_pos _ key, val_cons]
    have e1 : (x.toNat + 2 * val xs) / 2 = val xs := by omega
    have e2 : (((x.toNat + 2 * val xs) % 2 : Nat) : Int) = x := by omega
    rw [e1, e2]
    cases xs with
    | nil => rw [val_nil, bl_zero]
    | cons y ys =>
      rw [← ih h.cons.2 (fun hne => by have := g (by simp); rwa [List.getLast_cons hne] at this)]
theorem val_zeros (xs : List Int) (h : ∀ x ∈ xs, x = 0) : val xs = 0 := by
  induction xs with
  | nil => rfl
  | cons x xs ih =>
    rw [val_cons, ih (fun y hy => h y (by simp [hy])), h x (by simp)]
    rfl
/-- What is left of a list of bits when noughts at its end are taken off is the list of its value. -/
theorem trim_val (xs : List Int) (n : Nat) (h : Bin xs) (hn : n ≤ xs.length) (hz : ∀ x ∈ xs.drop n, x = 0) (hl : ∀ hp : 0 < n, xs[n - 1]'(by omega) ≠ 0) : xs.take n = bl (val xs) := by
  have e : val xs = val (xs.take n) := by
    conv => lhs; rw [← List.take_append_drop n xs]
    rw [val_append, val_zeros _ hz]; simp
  rw [e]
  refine bl_val _ (h.take n) (fun hne => ?_)
  have hlen : (xs.take n).length = n := by rw [List.length_take]; omega
  rw [List.getLast_eq_getElem]
  have hp : 0 < n := by
    cases n with
    | zero => simp at hne
    | succ k => omega
  have := hl hp
  simp only [hlen, List.getElem_take]
  exact this
/-- How long the list of a number is. -/
theorem bl_length_le (n k : Nat) : (bl n).length ≤ k ↔ n < 2 ^ k := by
  induction k generalizing n with
  | zero =>
    by_cases h : n = 0
    · subst h; simp [bl_zero]
    · rw [bl_pos n h]; simp; omega
  | succ k ih =>
    by_cases h : n = 0
    · subst h; simp [bl_zero, Nat.two_pow_pos]
    · rw [bl_pos n h, List.length_cons, Nat.add_le_add_iff_right, ih, Nat.pow_succ]
      omega
theorem bl_length_lt (n k : Nat) : k < (bl n).length ↔ 2 ^ k ≤ n := by
  have := bl_length_le n k
  omega
theorem bl_nil_iff (n : Nat) : (bl n).length = 0 ↔ n = 0 := by
  have := bl_length_le n 0
  simp only [Nat.pow_zero] at this
  omega
theorem bl_inj {m n : Nat} (h : bl m = bl n) : m = n := by rw [← val_bl m, h, val_bl]
theorem val_take_drop (xs : List Int) (n : Nat) (hn : n ≤ xs.length) : val xs = val (xs.take n) + 2 ^ n * val (xs.drop n) := by
  conv => lhs; rw [← List.take_append_drop n xs]
  rw [val_append]
  have hlen : (xs.take n).length = n := by rw [List.length_take]; omega
  rw [hlen]
theorem val_drop (xs : List Int) (h : Bin xs) (n : Nat) : val (xs.drop n) = val xs / 2 ^ n := by
  by_cases hn : n ≤ xs.length
  · have e := val_take_drop xs n hn
    have b := val_lt (xs.take n) (h.take n)
    have hlen : (xs.take n).length = n := by rw [List.length_take]; omega
    rw [hlen] at b
    rw [e, Nat.add_mul_div_left _ _ (Nat.two_pow_pos n), Nat.div_eq_of_lt b]
    omega
  · have b := val_lt xs h
    have : 2 ^ xs.length ≤ 2 ^ n := Nat.pow_le_pow_right (by decide) (by omega)
    rw [List.drop_eq_nil_of_le (by omega), val_nil, Nat.div_eq_of_lt (by omega)]
theorem val_take (xs : List Int) (h : Bin xs) (n : Nat) : val (xs.take n) = val xs % 2 ^ n := by
  by_cases hn : n ≤ xs.length
  · have e := val_take_drop xs n hn
    have b := val_lt (xs.take n) (h.take n)
    have hlen : (xs.take n).length = n := by rw [List.length_take]; omega
    rw [hlen] at b
    rw [e, Nat.add_mul_mod_self_left, Nat.mod_eq_of_lt b]
  · have b := val_lt xs h
    have : 2 ^ xs.length ≤ 2 ^ n := Nat.pow_le_pow_right (by decide) (by omega)
    rw [List.take_of_length_le (by omega), Nat.mod_eq_of_lt (by omega)]
theorem val_drop_cons (xs : List Int) (i : Nat) (hi : i < xs.length) : val (xs.drop i) = (xs[i]).toNat + 2 * val (xs.drop (i + 1)) := by
  rw [List.drop_eq_getElem_cons hi, val_cons]
end Go.Proofs.Ytpakpgjbgehhjaa

/-
  The plain mathematics of rounding to binary64 (no program in sight): half to even; the pattern of the number nearest to x 2^e as one whole number, that does not hang on how x 2^e is laid, and grows with it; what a little more changes.
-/
namespace Go.Proofs.Ytpakpgjbgehhjaa
set_option linter.unusedVariables false

/-- x by 2^d, to the nearest, half to even. -/
def rne (x d : Nat) : Nat := if 2 ^ d < 2 * (x % 2 ^ d) ∨ (2 * (x % 2 ^ d) = 2 ^ d ∧ x / 2 ^ d % 2 = 1) then x / 2 ^ d + 1 else x / 2 ^ d
theorem rne_zero (x : Nat) : rne x 0 = x := by
  unfold rne
  rw [Nat.pow_zero, Nat.mod_one, Nat.div_one, if_neg (by omega)]
theorem rne_scale (x d k : Nat) : rne (x * 2 ^ k) (d + k) = rne x d := by
  unfold rne
  have hk := Nat.two_pow_pos k
  have e : 2 * (x % 2 ^ d * 2 ^ k) = (2 * (x % 2 ^ d)) * 2 ^ k := (Nat.mul_assoc _ _ _).symm
  have c1 : 2 ^ d * 2 ^ k < 2 * (x % 2 ^ d * 2 ^ k) ↔ 2 ^ d < 2 * (x % 2 ^ d) := by rw [e]; exact Nat.mul_lt_mul_right hk
  have c2 : 2 * (x % 2 ^ d * 2 ^ k) = 2 ^ d * 2 ^ k ↔ 2 * (x % 2 ^ d) = 2 ^ d := by rw [e]; exact Nat.mul_left_inj (by omega)
  rw [Nat.pow_add, Nat.mul_mod_mul_right, Nat.mul_div_mul_right _ _ hk]
  simp only [c1, c2]
theorem rne_ge_div (x d : Nat) : x / 2 ^ d ≤ rne x d := by unfold rne; split <;> omega
theorem rne_le_div (x d : Nat) : rne x d ≤ x / 2 ^ d + 1 := by unfold rne; split <;> omega
theorem rne_mono (x y d : Nat) (h : x ≤ y) : rne x d ≤ rne y d := by
  have hq : x / 2 ^ d ≤ y / 2 ^ d := Nat.div_le_div_right h
  rcases Nat.lt_or_ge (x / 2 ^ d) (y / 2 ^ d) with g | g
  · exact Nat.le_trans (rne_le_div x d) (Nat.le_trans g (rne_ge_div y d))
  · have e : x / 2 ^ d = y / 2 ^ d := Nat.le_antisymm hq g
    have hx := Nat.div_add_mod x (2 ^ d)
    have hy := Nat.div_add_mod y (2 ^ d)
    rw [e] at hx
    have hr : x % 2 ^ d ≤ y % 2 ^ d := by omega
    unfold rne
    rw [e]
    split <;> split <;> omega
theorem rne_mul (m d : Nat) : rne (m * 2 ^ d) d = m := by
  have := rne_scale m 0 d
  rw [Nat.zero_add, rne_zero] at this
  exact this
theorem rne_le (x m d : Nat) (h : x ≤ m * 2 ^ d) : rne x d ≤ m := by
  have := rne_mono _ _ d h
  rwa [rne_mul] at this
theorem rne_ge (x m d : Nat) (h : m * 2 ^ d ≤ x) : m ≤ rne x d := by
  have := rne_mono _ _ d h
  rwa [rne_mul] at this
/-- A little more: it counts only that there is some. -/
theorem rne_sticky (x t d k : Nat) (hd : 0 < d) (ht : 0 < t) (hk : t < 2 ^ k) : rne (x * 2 ^ k + t) (d + k) = x / 2 ^ d + (if 2 ^ d ≤ 2 * (x % 2 ^ d) then 1 else 0) := by
  have hp := Nat.two_pow_pos d
  have hx := Nat.div_add_mod x (2 ^ d)
  have hm := Nat.mod_lt x hp
  have e0 : x * 2 ^ k + t = (x % 2 ^ d * 2 ^ k + t) + (2 ^ d * 2 ^ k) * (x / 2 ^ d) := by
    conv => lhs; rw [← hx]
    grind
  have hs : x % 2 ^ d * 2 ^ k + t < 2 ^ d * 2 ^ k := by
    have : (x % 2 ^ d + 1) * 2 ^ k ≤ 2 ^ d * 2 ^ k := Nat.mul_le_mul_right _ hm
    rw [Nat.add_mul, Nat.one_mul] at this
    omega
  have hpp : 0 < 2 ^ d * 2 ^ k := Nat.mul_pos hp (Nat.two_pow_pos k)
  have e1 : (x * 2 ^ k + t) / (2 ^ d * 2 ^ k) = x / 2 ^ d := by rw [e0, Nat.add_mul_div_left _ _ hpp, Nat.div_eq_of_lt hs, Nat.zero_add]
  have e2 : (x * 2 ^ k + t) % (2 ^ d * 2 ^ k) = x % 2 ^ d * 2 ^ k + t := by rw [e0, Nat.add_mul_mod_self_left, Nat.mod_eq_of_lt hs]
  obtain ⟨c, rfl⟩ : ∃ c, d = c + 1 := ⟨d - 1, by omega⟩
  have hc : (2 : Nat) ^ (c + 1) = 2 * 2 ^ c := by rw [Nat.pow_succ, Nat.mul_comm]
  unfold rne
  rw [Nat.pow_add 2 (c + 1) k, e1, e2]
  generalize x / 2 ^ (c + 1) = q at *
  generalize x % 2 ^ (c + 1) = r at *
  rw [hc]
  by_cases h : 2 ^ c ≤ r
  · have h1 : 2 ^ c * 2 ^ k ≤ r * 2 ^ k := Nat.mul_le_mul_right _ h
    rw [if_pos (Or.inl (by rw [Nat.mul_assoc]; omega)), if_pos (by omega)]
  · have h1 : (r + 1) * 2 ^ k ≤ 2 ^ c * 2 ^ k := Nat.mul_le_mul_right _ (by omega)
    rw [Nat.add_mul, Nat.one_mul] at h1
    rw [if_neg (by rw [Nat.mul_assoc]; omega), if_neg (by omega), Nat.add_zero]
/-- No nearer to any other multiple of 2^d. -/
theorem rne_near (x d : Nat) : 2 * (rne x d * 2 ^ d) ≤ 2 * x + 2 ^ d ∧ 2 * x ≤ 2 * (rne x d * 2 ^ d) + 2 ^ d := by
  have hx := Nat.div_add_mod x (2 ^ d)
  have hm := Nat.mod_lt x (Nat.two_pow_pos d)
  rw [Nat.mul_comm (2 ^ d)] at hx
  unfold rne
  split
  · rw [Nat.add_mul, Nat.one_mul]; omega
  · omega
/-- By 2^d, where d may be less than nought. -/
def rneI (x : Nat) (d : Int) : Nat := if 0 < d then rne x d.toNat else x * 2 ^ (-d).toNat
theorem rneI_scale (x : Nat) (d : Int) (k : Nat) : rneI (x * 2 ^ k) (d + k) = rneI x d := by
  unfold rneI
  by_cases h : 0 < d
  · rw [if_pos h, if_pos (by omega), show (d + (k : Int)).toNat = d.toNat + k by omega, rne_scale]
  · rw [if_neg h]
    by_cases g : 0 < d + (k : Int)
    · rw [if_pos g]
      have : x * 2 ^ k = (x * 2 ^ (-d).toNat) * 2 ^ (d + (k : Int)).toNat := by
        rw [Nat.mul_assoc, ← Nat.pow_add, show (-d).toNat + (d + (k : Int)).toNat = k by omega]
      rw [this, rne_mul]
    · rw [if_neg g, Nat.mul_assoc, ← Nat.pow_add, show k + (-(d + (k : Int))).toNat = (-d).toNat by omega]
theorem rneI_mono (x y : Nat) (d : Int) (h : x ≤ y) : rneI x d ≤ rneI y d := by
  unfold rneI
  split
  · exact rne_mono _ _ _ h
  · exact Nat.mul_le_mul_right _ h
def lostI (x : Nat) (d : Int) : Bool := decide (0 < d ∧ x % 2 ^ d.toNat ≠ 0)
theorem lostI_scale (x : Nat) (d : Int) (k : Nat) : lostI (x * 2 ^ k) (d + k) = lostI x d := by
  unfold lostI
  rw [decide_eq_decide]
  by_cases h : 0 < d
  · rw [show (d + (k : Int)).toNat = d.toNat + k by omega, Nat.pow_add, Nat.mul_mod_mul_right]
    have := Nat.two_pow_pos k
    have e : x % 2 ^ d.toNat * 2 ^ k ≠ 0 ↔ x % 2 ^ d.toNat ≠ 0 := by
      rw [Nat.mul_ne_zero_iff]
      exact ⟨fun h => h.1, fun h => ⟨h, by omega⟩⟩
    rw [e]
    exact ⟨fun g => ⟨h, g.2⟩, fun g => ⟨by omega, g.2⟩⟩
  · refine ⟨fun g => absurd ?_ g.2, fun g => absurd g.1 h⟩
    have : x * 2 ^ k = (x * 2 ^ (-d).toNat) * 2 ^ (d + (k : Int)).toNat := by
      have := g.1
      rw [Nat.mul_assoc, ← Nat.pow_add, show (-d).toNat + (d + (k : Int)).toNat = k by omega]
    rw [this, Nat.mul_mod_left]
/-- How many bits. -/
theorem len_scale (x k : Nat) (hx : 0 < x) : (bl (x * 2 ^ k)).length = (bl x).length + k := by
  have h1 := (bl_length_le x (bl x).length).1 (Nat.le_refl _)
  have h0 : 0 < (bl x).length := (bl_length_lt x 0).2 (by rw [Nat.pow_zero]; exact hx)
  have h2 := (bl_length_lt x ((bl x).length - 1)).1 (by omega)
  have a : (bl (x * 2 ^ k)).length ≤ (bl x).length + k := by
    rw [bl_length_le, Nat.pow_add]
    exact Nat.mul_lt_mul_of_pos_right h1 (Nat.two_pow_pos _)
  have b : (bl x).length - 1 + k < (bl (x * 2 ^ k)).length := by
    rw [bl_length_lt, Nat.pow_add]
    exact Nat.mul_le_mul_right _ h2
  omega
theorem len_sticky (x t k : Nat) (hx : 0 < x) (ht : t < 2 ^ k) : (bl (x * 2 ^ k + t)).length = (bl x).length + k := by
  have h1 := (bl_length_le x (bl x).length).1 (Nat.le_refl _)
  have h0 : 0 < (bl x).length := (bl_length_lt x 0).2 (by rw [Nat.pow_zero]; exact hx)
  have h2 := (bl_length_lt x ((bl x).length - 1)).1 (by omega)
  have a : (bl (x * 2 ^ k + t)).length ≤ (bl x).length + k := by
    rw [bl_length_le, Nat.pow_add]
    have : (x + 1) * 2 ^ k ≤ 2 ^ (bl x).length * 2 ^ k := Nat.mul_le_mul_right _ h1
    rw [Nat.add_mul, Nat.one_mul] at this
    omega
  have b : (bl x).length - 1 + k < (bl (x * 2 ^ k + t)).length := by
    rw [bl_length_lt, Nat.pow_add]
    exact Nat.le_trans (Nat.mul_le_mul_right _ h2) (Nat.le_add_right _ _)
  omega
theorem len_mono (x y : Nat) (h : x ≤ y) : (bl x).length ≤ (bl y).length := by
  rw [bl_length_le]
  exact Nat.lt_of_le_of_lt h ((bl_length_le y _).1 (Nat.le_refl _))
/-- The place of the last bit that is kept of x 2^e. -/
def lastP (x : Nat) (e : Int) : Int := max (e + ((bl x).length : Int) - 53) (-1074)
theorem lastP_scale (x : Nat) (e : Int) (k : Nat) (hx : 0 < x) : lastP (x * 2 ^ k) e = lastP x (e + k) := by
  unfold lastP
  rw [len_scale x k hx]
  push_cast
  omega
/-- What is kept: at most 53 bits, or 2^53. -/
def keptP (x : Nat) (e : Int) : Nat := rneI x (lastP x e - e)
theorem keptP_scale (x : Nat) (e : Int) (k : Nat) (hx : 0 < x) : keptP (x * 2 ^ k) e = keptP x (e + k) := by
  unfold keptP
  rw [lastP_scale x e k hx, show lastP x (e + k) - e = (lastP x (e + k) - (e + k)) + k by omega, rneI_scale]
theorem keptP_le (x : Nat) (e : Int) : keptP x e ≤ 9007199254740992 := by
  have h1 := (bl_length_le x (bl x).length).1 (Nat.le_refl _)
  unfold keptP
  have hl : e + ((bl x).length : Int) - 53 ≤ lastP x e := by unfold lastP; omega
  generalize lastP x e = l at *
  unfold rneI
  split
  · refine rne_le _ _ _ (Nat.le_trans (Nat.le_of_lt h1) ?_)
    rw [show (9007199254740992 : Nat) = 2 ^ 53 by decide, ← Nat.pow_add]
    exact Nat.pow_le_pow_right (by decide) (by omega)
  · refine Nat.le_trans (Nat.mul_le_mul_right _ (Nat.le_of_lt h1)) ?_
    rw [show (9007199254740992 : Nat) = 2 ^ 53 by decide, ← Nat.pow_add]
    exact Nat.pow_le_pow_right (by decide) (by omega)
theorem keptP_ge (x : Nat) (e : Int) (hx : 0 < x) (h : -1074 < lastP x e) : 4503599627370496 ≤ keptP x e := by
  have h0 : 0 < (bl x).length := (bl_length_lt x 0).2 (by rw [Nat.pow_zero]; exact hx)
  have h2 := (bl_length_lt x ((bl x).length - 1)).1 (by omega)
  unfold keptP
  have hl : e + ((bl x).length : Int) - 53 = lastP x e := by unfold lastP at *; omega
  generalize lastP x e = l at *
  unfold rneI
  rw [show (4503599627370496 : Nat) = 2 ^ 52 by decide]
  split
  · refine rne_ge _ _ _ (Nat.le_trans ?_ h2)
    rw [← Nat.pow_add]
    exact Nat.pow_le_pow_right (by decide) (by omega)
  · refine Nat.le_trans ?_ (Nat.mul_le_mul_right _ h2)
    rw [← Nat.pow_add]
    exact Nat.pow_le_pow_right (by decide) (by omega)
/-- The pattern of the number nearest to x 2^e, as if exponents had no upper bound. -/
def patP (x : Nat) (e : Int) : Nat := if x = 0 then 0 else keptP x e + (lastP x e + 1074).toNat * 4503599627370496
theorem patP_scale (x : Nat) (e : Int) (k : Nat) : patP (x * 2 ^ k) e = patP x (e + k) := by
  have hp := Nat.two_pow_pos k
  unfold patP
  by_cases hx : x = 0
  · subst hx; rw [Nat.zero_mul, if_pos rfl, if_pos rfl]
  · have : x * 2 ^ k ≠ 0 := Nat.mul_ne_zero hx (by omega)
    rw [if_neg hx, if_neg this, keptP_scale x e k (by omega), lastP_scale x e k (by omega)]
theorem patP_mono (x y : Nat) (e : Int) (h : x ≤ y) : patP x e ≤ patP y e := by
  unfold patP
  by_cases hx : x = 0
  · rw [if_pos hx]; exact Nat.zero_le _
  · rw [if_neg hx, if_neg (by omega)]
    have hl := len_mono x y h
    have hll : lastP x e ≤ lastP y e := by unfold lastP; omega
    have hlm : -1074 ≤ lastP x e := by unfold lastP; omega
    by_cases g : lastP x e = lastP y e
    · have := rneI_mono x y (lastP x e - e) h
      unfold keptP
      rw [← g]
      omega
    · have k1 := keptP_le x e
      have k2 := keptP_ge y e (by omega) (by omega)
      omega
/-- Does the pattern tell less than x 2^e? -/
def lostP (x : Nat) (e : Int) : Bool := lostI x (lastP x e - e)
theorem lostP_scale (x : Nat) (e : Int) (k : Nat) (hx : 0 < x) : lostP (x * 2 ^ k) e = lostP x (e + k) := by
  unfold lostP
  rw [lastP_scale x e k hx, show lastP x (e + k) - e = (lastP x (e + k) - (e + k)) + k by omega, lostI_scale]
/-- Is it below 2^-1022? -/
def smallP (x : Nat) (e : Int) : Bool := decide (e + ((bl x).length : Int) < -1021)
theorem smallP_scale (x : Nat) (e : Int) (k : Nat) (hx : 0 < x) : smallP (x * 2 ^ k) e = smallP x (e + k) := by
  unfold smallP
  rw [len_scale x k hx, decide_eq_decide]
  push_cast
  omega
/-- The flags: Inexact 1, Under 2, Over 4. -/
def flagP (x : Nat) (e : Int) : Nat := if 9218868437227405312 ≤ patP x e then 5 else if x ≠ 0 ∧ lostP x e = true then (if smallP x e then 3 else 1) else 0
/-- The pattern without its sign. -/
def numP (x : Nat) (e : Int) : Nat := min (patP x e) 9218868437227405312
theorem flagP_scale (x : Nat) (e : Int) (k : Nat) : flagP (x * 2 ^ k) e = flagP x (e + k) := by
  have hp := Nat.two_pow_pos k
  unfold flagP
  rw [patP_scale]
  by_cases hx : x = 0
  · subst hx; rw [Nat.zero_mul]; simp
  · have : x * 2 ^ k ≠ 0 := Nat.mul_ne_zero hx (by omega)
    rw [lostP_scale x e k (by omega), smallP_scale x e k (by omega)]
    simp only [ne_eq, hx, this]
theorem numP_scale (x : Nat) (e : Int) (k : Nat) : numP (x * 2 ^ k) e = numP x (e + k) := by unfold numP; rw [patP_scale]
theorem numP_mono (x y : Nat) (e : Int) (h : x ≤ y) : numP x e ≤ numP y e := by
  have := patP_mono x y e h
  unfold numP
  omega
/-- A little more than x 2^e, told by whatever lies beneath: where at least one bit of x falls out. -/
theorem sticky_all (x t k t' k' : Nat) (e : Int) (hx : 0 < x) (hd : e < lastP x e) (ht : 0 < t) (htk : t < 2 ^ k) (ht' : 0 < t') (htk' : t' < 2 ^ k') :
    patP (x * 2 ^ k + t) (e - k) = patP (x * 2 ^ k' + t') (e - k') := by
  have key : ∀ t k : Nat, 0 < t → t < 2 ^ k → patP (x * 2 ^ k + t) (e - k) = x / 2 ^ (lastP x e - e).toNat + (if 2 ^ (lastP x e - e).toNat ≤ 2 * (x % 2 ^ (lastP x e - e).toNat) then 1 else 0) + (lastP x e + 1074).toNat * 4503599627370496 := by
    intro t k ht hk
    have hl : lastP (x * 2 ^ k + t) (e - k) = lastP x e := by
      unfold lastP
      rw [len_sticky x t k hx hk]
      push_cast
      omega
    unfold patP keptP
    rw [if_neg (by omega), hl]
    unfold rneI
    rw [if_pos (by omega), show (lastP x e - (e - (k : Int))).toNat = (lastP x e - e).toNat + k by omega, rne_sticky x t _ k (by omega) ht hk]
  rw [key t k ht htk, key t' k' ht' htk']
theorem sticky_lost (x t k : Nat) (e : Int) (hx : 0 < x) (hd : e < lastP x e) (ht : 0 < t) (htk : t < 2 ^ k) : lostP (x * 2 ^ k + t) (e - k) = true ∧ smallP (x * 2 ^ k + t) (e - k) = smallP x e := by
  have hl : lastP (x * 2 ^ k + t) (e - k) = lastP x e := by
    unfold lastP
    rw [len_sticky x t k hx htk]
    push_cast
    omega
  refine ⟨?_, ?_⟩
  · unfold lostP lostI
    rw [hl, decide_eq_true_eq]
    refine ⟨by omega, ?_⟩
    rw [show (lastP x e - (e - (k : Int))).toNat = k + (lastP x e - e).toNat by omega, Nat.pow_add]
    intro g
    have h1 : (x * 2 ^ k + t) % 2 ^ k = 0 := by
      rw [← Nat.mod_mul_right_mod (x * 2 ^ k + t) (2 ^ k) (2 ^ (lastP x e - e).toNat), g, Nat.zero_mod]
    rw [Nat.add_comm, Nat.add_mul_mod_self_right, Nat.mod_eq_of_lt htk] at h1
    omega
  · unfold smallP
    rw [len_sticky x t k hx htk, decide_eq_decide]
    push_cast
    omega
end Go.Proofs.Ytpakpgjbgehhjaa

/-
  What a pattern without its sign stands for, as a whole number times 2^-1074, and what rounding makes of it (plain mathematics, no program in sight).
-/
namespace Go.Proofs.Ytpakpgjbgehhjaa
set_option linter.unusedVariables false

/-- What a pattern without sign stands for, times 2^1074. -/
def V (p : Nat) : Nat := if p < 4503599627370496 then p else (4503599627370496 + p % 4503599627370496) * 2 ^ (p / 4503599627370496 - 1)
theorem V_split (k d : Nat) (hk : k ≤ 9007199254740992) (h : 4503599627370496 ≤ k ∨ d = 0) : V (k + d * 4503599627370496) = k * 2 ^ d := by
  unfold V
  by_cases h1 : k < 4503599627370496
  · obtain rfl : d = 0 := by omega
    rw [if_pos (by omega), Nat.pow_zero]
    omega
  · rw [if_neg (by omega)]
    by_cases h2 : k = 9007199254740992
    · subst h2
      rw [show (9007199254740992 + d * 4503599627370496) % 4503599627370496 = 0 by omega, show (9007199254740992 + d * 4503599627370496) / 4503599627370496 - 1 = d + 1 by omega, Nat.pow_succ]
      omega
    · rw [show (k + d * 4503599627370496) % 4503599627370496 = k - 4503599627370496 by omega, show (k + d * 4503599627370496) / 4503599627370496 - 1 = d by omega, show 4503599627370496 + (k - 4503599627370496) = k by omega]
theorem V_form (p : Nat) : ∃ k d : Nat, p = k + d * 4503599627370496 ∧ V p = k * 2 ^ d ∧ k < 9007199254740992 ∧ (4503599627370496 ≤ k ∨ d = 0) := by
  by_cases h : p < 4503599627370496
  · exact ⟨p, 0, by omega, by rw [Nat.pow_zero, Nat.mul_one]; unfold V; rw [if_pos h], by omega, Or.inr rfl⟩
  · refine ⟨4503599627370496 + p % 4503599627370496, p / 4503599627370496 - 1, by omega, ?_, by omega, Or.inl (by omega)⟩
    unfold V
    rw [if_neg h]
theorem lastP_exact (m : Nat) (e : Int) (hm : m < 9007199254740992) (he : -1074 ≤ e) (hn : 4503599627370496 ≤ m ∨ e = -1074) : lastP m e = e := by
  have h1 : (bl m).length ≤ 53 := (bl_length_le m 53).2 hm
  unfold lastP
  rcases hn with hn | hn
  · have h2 : 52 < (bl m).length := (bl_length_lt m 52).2 hn
    omega
  · omega
theorem patP_exact (m : Nat) (e : Int) (h0 : 0 < m) (hm : m < 9007199254740992) (he : -1074 ≤ e) (hn : 4503599627370496 ≤ m ∨ e = -1074) : patP m e = m + (e + 1074).toNat * 4503599627370496 := by
  unfold patP keptP rneI
  rw [if_neg (by omega), lastP_exact m e hm he hn, if_neg (by omega), show (-(e - e)).toNat = 0 by omega, Nat.pow_zero, Nat.mul_one]
theorem lostP_exact (m : Nat) (e : Int) (hm : m < 9007199254740992) (he : -1074 ≤ e) (hn : 4503599627370496 ≤ m ∨ e = -1074) : lostP m e = false := by
  unfold lostP lostI
  rw [lastP_exact m e hm he hn, decide_eq_false_iff_not]
  omega
/-- A pattern's number is rounded to it. -/
theorem patP_V (p : Nat) : patP (V p) (-1074) = p := by
  obtain ⟨k, d, e, hv, hk, hd⟩ := V_form p
  by_cases h0 : k = 0
  · subst h0
    obtain rfl : d = 0 := by omega
    rw [hv, Nat.zero_mul]
    unfold patP
    rw [if_pos rfl]
    omega
  · rw [hv, patP_scale, patP_exact k _ (by omega) hk (by omega) (by omega), show (-1074 + (d : Int) + 1074).toNat = d by omega]
    exact e.symm
theorem lostP_V (p : Nat) : lostP (V p) (-1074) = false ∨ V p = 0 := by
  obtain ⟨k, d, e, hv, hk, hd⟩ := V_form p
  by_cases h0 : k = 0
  · right; rw [hv, h0, Nat.zero_mul]
  · left; rw [hv, lostP_scale k _ d (by omega), lostP_exact k _ hk (by omega) (by omega)]
theorem V_mono (p q : Nat) (h : p ≤ q) : V p ≤ V q := by
  rcases Nat.lt_or_ge (V q) (V p) with g | g
  · have := patP_mono _ _ (-1074) (Nat.le_of_lt g)
    rw [patP_V, patP_V] at this
    have e : p = q := Nat.le_antisymm h this
    rw [e] at g
    omega
  · exact g
theorem V_lt (p q : Nat) (h : p < q) : V p < V q := by
  rcases Nat.lt_or_ge (V p) (V q) with g | g
  · exact g
  · have := patP_mono _ _ (-1074) g
    rw [patP_V, patP_V] at this
    omega
theorem V_inj (p q : Nat) (h : V p = V q) : p = q := by rw [← patP_V p, h, patP_V]
theorem V_zero : V 0 = 0 := by unfold V; rfl
theorem V_pos (p : Nat) (h : 0 < p) : 0 < V p := by have := V_lt 0 p h; rw [V_zero] at this; exact this
theorem V_le_iff (p q : Nat) : V p ≤ V q ↔ p ≤ q := ⟨fun h => Nat.le_of_not_lt fun g => by have := V_lt _ _ g; omega, V_mono p q⟩
/-- What the rounded pattern stands for. -/
theorem V_pat (x : Nat) (hx : 0 < x) : V (patP x (-1074)) = keptP x (-1074) * 2 ^ (lastP x (-1074) + 1074).toNat := by
  unfold patP
  rw [if_neg (by omega)]
  refine V_split _ _ (keptP_le _ _) ?_
  by_cases h : lastP x (-1074) = -1074
  · right; omega
  · left
    have hl : -1074 ≤ lastP x (-1074) := by unfold lastP; omega
    exact keptP_ge x _ hx (by omega)
theorem V_exact (x : Nat) (h : lostP x (-1074) = false) : V (patP x (-1074)) = x := by
  by_cases hx : x = 0
  · subst hx; unfold patP; rw [if_pos rfl, V_zero]
  · rw [V_pat x (by omega)]
    have hl : -1074 ≤ lastP x (-1074) := by unfold lastP; omega
    unfold lostP lostI at h
    rw [decide_eq_false_iff_not] at h
    unfold keptP rneI
    rw [show lastP x (-1074) - -1074 = lastP x (-1074) + 1074 by omega] at *
    have hl0 : 0 ≤ lastP x (-1074) + 1074 := by omega
    generalize lastP x (-1074) + 1074 = d at *
    by_cases g : 0 < d
    · rw [if_pos g]
      have hm : x % 2 ^ d.toNat = 0 := by
        rcases Nat.eq_zero_or_pos (x % 2 ^ d.toNat) with k | k
        · exact k
        · exact absurd ⟨g, by omega⟩ h
      have he := Nat.div_add_mod x (2 ^ d.toNat)
      rw [hm, Nat.add_zero, Nat.mul_comm] at he
      conv => lhs; rw [← he]
      rw [rne_mul, he]
    · obtain rfl : d = 0 := by omega
      rw [if_neg g]
      simp
/-- A number of at most 53 bits, times a power of two, is told just so. -/
theorem told (c d : Nat) (hc : c ≤ 9007199254740992) : lostP (c * 2 ^ d) (-1074) = false := by
  by_cases h0 : c = 0
  · subst h0
    rw [Nat.zero_mul]
    unfold lostP lostI
    rw [decide_eq_false_iff_not, Nat.zero_mod]
    omega
  · rw [lostP_scale c _ d (by omega)]
    by_cases h1 : c = 9007199254740992
    · subst h1
      have h2 : lastP 9007199254740992 (-1074 + (d : Int)) = d - 1073 := by
        have e : (bl 9007199254740992).length = 54 := by
          have a := (bl_length_le 9007199254740992 54).2 (by decide)
          have b := (bl_length_lt 9007199254740992 53).2 (by decide)
          omega
        unfold lastP
        rw [e]
        omega
      unfold lostP lostI
      rw [h2, decide_eq_false_iff_not, show ((d : Int) - 1073 - (-1074 + (d : Int))).toNat = 1 by omega]
      omega
    · have h1 : (bl c).length ≤ 53 := (bl_length_le c 53).2 (by omega)
      have h2 : lastP c (-1074 + (d : Int)) ≤ -1074 + (d : Int) := by unfold lastP; omega
      unfold lostP lostI
      rw [decide_eq_false_iff_not]
      omega
/-- The nearest: twice the number lies between the sums with the pattern beneath and with the one above. -/
theorem near_all (x p : Nat) (hx : 0 < x) (hp : p = patP x (-1074)) :
    2 * x ≤ V p + V (p + 1) ∧ (0 < p → V (p - 1) + V p ≤ 2 * x) := by
  have hl : -1074 ≤ lastP x (-1074) := by unfold lastP; omega
  have hv := V_pat x hx
  have hkl := keptP_le x (-1074)
  have hkg := keptP_ge x (-1074) hx
  have hL : (((bl x).length : Int) - 1127 ≤ lastP x (-1074)) ∧ (-1074 < lastP x (-1074) → lastP x (-1074) = ((bl x).length : Int) - 1127) := by unfold lastP; omega
  have hlen := (bl_length_lt x ((bl x).length - 1)).1 (by have := (bl_length_lt x 0).2 (by rw [Nat.pow_zero]; exact hx); omega)
  have hn : 2 * V p ≤ 2 * x + 2 ^ (lastP x (-1074) + 1074).toNat ∧ 2 * x ≤ 2 * V p + 2 ^ (lastP x (-1074) + 1074).toNat := by
    rw [hp, hv]
    unfold keptP rneI
    rw [show lastP x (-1074) - -1074 = lastP x (-1074) + 1074 by omega]
    have hl0 : 0 ≤ lastP x (-1074) + 1074 := by omega
    generalize lastP x (-1074) + 1074 = d at *
    by_cases g : 0 < d
    · rw [if_pos g]; exact rne_near x d.toNat
    · obtain rfl : d = 0 := by omega
      rw [if_neg g]
      simp
  have hp2 : p = keptP x (-1074) + (lastP x (-1074) + 1074).toNat * 4503599627370496 := by
    rw [hp]; unfold patP; rw [if_neg (by omega)]
  rw [← hp] at hv
  obtain ⟨d, hd⟩ : ∃ d : Nat, lastP x (-1074) + 1074 = d := ⟨(lastP x (-1074) + 1074).toNat, by omega⟩
  rw [hd, Int.toNat_natCast] at hn hv hp2
  have hk2 : 4503599627370496 ≤ keptP x (-1074) ∨ d = 0 := by
    by_cases g : d = 0
    · exact Or.inr g
    · exact Or.inl (hkg (by omega))
  have hX : 0 < d → 4503599627370496 * 2 ^ d ≤ x := by
    intro g
    refine Nat.le_trans ?_ hlen
    rw [show (4503599627370496 : Nat) = 2 ^ 52 by decide, ← Nat.pow_add]
    exact Nat.pow_le_pow_right (by decide) (by omega)
  generalize keptP x (-1074) = k at *
  have hpd := Nat.two_pow_pos d
  refine ⟨?_, ?_⟩
  · have hup : V p + 2 ^ d ≤ V (p + 1) := by
      by_cases g : k = 9007199254740992
      · have e : V (p + 1) = (4503599627370497) * 2 ^ (d + 1) := by
          rw [← V_split 4503599627370497 (d + 1) (by omega) (by omega)]
          congr 1
          omega
        rw [e, hv, g, Nat.pow_succ]
        omega
      · have e : V (p + 1) = (k + 1) * 2 ^ d := by
          rw [← V_split (k + 1) d (by omega) (by omega)]
          congr 1
          omega
        rw [e, hv, Nat.add_mul, Nat.one_mul]
        exact Nat.le_refl _
    omega
  · intro hp0
    by_cases g : k = 4503599627370496 ∧ 0 < d
    · have hx2 := hX g.2
      rw [g.1] at hv
      have : V (p - 1) ≤ V p := V_mono _ _ (by omega)
      rw [hv] at *
      omega
    · have e : V (p - 1) + 2 ^ d = V p := by
        have e : V (p - 1) = (k - 1) * 2 ^ d := by
          rw [← V_split (k - 1) d (by omega) (by omega)]
          congr 1
          omega
        have hk1 : 1 ≤ k := by omega
        rw [e, hv]
        obtain ⟨j, rfl⟩ : ∃ j, k = j + 1 := ⟨k - 1, by omega⟩
        rw [Nat.add_sub_cancel, Nat.add_mul, Nat.one_mul]
      omega
/-- Times a power of two, where nothing is small. -/
theorem patP_power (x n : Nat) (e : Int) (hx : 0 < x) (h : -1021 ≤ e + ((bl x).length : Int)) : patP x (e + n) = patP x e + n * 4503599627370496 ∧ lostP x (e + n) = lostP x e ∧ smallP x (e + n) = smallP x e := by
  have h1 : lastP x (e + n) = lastP x e + n := by unfold lastP; omega
  have h2 : -1074 ≤ lastP x e := by unfold lastP; omega
  refine ⟨?_, ?_, ?_⟩
  · unfold patP keptP
    rw [if_neg (by omega), if_neg (by omega), h1, show lastP x e + (n : Int) - (e + (n : Int)) = lastP x e - e by omega]
    omega
  · unfold lostP
    rw [h1, show lastP x e + (n : Int) - (e + (n : Int)) = lastP x e - e by omega]
  · unfold smallP
    rw [decide_eq_decide]
    omega
end Go.Proofs.Ytpakpgjbgehhjaa

/-
  Rounding what is told with a little more, quotients, sums with signs (plain mathematics, no program in sight).
-/
namespace Go.Proofs.Ytpakpgjbgehhjaa
set_option linter.unusedVariables false

/-- The flags of a little more don't hang on how it is told. -/
theorem sticky_flag (x t k t' k' : Nat) (e : Int) (hx : 0 < x) (hd : e < lastP x e) (ht : 0 < t) (htk : t < 2 ^ k) (ht' : 0 < t') (htk' : t' < 2 ^ k') :
    flagP (x * 2 ^ k + t) (e - k) = flagP (x * 2 ^ k' + t') (e - k') := by
  obtain ⟨a1, a2⟩ := sticky_lost x t k e hx hd ht htk
  obtain ⟨b1, b2⟩ := sticky_lost x t' k' e hx hd ht' htk'
  have c1 : x * 2 ^ k + t ≠ 0 := by omega
  have c2 : x * 2 ^ k' + t' ≠ 0 := by omega
  unfold flagP
  rw [sticky_all x t k t' k' e hx hd ht htk ht' htk', a1, a2, b1, b2]
  simp only [ne_eq, c1, c2]
/-- Rounded with a little more, or without. -/
def numM (x : Nat) (e : Int) (more : Bool) : Nat := numP (x * 2 ^ 2 + more.toNat) (e - (2 : Nat))
def flagM (x : Nat) (e : Int) (more : Bool) : Nat := flagP (x * 2 ^ 2 + more.toNat) (e - (2 : Nat))
theorem numM_false (x : Nat) (e : Int) : numM x e false = numP x e := by
  unfold numM
  rw [Bool.toNat_false, Nat.add_zero, numP_scale, Int.sub_add_cancel]
theorem flagM_false (x : Nat) (e : Int) : flagM x e false = flagP x e := by
  unfold flagM
  rw [Bool.toNat_false, Nat.add_zero, flagP_scale, Int.sub_add_cancel]
/-- Some bits beneath, told as a little more. -/
theorem more_shift (N j : Nat) (e : Int) (hq : 0 < N / 2 ^ j) (hd : e < lastP (N / 2 ^ j) e) :
    numM (N / 2 ^ j) e (decide (N % 2 ^ j ≠ 0)) = numP N (e - j) ∧ flagM (N / 2 ^ j) e (decide (N % 2 ^ j ≠ 0)) = flagP N (e - j) := by
  have hN := Nat.div_add_mod N (2 ^ j)
  have hm := Nat.mod_lt N (Nat.two_pow_pos j)
  rw [Nat.mul_comm] at hN
  by_cases h : N % 2 ^ j = 0
  · rw [h, Nat.add_zero] at hN
    rw [show decide (N % 2 ^ j ≠ 0) = false by simp [h], numM_false, flagM_false]
    have a := numP_scale (N / 2 ^ j) (e - j) j
    have b := flagP_scale (N / 2 ^ j) (e - j) j
    rw [hN, Int.sub_add_cancel] at a b
    exact ⟨a.symm, b.symm⟩
  · rw [show decide (N % 2 ^ j ≠ 0) = true by simp [h]]
    unfold numM flagM
    rw [Bool.toNat_true]
    have a := sticky_all (N / 2 ^ j) 1 2 (N % 2 ^ j) j e hq hd (by omega) (by decide) (by omega) hm
    have b := sticky_flag (N / 2 ^ j) 1 2 (N % 2 ^ j) j e hq hd (by omega) (by decide) (by omega) hm
    rw [hN] at a b
    unfold numP
    rw [a, b]
    exact ⟨rfl, rfl⟩
/-- A quotient with more bits is rounded alike. -/
theorem more_div (N y j : Nat) (e : Int) (hy : 0 < y) (hq : 0 < N / y) (hd : e < lastP (N / y) e) :
    numM (N / y) e (decide (N % y ≠ 0)) = numM (N * 2 ^ j / y) (e - j) (decide (N * 2 ^ j % y ≠ 0)) ∧ flagM (N / y) e (decide (N % y ≠ 0)) = flagM (N * 2 ^ j / y) (e - j) (decide (N * 2 ^ j % y ≠ 0)) := by
  have hN := Nat.div_add_mod N y
  have hm := Nat.mod_lt N hy
  have e0 : N * 2 ^ j = N % y * 2 ^ j + y * (N / y * 2 ^ j) := by
    conv => lhs; rw [← hN]
    grind
  have e1 : N * 2 ^ j / y = N / y * 2 ^ j + N % y * 2 ^ j / y := by rw [e0, Nat.add_mul_div_left _ _ hy, Nat.add_comm]
  have e2 : N * 2 ^ j % y = N % y * 2 ^ j % y := by rw [e0, Nat.add_mul_mod_self_left]
  have ht : N % y * 2 ^ j / y < 2 ^ j := by
    rw [Nat.div_lt_iff_lt_mul hy, Nat.mul_comm (2 ^ j)]
    exact Nat.mul_lt_mul_of_pos_right hm (Nat.two_pow_pos j)
  rw [e1, e2]
  by_cases h : N % y = 0
  · rw [h, Nat.zero_mul, Nat.zero_div, Nat.zero_mod, Nat.add_zero]
    rw [show decide ((0 : Nat) ≠ 0) = false by simp, numM_false, flagM_false, numM_false, flagM_false, numP_scale, flagP_scale, Int.sub_add_cancel]
    exact ⟨rfl, rfl⟩
  · rw [show decide (N % y ≠ 0) = true by simp [h]]
    generalize hX : N / y = X at *
    have hR := Nat.div_add_mod (N % y * 2 ^ j) y
    have hpos : 0 < N % y * 2 ^ j := Nat.mul_pos (by omega) (Nat.two_pow_pos j)
    generalize N % y * 2 ^ j / y = t at *
    by_cases g : N % y * 2 ^ j % y = 0
    · rw [show decide (N % y * 2 ^ j % y ≠ 0) = false from decide_eq_false (fun k => k g), numM_false, flagM_false]
      have ht0 : 0 < t := by
        rw [g, Nat.add_zero] at hR
        rcases Nat.eq_zero_or_pos t with k | k
        · rw [k, Nat.mul_zero] at hR; omega
        · exact k
      unfold numM flagM
      rw [Bool.toNat_true]
      have a := sticky_all X 1 2 t j e hq hd (by omega) (by decide) ht0 ht
      have b := sticky_flag X 1 2 t j e hq hd (by omega) (by decide) ht0 ht
      unfold numP
      rw [a, b]
      exact ⟨rfl, rfl⟩
    · rw [show decide (N % y * 2 ^ j % y ≠ 0) = true from decide_eq_true g]
      unfold numM flagM
      rw [Bool.toNat_true]
      have hk : (X * 2 ^ j + t) * 2 ^ 2 + 1 = X * 2 ^ (j + 2) + (t * 4 + 1) := by rw [Nat.pow_add]; grind
      have hlt : t * 4 + 1 < 2 ^ (j + 2) := by rw [Nat.pow_add]; omega
      have a := sticky_all X 1 2 (t * 4 + 1) (j + 2) e hq hd (by omega) (by decide) (by omega) hlt
      have b := sticky_flag X 1 2 (t * 4 + 1) (j + 2) e hq hd (by omega) (by decide) (by omega) hlt
      rw [show e - ((j + 2 : Nat) : Int) = e - (j : Int) - ((2 : Nat) : Int) by push_cast; omega] at a b
      unfold numP
      rw [hk, a, b]
      exact ⟨rfl, rfl⟩
/-- What is less than one unit of a difference falls out of it so. -/
theorem sub_floor (X Y j : Nat) (h : Y ≤ X * 2 ^ j) : (X * 2 ^ j - Y) / 2 ^ j = X - Y / 2 ^ j - (decide (Y % 2 ^ j ≠ 0)).toNat ∧ ((X * 2 ^ j - Y) % 2 ^ j ≠ 0 ↔ Y % 2 ^ j ≠ 0) := by
  have hp := Nat.two_pow_pos j
  have hY := Nat.div_add_mod Y (2 ^ j)
  have hm := Nat.mod_lt Y hp
  by_cases g : Y % 2 ^ j = 0
  · have e : X * 2 ^ j - Y = (X - Y / 2 ^ j) * 2 ^ j := by rw [Nat.sub_mul, Nat.mul_comm (Y / 2 ^ j)]; omega
    rw [e, Nat.mul_div_cancel _ hp, Nat.mul_mod_left]
    simp [g]
  · have hXY : Y / 2 ^ j < X := by
      rcases Nat.lt_or_ge (Y / 2 ^ j) X with k | k
      · exact k
      · have : X * 2 ^ j ≤ 2 ^ j * (Y / 2 ^ j) := by rw [Nat.mul_comm X]; exact Nat.mul_le_mul_left _ k
        omega
    obtain ⟨Z, hZ⟩ : ∃ Z, X = Y / 2 ^ j + 1 + Z := ⟨X - Y / 2 ^ j - 1, by omega⟩
    have e : X * 2 ^ j - Y = (2 ^ j - Y % 2 ^ j) + 2 ^ j * Z := by
      have : X * 2 ^ j = 2 ^ j * (Y / 2 ^ j) + 2 ^ j + 2 ^ j * Z := by rw [hZ]; grind
      omega
    have hlt : 2 ^ j - Y % 2 ^ j < 2 ^ j := by omega
    rw [e, Nat.add_mul_div_left _ _ hp, Nat.add_mul_mod_self_left, Nat.div_eq_of_lt hlt, Nat.mod_eq_of_lt hlt]
    rw [show decide (Y % 2 ^ j ≠ 0) = true by simp [g], Bool.toNat_true]
    omega
/-- Sterbenz: a difference of two numbers of which one is at most twice the other is told just so. -/
theorem sterbenz (p q : Nat) (h : q ≤ p) (h2 : V p ≤ 2 * V q) : lostP (V p - V q) (-1074) = false := by
  obtain ⟨k, d, e1, v1, k1, k2⟩ := V_form p
  obtain ⟨j, c, f1, u1, j1, j2⟩ := V_form q
  have hcd : c ≤ d := by omega
  obtain ⟨n, rfl⟩ : ∃ n, d = c + n := ⟨d - c, by omega⟩
  have e : V p - V q = (k * 2 ^ n - j) * 2 ^ c := by
    rw [v1, u1, Nat.sub_mul, Nat.pow_add, Nat.mul_comm (2 ^ c), Nat.mul_assoc]
  have hle : (k * 2 ^ n - j) * 2 ^ c ≤ j * 2 ^ c := by rw [← e, ← u1]; omega
  have hle2 : k * 2 ^ n - j ≤ j := Nat.le_of_mul_le_mul_right hle (Nat.two_pow_pos c)
  rw [e]
  exact told _ _ (by omega)
/-- The order of what is rounded with its sign. -/
def keyR (s : Int) (e : Int) : Int := if s < 0 then -((numP s.natAbs e : Nat) : Int) else ((numP s.natAbs e : Nat) : Int)
theorem keyR_mono (s t e : Int) (h : s ≤ t) : keyR s e ≤ keyR t e := by
  unfold keyR
  by_cases hs : s < 0
  · rw [if_pos hs]
    by_cases ht : t < 0
    · rw [if_pos ht]
      have := numP_mono t.natAbs s.natAbs e (by omega)
      omega
    · rw [if_neg ht]
      omega
  · rw [if_neg hs, if_neg (by omega)]
    have := numP_mono s.natAbs t.natAbs e (by omega)
    omega
/-- The sign's bit. -/
def sgnB (neg : Bool) : Int := if neg then 9223372036854775808 else 0
theorem V_one : V 4607182418800017408 = 4503599627370496 * 2 ^ 1022 := V_split 4503599627370496 1022 (by decide) (by decide)
end Go.Proofs.Ytpakpgjbgehhjaa

/-
  What the program's way of rounding comes to (plain mathematics, no program in sight): a whole number shifted down by n bits, to the nearest, half to even, with a little more; and that it is the rounding of RoundM at 202 bits more.
-/
namespace Go.Proofs.Ytpakpgjbgehhjaa
set_option linter.unusedVariables false

def kk : Nat := 202
theorem kk_is : kk = 202 := rfl
theorem one_kk : 1 < 2 ^ kk := by decide +kernel
/-- What is rounded to, and the flags; a little more is told 202 bits beneath. -/
def numR (x : Nat) (e : Int) (more : Bool) : Nat := if x = 0 then 0 else numP (x * 2 ^ kk + more.toNat) (e - (kk : Nat))
def flagR (x : Nat) (e : Int) (more : Bool) : Nat := if x = 0 then (if more then 3 else 0) else flagP (x * 2 ^ kk + more.toNat) (e - (kk : Nat))
theorem numR_ref (x : Nat) (e : Int) (more : Bool) (hx : x ≠ 0) : numR x e more = numM (x * 2 ^ 200) (e - 200) more ∧ flagR x e more = flagM (x * 2 ^ 200) (e - 200) more := by
  unfold numR flagR numM flagM
  rw [if_neg hx, if_neg hx, Nat.mul_assoc, ← Nat.pow_add, show e - 200 - ((2 : Nat) : Int) = e - ((kk : Nat) : Int) by rw [kk_is]; omega, show 200 + 2 = kk from rfl]
  exact ⟨rfl, rfl⟩
theorem numR_false (x : Nat) (e : Int) : numR x e false = numP x e ∧ flagR x e false = flagP x e := by
  unfold numR flagR
  by_cases hx : x = 0
  · subst hx
    rw [if_pos rfl, if_pos rfl]
    unfold numP flagP patP
    simp
  · rw [if_neg hx, if_neg hx, Bool.toNat_false, Nat.add_zero, numP_scale, flagP_scale, Int.sub_add_cancel]
    exact ⟨rfl, rfl⟩
/-- Where at least one bit falls out, a little more may be told at any place beneath. -/
theorem numR_more (x : Nat) (e : Int) (more : Bool) (hx : 0 < x) (hd : e < lastP x e) : numR x e more = numM x e more ∧ flagR x e more = flagM x e more := by
  cases more
  · rw [(numR_false x e).1, (numR_false x e).2, numM_false, flagM_false]
    exact ⟨rfl, rfl⟩
  · unfold numR flagR numM flagM numP
    rw [if_neg (by omega), if_neg (by omega), Bool.toNat_true, sticky_all x 1 kk 1 2 e hx hd (by omega) one_kk (by omega) (by decide), sticky_flag x 1 kk 1 2 e hx hd (by omega) one_kk (by omega) (by decide)]
    exact ⟨rfl, rfl⟩
/-- The nearest whole number to x by 2^n, as the program finds it. -/
def nearN (x : Nat) (n : Int) (more : Bool) : Nat :=
  if n ≤ 0 then x * 2 ^ (-n).toNat
  else x / 2 ^ n.toNat + (if x / 2 ^ (n.toNat - 1) % 2 = 1 ∧ (x % 2 ^ (n.toNat - 1) ≠ 0 ∨ more = true ∨ x / 2 ^ n.toNat % 2 = 1) then 1 else 0)
def inexN (x : Nat) (n : Int) (more : Bool) : Bool :=
  if n ≤ 0 then more else decide (x / 2 ^ (n.toNat - 1) % 2 = 1 ∨ x % 2 ^ (n.toNat - 1) ≠ 0 ∨ more = true)
theorem bit_split (x c : Nat) : x / 2 ^ (c + 1) = x / 2 ^ c / 2 ∧ x % 2 ^ (c + 1) = x % 2 ^ c + 2 ^ c * (x / 2 ^ c % 2) := by
  refine ⟨?_, ?_⟩
  · rw [Nat.pow_succ, Nat.div_div_eq_div_mul]
  · rw [Nat.pow_succ, Nat.mod_mul]
theorem hk0 : (kk : Int) = 202 := rfl
theorem near_rne (x : Nat) (n : Int) (more : Bool) (hn : -200 < n) : nearN x n more = rne (x * 2 ^ kk + more.toNat) (n + kk).toNat := by
  have hkk := hk0
  unfold nearN
  by_cases h : n ≤ 0
  · rw [if_pos h]
    obtain ⟨m, hm⟩ : ∃ m, (n + kk).toNat = m + 2 := ⟨(n + kk).toNat - 2, by omega⟩
    have e : x * 2 ^ kk = x * 2 ^ (-n).toNat * 2 ^ (m + 2) := by
      rw [Nat.mul_assoc, ← Nat.pow_add]
      congr 2
      omega
    rw [e, hm]
    have hp := Nat.two_pow_pos m
    have h4 : 2 ^ (m + 2) = 4 * 2 ^ m := by rw [Nat.pow_add]; omega
    have ht : more.toNat ≤ 1 := Bool.toNat_le more
    generalize x * 2 ^ (-n).toNat = z
    unfold rne
    have hlt : more.toNat < 2 ^ (m + 2) := by omega
    rw [show z * 2 ^ (m + 2) + more.toNat = more.toNat + 2 ^ (m + 2) * z by rw [Nat.mul_comm]; omega, Nat.add_mul_mod_self_left, Nat.mod_eq_of_lt hlt, Nat.add_mul_div_left _ _ (by omega), Nat.div_eq_of_lt hlt, if_neg (by omega), Nat.zero_add]
  · rw [if_neg h]
    obtain ⟨c, hc⟩ : ∃ c, n.toNat = c + 1 := ⟨n.toNat - 1, by omega⟩
    rw [show (n + kk).toNat = n.toNat + kk by omega, hc, Nat.add_sub_cancel]
    obtain ⟨b1, b2⟩ := bit_split x c
    have hp := Nat.two_pow_pos c
    have hm := Nat.mod_lt x hp
    have hc2 : 2 ^ (c + 1) = 2 * 2 ^ c := by rw [Nat.pow_succ, Nat.mul_comm]
    have hbit : x / 2 ^ c % 2 = 0 ∨ x / 2 ^ c % 2 = 1 := by omega
    cases more
    · rw [show (false : Bool).toNat = 0 from rfl, Nat.add_zero (x * 2 ^ kk), rne_scale]
      unfold rne
      rw [b2]
      generalize x / 2 ^ (c + 1) = q at *
      generalize x % 2 ^ c = r at *
      rw [hc2]
      rcases hbit with hb | hb
      · rw [hb, if_neg (by omega), if_neg (by omega), Nat.add_zero]
      · rw [hb]
        by_cases g : r ≠ 0 ∨ false = true ∨ q % 2 = 1
        · rw [if_pos ⟨rfl, g⟩, if_pos ?_]
          rcases g with g | g | g
          · left; omega
          · cases g
          · by_cases g2 : r = 0
            · right; omega
            · left; omega
        · rw [if_neg (fun k => g k.2), if_neg ?_, Nat.add_zero]
          intro k
          apply g
          rcases k with k | k
          · left; omega
          · right; right; exact k.2
    · rw [Bool.toNat_true, rne_sticky x 1 (c + 1) kk (by omega) (by omega) one_kk, b2, hc2]
      rcases hbit with hb | hb
      · rw [hb, if_neg (by omega), if_neg (by omega)]
      · rw [hb, if_pos ⟨rfl, Or.inr (Or.inl rfl)⟩, if_pos (by omega)]
theorem inex_lost (x : Nat) (n : Int) (more : Bool) (hn : -200 < n) : inexN x n more = lostI (x * 2 ^ kk + more.toNat) (n + kk) := by
  have hkk := hk0
  unfold inexN lostI
  by_cases h : n ≤ 0
  · rw [if_pos h]
    obtain ⟨m, hm⟩ : ∃ m, (n + kk).toNat = m + 2 := ⟨(n + kk).toNat - 2, by omega⟩
    have e : x * 2 ^ kk = 2 ^ (m + 2) * (x * 2 ^ (-n).toNat) := by
      rw [Nat.mul_comm (2 ^ (m + 2)), Nat.mul_assoc, ← Nat.pow_add]
      congr 2
      omega
    have hp := Nat.two_pow_pos m
    have h4 : 2 ^ (m + 2) = 4 * 2 ^ m := by rw [Nat.pow_add]; omega
    have ht : more.toNat ≤ 1 := Bool.toNat_le more
    have hlt : more.toNat < 2 ^ (m + 2) := by omega
    rw [hm, e, Nat.add_comm, Nat.add_mul_mod_self_left, Nat.mod_eq_of_lt hlt]
    cases more <;> simp <;> omega
  · rw [if_neg h]
    obtain ⟨c, hc⟩ : ∃ c, n.toNat = c + 1 := ⟨n.toNat - 1, by omega⟩
    rw [show (n + kk).toNat = kk + n.toNat by omega, hc, Nat.add_sub_cancel, decide_eq_decide]
    obtain ⟨b1, b2⟩ := bit_split x c
    have hp := Nat.two_pow_pos c
    have hbit : x / 2 ^ c % 2 = 0 ∨ x / 2 ^ c % 2 = 1 := by omega
    have key : (x * 2 ^ kk + more.toNat) % 2 ^ (kk + (c + 1)) = more.toNat + 2 ^ kk * (x % 2 ^ (c + 1)) := by
      have ht : more.toNat < 2 ^ kk := Nat.lt_of_le_of_lt (Bool.toNat_le more) one_kk
      rw [Nat.add_comm (x * 2 ^ kk), Nat.mul_comm x, Nat.pow_add, Nat.mod_mul, Nat.add_mul_mod_self_left, Nat.mod_eq_of_lt ht, Nat.add_mul_div_left _ _ (Nat.two_pow_pos _), Nat.div_eq_of_lt ht, Nat.zero_add]
    rw [key, b2]
    have hbig := Nat.two_pow_pos kk
    generalize x % 2 ^ c = r at *
    constructor
    · intro g
      refine ⟨by omega, ?_⟩
      rcases g with g | g | g
      · rw [g]
        have : 0 < 2 ^ kk * (r + 2 ^ c * 1) := Nat.mul_pos hbig (by omega)
        omega
      · have : 0 < 2 ^ kk * (r + 2 ^ c * (x / 2 ^ c % 2)) := Nat.mul_pos hbig (by omega)
        omega
      · rw [g, Bool.toNat_true]; omega
    · intro g
      rcases hbit with hb | hb
      · by_cases hr : r = 0
        · right; right
          cases more
          · exfalso
            apply g.2
            rw [hr, hb]
            simp
          · rfl
        · right; left; exact hr
      · left; exact hb
/-- What Round keeps, where its last bit stands, and what is lost, all of x and e alone. -/
theorem round_parts (x : Nat) (e : Int) (more : Bool) (hx : 0 < x) :
    lastP (x * 2 ^ kk + more.toNat) (e - (kk : Nat)) = lastP x e ∧ keptP (x * 2 ^ kk + more.toNat) (e - (kk : Nat)) = nearN x (lastP x e - e) more
    ∧ lostP (x * 2 ^ kk + more.toNat) (e - (kk : Nat)) = inexN x (lastP x e - e) more ∧ smallP (x * 2 ^ kk + more.toNat) (e - (kk : Nat)) = decide (e + ((bl x).length : Int) ≤ -1022) := by
  have ht : more.toNat < 2 ^ kk := Nat.lt_of_le_of_lt (Bool.toNat_le more) one_kk
  have hl := len_sticky x more.toNat kk hx ht
  have h0 : 0 < (bl x).length := (bl_length_lt x 0).2 (by rw [Nat.pow_zero]; exact hx)
  have hL : lastP (x * 2 ^ kk + more.toNat) (e - (kk : Nat)) = lastP x e := by
    unfold lastP
    rw [hl]
    push_cast
    omega
  have hkk := hk0
  have hn : -200 < lastP x e - e := by unfold lastP; omega
  refine ⟨hL, ?_, ?_, ?_⟩
  · unfold keptP rneI
    rw [hL, if_pos (by omega), near_rne x _ more hn, show lastP x e - (e - ((kk : Nat) : Int)) = lastP x e - e + kk by omega]
  · unfold lostP
    rw [hL, inex_lost x _ more hn, show lastP x e - (e - ((kk : Nat) : Int)) = lastP x e - e + kk by omega]
  · unfold smallP
    rw [hl, decide_eq_decide]
    push_cast
    omega
theorem round_num (x : Nat) (e : Int) (more : Bool) (hx : 0 < x) :
    numR x e more = min (nearN x (lastP x e - e) more + (lastP x e + 1074).toNat * 4503599627370496) 9218868437227405312
    ∧ flagR x e more = (if 9218868437227405312 ≤ nearN x (lastP x e - e) more + (lastP x e + 1074).toNat * 4503599627370496 then 5 else if inexN x (lastP x e - e) more then (if e + ((bl x).length : Int) ≤ -1022 then 3 else 1) else 0) := by
  obtain ⟨a, b, c, d⟩ := round_parts x e more hx
  have hne : x * 2 ^ kk + more.toNat ≠ 0 := by
    have : 0 < x * 2 ^ kk := Nat.mul_pos hx (Nat.two_pow_pos kk)
    omega
  unfold numR flagR numP flagP patP
  rw [if_neg (by omega : ¬ x = 0), if_neg (by omega : ¬ x = 0), if_neg hne, a, b, c, d]
  refine ⟨rfl, ?_⟩
  simp only [ne_eq, hne, not_false_eq_true, true_and, decide_eq_true_eq]
theorem near_bd (x : Nat) (e : Int) (more : Bool) (hx : 0 < x) : nearN x (lastP x e - e) more ≤ 9007199254740992 ∧ (4503599627370496 ≤ nearN x (lastP x e - e) more ∨ lastP x e = -1074) := by
  obtain ⟨a, b, c, d⟩ := round_parts x e more hx
  rw [← b]
  refine ⟨keptP_le _ _, ?_⟩
  have hlm : -1074 ≤ lastP x e := by unfold lastP; omega
  by_cases h : lastP x e = -1074
  · exact Or.inr h
  · left
    refine keptP_ge _ _ ?_ (by rw [a]; omega)
    have : 0 < x * 2 ^ kk := Nat.mul_pos hx (Nat.two_pow_pos kk)
    omega
end Go.Proofs.Ytpakpgjbgehhjaa

/-
  Plain facts on patterns of 64 bits (no program in sight): what masks, shifts and the sign bit come to, as integer arithmetic. No conditions but that a pattern lies in [0, 2^64).
-/
namespace Go.Proofs.Ytpakpgjbgehhjaa

theorem and_sign (b : Int) (h0 : 0 ≤ b) (h1 : b < 18446744073709551616) : bits .and .u64 b 9223372036854775808 = b / 9223372036854775808 * 9223372036854775808 := by
  rw [u64_and b _ h0 h1 (by decide) (by decide)]
  have := nat_bit 63 b.toNat
  simp only [show (9223372036854775808 : Int).toNat = 2 ^ 63 from rfl]
  rw [this]
  omega
theorem and_quiet (b : Int) (h0 : 0 ≤ b) (h1 : b < 18446744073709551616) : bits .and .u64 b 2251799813685248 = b / 2251799813685248 % 2 * 2251799813685248 := by
  rw [u64_and b _ h0 h1 (by decide) (by decide)]
  have := nat_bit 51 b.toNat
  simp only [show (2251799813685248 : Int).toNat = 2 ^ 51 from rfl]
  rw [this]
  omega
theorem and_exp (b : Int) (h0 : 0 ≤ b) (h1 : b < 18446744073709551616) : bits .and .u64 b 2047 = b % 2048 := by
  rw [u64_and b _ h0 h1 (by decide) (by decide)]
  have := nat_mask11 b.toNat
  simp only [show (2047 : Int).toNat = 2047 from rfl]
  rw [this]
  omega
theorem and_frac (b : Int) (h0 : 0 ≤ b) (h1 : b < 18446744073709551616) : bits .and .u64 b 4503599627370495 = b % 4503599627370496 := by
  rw [u64_and b _ h0 h1 (by decide) (by decide)]
  have := nat_mask52 b.toNat
  simp only [show (4503599627370495 : Int).toNat = 4503599627370495 from rfl]
  rw [this]
  omega
theorem and_exp_i (n : Int) : bits .and .i64 n 2047 = n % 2048 := by
  have h127 : (BitVec.ofInt 64 2047).toNat = 2 ^ 11 - 1 := by decide
  have key : (BitVec.ofInt 64 n &&& BitVec.ofInt 64 2047).toNat = (n % ((2 ^ 64 : Nat) : Int)).toNat % 2 ^ 11 := by
    rw [BitVec.toNat_and, BitVec.toNat_ofInt, h127, Nat.and_two_pow_sub_one_eq_mod]
  show IntKind.i64.wrap ((BitVec.ofInt 64 n &&& BitVec.ofInt 64 2047).toNat : Nat) = n % 2048
  rw [key, IntKind.wrap_i64]
  omega
theorem or_join52 (a b : Int) (h0 : 0 ≤ a) (h1 : a < 18446744073709551616) (g : a % 4503599627370496 = 0) (h2 : 0 ≤ b) (h3 : b < 4503599627370496) : bits .or .u64 a b = a + b := by
  rw [u64_or a b h0 h1 h2 (by omega)]
  rw [nat_join 52 a.toNat b.toNat (by omega) (by omega)]
  omega
theorem or_sign (b : Int) (h0 : 0 ≤ b) (h1 : b < 9223372036854775808) : bits .or .u64 b 9223372036854775808 = b + 9223372036854775808 := by
  rw [u64_or b _ h0 (by omega) (by decide) (by decide), Nat.or_comm]
  rw [nat_join 63 _ b.toNat (by decide) (by omega)]
  omega
theorem or_signs (b s : Int) (h0 : 0 ≤ b) (h1 : b < 9223372036854775808) (h2 : 0 ≤ s) (h3 : s < 2) : bits .or .u64 b (s * 9223372036854775808) = b + s * 9223372036854775808 := by
  have : s = 0 ∨ s = 1 := by omega
  rcases this with rfl | rfl
  · rw [u64_or b _ h0 (by omega) (by decide) (by decide), Nat.or_comm]
    rw [nat_join 63 _ b.toNat (by decide) (by omega)]
    omega
  · exact or_sign b h0 h1
theorem nat_xor_top (c : Nat) (h : c < 2 ^ 63) : c ^^^ 2 ^ 63 = c + 2 ^ 63 := by
  have e : c + 2 ^ 63 = 2 ^ 63 ||| c := by rw [nat_join 63 (2 ^ 63) c (by decide) h]; omega
  rw [e]
  apply Nat.eq_of_testBit_eq
  intro j
  rw [Nat.testBit_xor, Nat.testBit_or, Nat.testBit_two_pow]
  by_cases hj : 63 = j
  · subst hj
    simp [Nat.testBit_lt_two_pow h]
  · simp [hj]
theorem nat_xor_top' (c : Nat) (h : c < 2 ^ 63) : (c + 2 ^ 63) ^^^ 2 ^ 63 = c := by
  rw [← nat_xor_top c h, Nat.xor_assoc, Nat.xor_self, Nat.xor_zero]
theorem xor_sign (b : Int) (h0 : 0 ≤ b) (h1 : b < 18446744073709551616) : bits .xor .u64 b 9223372036854775808 = (b + 9223372036854775808) % 18446744073709551616 := by
  rw [u64_xor b _ h0 h1 (by decide) (by decide)]
  simp only [show (9223372036854775808 : Int).toNat = 2 ^ 63 from rfl]
  by_cases h : b < 9223372036854775808
  · rw [nat_xor_top b.toNat (by omega)]
    omega
  · obtain ⟨c, hc⟩ : ∃ c : Nat, b.toNat = c + 2 ^ 63 := ⟨b.toNat - 2 ^ 63, by omega⟩
    rw [hc, nat_xor_top' c (by omega)]
    omega
theorem andNot_sign (b : Int) (h0 : 0 ≤ b) (h1 : b < 18446744073709551616) : bits .andNot .u64 b 9223372036854775808 = b % 9223372036854775808 := by
  rw [u64_andNot b _ h0 h1 (by decide) (by decide)]
  have := nat_mask63 b.toNat
  simp only [show (18446744073709551615 - (9223372036854775808 : Int).toNat) = 9223372036854775807 from rfl]
  rw [this]
  omega

/-- What a pattern stands for: 1 zero, 2 below the normal ones, 3 normal, 4 infinity, 5 no number. -/
def wKind (b : Int) : Int :=
  if b / 4503599627370496 % 2048 = 0 then (if b % 4503599627370496 = 0 then 1 else 2)
  else if b / 4503599627370496 % 2048 < 2047 then 3
  else if b % 4503599627370496 = 0 then 4 else 5
/-- The least pattern above one in value. -/
def wNext (b : Int) : Int :=
  if wKind b = 5 ∨ b = 9218868437227405312 then b
  else if wKind b = 1 then 1
  else if 9223372036854775808 ≤ b then b - 1 else b + 1
def wFlip (b : Int) : Int := (b + 9223372036854775808) % 18446744073709551616
def wPrev (b : Int) : Int := wFlip (wNext (wFlip b))
def wMant (b : Int) : Int :=
  if wKind b = 3 then 4503599627370496 + b % 4503599627370496 else if wKind b = 2 then b % 4503599627370496 else 0
def wPow (b : Int) : Int :=
  if wKind b = 3 then b / 4503599627370496 % 2048 - 1075 else if wKind b = 2 then -1074 else 0

/-- The pattern of a sign, an exponent's lowest 11 bits and a fraction's lowest 52. -/
def wMake (n : Bool) (x b : Int) : Int := (if n then 9223372036854775808 else 0) + x % 2048 * 4503599627370496 + b % 4503599627370496
theorem wMake_bd (n : Bool) (x b : Int) : 0 ≤ wMake n x b ∧ wMake n x b < 18446744073709551616 := by
  unfold wMake; split <;> omega

theorem wKind_bd (b : Int) : 1 ≤ wKind b ∧ wKind b ≤ 5 := by
  unfold wKind; repeat' split
  all_goals omega
theorem wFlip_bd (b : Int) : 0 ≤ wFlip b ∧ wFlip b < 18446744073709551616 := by
  unfold wFlip; omega
theorem wNext_bd (b : Int) (h0 : 0 ≤ b) (h1 : b < 18446744073709551616) : 0 ≤ wNext b ∧ wNext b < 18446744073709551616 := by
  unfold wNext wKind; repeat' split
  all_goals omega
theorem wKind_nan (b : Int) : wKind b = 5 ↔ 9218868437227405312 < b % 9223372036854775808 := by
  unfold wKind; repeat' split
  all_goals omega
theorem wKind_zero (b : Int) : wKind b = 1 ↔ b % 9223372036854775808 = 0 := by
  unfold wKind; repeat' split
  all_goals omega
theorem wKind_inf (b : Int) : wKind b = 4 ↔ b % 9223372036854775808 = 9218868437227405312 := by
  unfold wKind; repeat' split
  all_goals omega
theorem wNext_eq (b : Int) : wNext b = if 9218868437227405312 < b % 9223372036854775808 ∨ b = 9218868437227405312 then b
    else if b % 9223372036854775808 = 0 then 1 else if 9223372036854775808 ≤ b then b - 1 else b + 1 := by
  unfold wNext
  simp only [wKind_nan, wKind_zero]
theorem wPrev_eq (b : Int) (h0 : 0 ≤ b) (h1 : b < 18446744073709551616) : wPrev b = if 9218868437227405312 < b % 9223372036854775808 ∨ b = 18442240474082181120 then b
    else if b % 9223372036854775808 = 0 then 9223372036854775809 else if 9223372036854775808 ≤ b then b + 1 else b - 1 := by
  unfold wPrev
  rw [wNext_eq]
  unfold wFlip
  repeat' split
  all_goals omega

end Go.Proofs.Ytpakpgjbgehhjaa

/-
  What the parts of a pattern tell of what it stands for (plain mathematics, no program in sight).
-/
namespace Go.Proofs.Ytpakpgjbgehhjaa
set_option linter.unusedVariables false

/-- A pattern without its sign. -/
def mag (b : Int) : Nat := (b % 9223372036854775808).toNat
theorem mag_lt (b : Int) : mag b < 9223372036854775808 := by unfold mag; omega
theorem parts_bd (b : Int) : 0 ≤ wMant b ∧ wMant b < 9007199254740992 ∧ -1074 ≤ wPow b ∧ wPow b ≤ 971 := by
  unfold wMant wPow wKind
  repeat' split
  all_goals omega
theorem fin_mag (b : Int) : (b / 4503599627370496 % 2048 < 2047) ↔ mag b < 9218868437227405312 := by unfold mag; omega
theorem parts_V (b : Int) (hf : mag b < 9218868437227405312) : V (mag b) = (wMant b).toNat * 2 ^ (wPow b + 1074).toNat := by
  unfold mag at *
  have hk : wKind b = 1 ∨ wKind b = 2 ∨ wKind b = 3 := by
    unfold wKind; repeat' split
    all_goals omega
  rcases hk with hk | hk | hk
  · have := (wKind_zero b).1 hk
    unfold wMant
    rw [hk, if_neg (by decide), if_neg (by decide), this]
    exact V_zero.trans (Nat.zero_mul _).symm
  · have h2 : b / 4503599627370496 % 2048 = 0 ∧ b % 4503599627370496 ≠ 0 := by
      unfold wKind at hk; repeat' split at hk
      all_goals omega
    unfold wMant wPow
    rw [hk, if_neg (by decide), if_pos rfl, if_neg (by decide), if_pos rfl, show ((-1074 : Int) + 1074).toNat = 0 from rfl, Nat.pow_zero, Nat.mul_one]
    unfold V
    rw [if_pos (by omega)]
    omega
  · have h2 : b / 4503599627370496 % 2048 ≠ 0 ∧ b / 4503599627370496 % 2048 < 2047 := by
      unfold wKind at hk; repeat' split at hk
      all_goals omega
    unfold wMant wPow
    rw [hk, if_pos rfl, if_pos rfl]
    unfold V
    rw [if_neg (by omega)]
    congr 1
    · omega
    · congr 1
      omega
theorem num_V (p : Nat) (hp : p < 9218868437227405312) : numP (V p) (-1074) = p ∧ flagP (V p) (-1074) = 0 := by
  unfold numP flagP
  rw [patP_V, if_neg (by omega)]
  refine ⟨by omega, ?_⟩
  rcases lostP_V p with h | h
  · rw [h, if_neg (by simp)]
  · rw [h, if_neg (by simp)]
theorem parts_num (b : Int) (hf : mag b < 9218868437227405312) : numP (wMant b).toNat (wPow b) = mag b ∧ flagP (wMant b).toNat (wPow b) = 0 := by
  obtain ⟨h1, h2, h3, h4⟩ := parts_bd b
  obtain ⟨a, c⟩ := num_V (mag b) hf
  rw [parts_V b hf] at a c
  rw [numP_scale] at a
  rw [flagP_scale] at c
  rw [show (-1074 : Int) + ((wPow b + 1074).toNat : Int) = wPow b by omega] at a c
  exact ⟨a, c⟩
theorem whole_sign (b : Int) (h0 : 0 ≤ b) (h1 : b < 18446744073709551616) : b = sgnB (decide (9223372036854775808 ≤ b)) + (mag b : Int) := by
  unfold sgnB mag
  by_cases h : 9223372036854775808 ≤ b
  · rw [decide_eq_true h, if_pos rfl]; omega
  · rw [decide_eq_false h, if_neg (by decide)]; omega
theorem and_63_i (n : Int) : bits .and .i64 n 63 = n % 64 := by
  have h127 : (BitVec.ofInt 64 63).toNat = 2 ^ 6 - 1 := by decide
  have key : (BitVec.ofInt 64 n &&& BitVec.ofInt 64 63).toNat = (n % ((2 ^ 64 : Nat) : Int)).toNat % 2 ^ 6 := by
    rw [BitVec.toNat_and, BitVec.toNat_ofInt, h127, Nat.and_two_pow_sub_one_eq_mod]
  show IntKind.i64.wrap ((BitVec.ofInt 64 n &&& BitVec.ofInt 64 63).toNat : Nat) = n % 64
  rw [key, IntKind.wrap_i64]
  omega
theorem and_255_i (n : Int) : bits .and .i64 n 255 = n % 256 := by
  have h127 : (BitVec.ofInt 64 255).toNat = 2 ^ 8 - 1 := by decide
  have key : (BitVec.ofInt 64 n &&& BitVec.ofInt 64 255).toNat = (n % ((2 ^ 64 : Nat) : Int)).toNat % 2 ^ 8 := by
    rw [BitVec.toNat_and, BitVec.toNat_ofInt, h127, Nat.and_two_pow_sub_one_eq_mod]
  show IntKind.i64.wrap ((BitVec.ofInt 64 n &&& BitVec.ofInt 64 255).toNat : Nat) = n % 256
  rw [key, IntKind.wrap_i64]
  omega
theorem and_511_i (n : Int) : bits .and .i64 n 511 = n % 512 := by
  have h127 : (BitVec.ofInt 64 511).toNat = 2 ^ 9 - 1 := by decide
  have key : (BitVec.ofInt 64 n &&& BitVec.ofInt 64 511).toNat = (n % ((2 ^ 64 : Nat) : Int)).toNat % 2 ^ 9 := by
    rw [BitVec.toNat_and, BitVec.toNat_ofInt, h127, Nat.and_two_pow_sub_one_eq_mod]
  show IntKind.i64.wrap ((BitVec.ofInt 64 n &&& BitVec.ofInt 64 511).toNat : Nat) = n % 512
  rw [key, IntKind.wrap_i64]
  omega
theorem and_1023_i (n : Int) : bits .and .i64 n 1023 = n % 1024 := by
  have h127 : (BitVec.ofInt 64 1023).toNat = 2 ^ 10 - 1 := by decide
  have key : (BitVec.ofInt 64 n &&& BitVec.ofInt 64 1023).toNat = (n % ((2 ^ 64 : Nat) : Int)).toNat % 2 ^ 10 := by
    rw [BitVec.toNat_and, BitVec.toNat_ofInt, h127, Nat.and_two_pow_sub_one_eq_mod]
  show IntKind.i64.wrap ((BitVec.ofInt 64 n &&& BitVec.ofInt 64 1023).toNat : Nat) = n % 1024
  rw [key, IntKind.wrap_i64]
  omega
end Go.Proofs.Ytpakpgjbgehhjaa

/-
  Sums, products and quotients of patterns, as the document defines them (plain mathematics, no program in sight), and how the program lays them.
-/
namespace Go.Proofs.Ytpakpgjbgehhjaa
set_option linter.unusedVariables false

def sgn (b : Int) : Bool := decide (9223372036854775808 ≤ b)
/-- What a pattern stands for, times 2^1074. -/
def sv (b : Int) : Int := if sgn b then -((V (mag b) : Nat) : Int) else ((V (mag b) : Nat) : Int)
def sigs (b : Int) : Bool := decide (wKind b = 5 ∧ b / 2251799813685248 % 2 = 0)
def nanF (a b : Int) : Int := if sigs a || sigs b then 16 else 0
def isNan (b : Int) : Bool := decide (9218868437227405312 < mag b)
def isInf (b : Int) : Bool := decide (mag b = 9218868437227405312)
def isZ (b : Int) : Bool := decide (mag b = 0)
/-- A number with its sign, rounded. -/
def rndS (s : Int) : Int × Int := (sgnB (decide (s < 0)) + ((numP s.natAbs (-1074) : Nat) : Int), ((flagP s.natAbs (-1074) : Nat) : Int))
def addS (a b : Int) : Int × Int :=
  if isNan a || isNan b then (9221120237041090560, nanF a b)
  else if isInf a && isInf b && decide (a ≠ b) then (9221120237041090560, 16)
  else if isInf a then (a, 0)
  else if isInf b then (b, 0)
  else if isZ a && isZ b then (sgnB (sgn a && sgn b), 0)
  else rndS (sv a + sv b)
def mulS (a b : Int) : Int × Int :=
  if isNan a || isNan b then (9221120237041090560, nanF a b)
  else if (isInf a && isZ b) || (isZ a && isInf b) then (9221120237041090560, 16)
  else if isInf a || isInf b then (sgnB (sgn a != sgn b) + 9218868437227405312, 0)
  else (sgnB (sgn a != sgn b) + ((numP (V (mag a) * V (mag b)) (-2148) : Nat) : Int), ((flagP (V (mag a) * V (mag b)) (-2148) : Nat) : Int))
def jj : Nat := 3000
theorem jj_is : (jj : Int) = 3000 := rfl
/-- The quotient of two numbers, with 3000 bits more than it needs. -/
def quoN (x y : Nat) : Nat := numM (x * 2 ^ jj / y) (-(jj : Int)) (decide (x * 2 ^ jj % y ≠ 0))
def quoF (x y : Nat) : Nat := flagM (x * 2 ^ jj / y) (-(jj : Int)) (decide (x * 2 ^ jj % y ≠ 0))
def divS (a b : Int) : Int × Int :=
  if isNan a || isNan b then (9221120237041090560, nanF a b)
  else if (isInf a && isInf b) || (isZ a && isZ b) then (9221120237041090560, 16)
  else if isInf a then (sgnB (sgn a != sgn b) + 9218868437227405312, 0)
  else if isInf b || isZ a then (sgnB (sgn a != sgn b), 0)
  else if isZ b then (sgnB (sgn a != sgn b) + 9218868437227405312, 8)
  else (sgnB (sgn a != sgn b) + ((quoN (V (mag a)) (V (mag b)) : Nat) : Int), ((quoF (V (mag a)) (V (mag b)) : Nat) : Int))

theorem numP_le (x : Nat) (e : Int) : numP x e ≤ 9218868437227405312 := by unfold numP; omega
theorem flagP_le (x : Nat) (e : Int) : flagP x e ≤ 5 := by
  unfold flagP; repeat' split
  all_goals omega
theorem numR_le (x : Nat) (e : Int) (m : Bool) : numR x e m ≤ 9218868437227405312 := by
  unfold numR; split
  · omega
  · exact numP_le _ _
theorem sgnB_le (n : Bool) : 0 ≤ sgnB n ∧ sgnB n ≤ 9223372036854775808 := by cases n <;> simp [sgnB]
theorem nanF_cases (a b : Int) : nanF a b = 0 ∨ nanF a b = 16 := by unfold nanF; split <;> omega
theorem rndS_bd (s : Int) : 0 ≤ (rndS s).1 ∧ (rndS s).1 < 18446744073709551616 ∧ 0 ≤ (rndS s).2 ∧ (rndS s).2 ≤ 31 := by
  have h1 := numP_le s.natAbs (-1074)
  have h2 := flagP_le s.natAbs (-1074)
  have h3 := sgnB_le (decide (s < 0))
  unfold rndS
  refine ⟨?_, ?_, ?_, ?_⟩ <;> simp only <;> omega
theorem addS_bd (a b : Int) (h0 : 0 ≤ a) (h1 : a < 18446744073709551616) (g0 : 0 ≤ b) (g1 : b < 18446744073709551616) : 0 ≤ (addS a b).1 ∧ (addS a b).1 < 18446744073709551616 ∧ 0 ≤ (addS a b).2 ∧ (addS a b).2 ≤ 31 := by
  have hn := nanF_cases a b
  have hs := sgnB_le (sgn a && sgn b)
  have hr := rndS_bd (sv a + sv b)
  unfold addS
  repeat' split
  all_goals first | exact hr | (refine ⟨?_, ?_, ?_, ?_⟩ <;> simp only <;> omega)
theorem mulS_bd (a b : Int) : 0 ≤ (mulS a b).1 ∧ (mulS a b).1 < 18446744073709551616 ∧ 0 ≤ (mulS a b).2 ∧ (mulS a b).2 ≤ 31 := by
  have hn := nanF_cases a b
  have hs := sgnB_le (sgn a != sgn b)
  have h1 := numP_le (V (mag a) * V (mag b)) (-2148)
  have h2 := flagP_le (V (mag a) * V (mag b)) (-2148)
  unfold mulS
  repeat' split
  all_goals (refine ⟨?_, ?_, ?_, ?_⟩ <;> simp only <;> omega)
theorem numM_le (x : Nat) (e : Int) (m : Bool) : numM x e m ≤ 9218868437227405312 := by unfold numM; exact numP_le _ _
theorem flagM_le (x : Nat) (e : Int) (m : Bool) : flagM x e m ≤ 5 := by unfold flagM; exact flagP_le _ _
theorem divS_bd (a b : Int) : 0 ≤ (divS a b).1 ∧ (divS a b).1 < 18446744073709551616 ∧ 0 ≤ (divS a b).2 ∧ (divS a b).2 ≤ 31 := by
  have hn := nanF_cases a b
  have hs := sgnB_le (sgn a != sgn b)
  have h1 : quoN (V (mag a)) (V (mag b)) ≤ 9218868437227405312 := by unfold quoN; exact numM_le _ _ _
  have h2 : quoF (V (mag a)) (V (mag b)) ≤ 5 := by unfold quoF; exact flagM_le _ _ _
  unfold divS
  repeat' split
  all_goals (refine ⟨?_, ?_, ?_, ?_⟩ <;> simp only <;> omega)

/-- Bits beneath, told as a little more: of the program's rounding. -/
theorem shift_num (N d : Nat) (E : Int) (hbig : N % 2 ^ d ≠ 0 → 18014398509481984 ≤ N / 2 ^ d) :
    numR (N / 2 ^ d) E (decide (N % 2 ^ d ≠ 0)) = numP N (E - d) ∧ flagR (N / 2 ^ d) E (decide (N % 2 ^ d ≠ 0)) = flagP N (E - d) := by
  by_cases h : N % 2 ^ d = 0
  · have hN := Nat.div_add_mod N (2 ^ d)
    rw [h, Nat.add_zero, Nat.mul_comm] at hN
    rw [show decide (N % 2 ^ d ≠ 0) = false from decide_eq_false (fun k => k h), (numR_false _ _).1, (numR_false _ _).2]
    have a := numP_scale (N / 2 ^ d) (E - d) d
    have b := flagP_scale (N / 2 ^ d) (E - d) d
    rw [hN, Int.sub_add_cancel] at a b
    exact ⟨a.symm, b.symm⟩
  · have hb := hbig h
    have hlen : 54 < (bl (N / 2 ^ d)).length := (bl_length_lt _ 54).2 hb
    have hL : E < lastP (N / 2 ^ d) E := by unfold lastP; omega
    have m := more_shift N d E (by omega) hL
    rw [(numR_more _ E _ (by omega) hL).1, (numR_more _ E _ (by omega) hL).2]
    exact m
theorem lay_num (M : Nat) (e : Int) (he : -1074 ≤ e) : numP (M * 2 ^ (e + 1074).toNat) (-1074) = numP M e ∧ flagP (M * 2 ^ (e + 1074).toNat) (-1074) = flagP M e := by
  rw [numP_scale, flagP_scale, show (-1074 : Int) + ((e + 1074).toNat : Int) = e by omega]
  exact ⟨rfl, rfl⟩
theorem lay_64 (M : Nat) (e : Int) : numP (M * 2 ^ 64) (e - 64) = numP M e ∧ flagP (M * 2 ^ 64) (e - 64) = flagP M e := by
  rw [numP_scale, flagP_scale, show e - 64 + ((64 : Nat) : Int) = e by omega]
  exact ⟨rfl, rfl⟩
theorem lost_deep (P d : Nat) (h : P * 2 ^ 64 % 2 ^ d ≠ 0) : 64 < d := by
  rcases Nat.lt_or_ge 64 d with g | g
  · exact g
  · exfalso
    apply h
    obtain ⟨k, hk⟩ : ∃ k, 64 = d + k := ⟨64 - d, by omega⟩
    rw [hk, Nat.pow_add, ← Nat.mul_assoc, Nat.mul_comm P, Nat.mul_assoc]
    exact Nat.mul_mod_right _ _
theorem add_lay (W P : Nat) (e1 e2 : Int) (h1 : -1074 ≤ e1) (h2 : -1074 ≤ e2) (hP : P = 0 ∨ (e2 ≤ e1 ∧ (e1 = e2 ∨ 4503599627370496 ≤ W))) :
    numR (W * 2 ^ 64 + P * 2 ^ 64 / 2 ^ (e1 - e2).toNat) (e1 - 64) (decide (P * 2 ^ 64 % 2 ^ (e1 - e2).toNat ≠ 0)) = numP (W * 2 ^ (e1 + 1074).toNat + P * 2 ^ (e2 + 1074).toNat) (-1074)
    ∧ flagR (W * 2 ^ 64 + P * 2 ^ 64 / 2 ^ (e1 - e2).toNat) (e1 - 64) (decide (P * 2 ^ 64 % 2 ^ (e1 - e2).toNat ≠ 0)) = flagP (W * 2 ^ (e1 + 1074).toNat + P * 2 ^ (e2 + 1074).toNat) (-1074) := by
  rcases hP with rfl | ⟨he, hW⟩
  · rw [Nat.zero_mul, Nat.zero_div, Nat.zero_mod, Nat.zero_mul, Nat.add_zero, Nat.add_zero, show decide ((0 : Nat) ≠ 0) = false from rfl, (numR_false _ _).1, (numR_false _ _).2, (lay_64 W e1).1, (lay_64 W e1).2, (lay_num W e1 h1).1, (lay_num W e1 h1).2]
    exact ⟨rfl, rfl⟩
  · obtain ⟨d, hd⟩ : ∃ d : Nat, (e1 - e2).toNat = d := ⟨_, rfl⟩
    rw [hd]
    have hp := Nat.two_pow_pos d
    have hN : (W * 2 ^ d + P) * 2 ^ 64 = P * 2 ^ 64 + 2 ^ d * (W * 2 ^ 64) := by rw [Nat.add_mul, Nat.mul_comm W, Nat.mul_assoc, Nat.add_comm]
    have q1 : (W * 2 ^ d + P) * 2 ^ 64 / 2 ^ d = W * 2 ^ 64 + P * 2 ^ 64 / 2 ^ d := by rw [hN, Nat.add_mul_div_left _ _ hp, Nat.add_comm]
    have q2 : (W * 2 ^ d + P) * 2 ^ 64 % 2 ^ d = P * 2 ^ 64 % 2 ^ d := by rw [hN, Nat.add_mul_mod_self_left]
    have s := shift_num ((W * 2 ^ d + P) * 2 ^ 64) d (e1 - 64) (by
      intro hl
      rw [q2] at hl
      have := lost_deep P d hl
      have hW2 : 4503599627370496 ≤ W := by omega
      rw [q1]
      exact Nat.le_trans (Nat.le_trans (by decide) (Nat.mul_le_mul_right (2 ^ 64) hW2)) (Nat.le_add_right _ _))
    rw [q1, q2, show e1 - 64 - (d : Int) = e2 - 64 by omega, (lay_64 _ e2).1, (lay_64 _ e2).2, ← (lay_num _ e2 h2).1, ← (lay_num _ e2 h2).2] at s
    rw [s.1, s.2, Nat.add_mul, Nat.mul_assoc, ← Nat.pow_add, show d + (e2 + 1074).toNat = (e1 + 1074).toNat by omega]
    exact ⟨rfl, rfl⟩
theorem sub_lay (W P : Nat) (e1 e2 : Int) (h1 : -1074 ≤ e1) (h2 : -1074 ≤ e2) (hPl : P < 9007199254740992) (hP : P = 0 ∨ (e2 ≤ e1 ∧ (e1 = e2 ∨ 4503599627370496 ≤ W))) (hle : P * 2 ^ (e2 + 1074).toNat ≤ W * 2 ^ (e1 + 1074).toNat) :
    (P * 2 ^ 64 / 2 ^ (e1 - e2).toNat + (decide (P * 2 ^ 64 % 2 ^ (e1 - e2).toNat ≠ 0)).toNat ≤ W * 2 ^ 64)
    ∧ (W * 2 ^ 64 - (P * 2 ^ 64 / 2 ^ (e1 - e2).toNat + (decide (P * 2 ^ 64 % 2 ^ (e1 - e2).toNat ≠ 0)).toNat) = 0 ↔ W * 2 ^ (e1 + 1074).toNat = P * 2 ^ (e2 + 1074).toNat)
    ∧ numR (W * 2 ^ 64 - (P * 2 ^ 64 / 2 ^ (e1 - e2).toNat + (decide (P * 2 ^ 64 % 2 ^ (e1 - e2).toNat ≠ 0)).toNat)) (e1 - 64) (decide (P * 2 ^ 64 % 2 ^ (e1 - e2).toNat ≠ 0)) = numP (W * 2 ^ (e1 + 1074).toNat - P * 2 ^ (e2 + 1074).toNat) (-1074)
    ∧ flagR (W * 2 ^ 64 - (P * 2 ^ 64 / 2 ^ (e1 - e2).toNat + (decide (P * 2 ^ 64 % 2 ^ (e1 - e2).toNat ≠ 0)).toNat)) (e1 - 64) (decide (P * 2 ^ 64 % 2 ^ (e1 - e2).toNat ≠ 0)) = flagP (W * 2 ^ (e1 + 1074).toNat - P * 2 ^ (e2 + 1074).toNat) (-1074) := by
  rcases hP with rfl | ⟨he, hW⟩
  · have hp1 := Nat.two_pow_pos (e1 + 1074).toNat
    rw [Nat.zero_mul, Nat.zero_div, Nat.zero_mod, Nat.zero_mul, show decide ((0 : Nat) ≠ 0) = false from rfl, show (false : Bool).toNat = 0 from rfl, Nat.add_zero, Nat.sub_zero, Nat.sub_zero, (numR_false _ _).1, (numR_false _ _).2, (lay_64 W e1).1, (lay_64 W e1).2, (lay_num W e1 h1).1, (lay_num W e1 h1).2]
    refine ⟨Nat.zero_le _, ?_, rfl, rfl⟩
    rw [Nat.mul_eq_zero, Nat.mul_eq_zero]
    omega
  · obtain ⟨d, hd⟩ : ∃ d : Nat, (e1 - e2).toNat = d := ⟨_, rfl⟩
    rw [hd]
    have hp := Nat.two_pow_pos d
    have hg := Nat.two_pow_pos (e2 + 1074).toNat
    have e12 : W * 2 ^ (e1 + 1074).toNat = W * 2 ^ d * 2 ^ (e2 + 1074).toNat := by
      rw [Nat.mul_assoc, ← Nat.pow_add, show d + (e2 + 1074).toNat = (e1 + 1074).toNat by omega]
    rw [e12] at hle ⊢
    have hle2 : P ≤ W * 2 ^ d := Nat.le_of_mul_le_mul_right hle hg
    have hle3 : P * 2 ^ 64 ≤ W * 2 ^ 64 * 2 ^ d := by
      rw [Nat.mul_assoc, Nat.mul_comm (2 ^ 64), ← Nat.mul_assoc]
      exact Nat.mul_le_mul_right _ hle2
    obtain ⟨f1, f2⟩ := sub_floor (W * 2 ^ 64) (P * 2 ^ 64) d hle3
    have hN : W * 2 ^ 64 * 2 ^ d - P * 2 ^ 64 = (W * 2 ^ d - P) * 2 ^ 64 := by
      rw [Nat.sub_mul, Nat.mul_assoc, Nat.mul_comm (2 ^ 64), ← Nat.mul_assoc]
    rw [hN] at f1 f2
    have hbound : P * 2 ^ 64 / 2 ^ d + (decide (P * 2 ^ 64 % 2 ^ d ≠ 0)).toNat ≤ W * 2 ^ 64 := by
      by_cases hl : P * 2 ^ 64 % 2 ^ d = 0
      · rw [decide_eq_false (fun k => k hl), show (false : Bool).toNat = 0 from rfl, Nat.add_zero]
        exact Nat.div_le_of_le_mul (by rw [Nat.mul_comm (2 ^ d)]; exact hle3)
      · rw [decide_eq_true hl, show (true : Bool).toNat = 1 from rfl]
        have : P * 2 ^ 64 / 2 ^ d < W * 2 ^ 64 := by
          rw [Nat.div_lt_iff_lt_mul hp]
          rcases Nat.lt_or_eq_of_le hle3 with g | g
          · exact g
          · exfalso; apply hl; rw [g]; exact Nat.mul_mod_left _ _
        omega
    have hx : W * 2 ^ 64 - (P * 2 ^ 64 / 2 ^ d + (decide (P * 2 ^ 64 % 2 ^ d ≠ 0)).toNat) = (W * 2 ^ d - P) * 2 ^ 64 / 2 ^ d := by rw [f1, Nat.sub_sub]
    have hdec : decide (P * 2 ^ 64 % 2 ^ d ≠ 0) = decide ((W * 2 ^ d - P) * 2 ^ 64 % 2 ^ d ≠ 0) := by rw [decide_eq_decide]; exact f2.symm
    have big : (W * 2 ^ d - P) * 2 ^ 64 % 2 ^ d ≠ 0 → 18014398509481984 ≤ (W * 2 ^ d - P) * 2 ^ 64 / 2 ^ d := by
      intro hl
      have hd64 := lost_deep P d (f2.1 hl)
      have hW2 : 4503599627370496 ≤ W := by omega
      rw [f1]
      have t : (decide (P * 2 ^ 64 % 2 ^ d ≠ 0)).toNat ≤ 1 := Bool.toNat_le _
      have u : P * 2 ^ 64 / 2 ^ d ≤ P := by
        refine Nat.div_le_of_le_mul ?_
        rw [Nat.mul_comm]
        exact Nat.mul_le_mul_right _ (Nat.pow_le_pow_right (by decide) (by omega))
      have v : 4503599627370496 * 2 ^ 64 ≤ W * 2 ^ 64 := Nat.mul_le_mul_right _ hW2
      rw [show 4503599627370496 * 2 ^ 64 = 83076749736557242056487941267521536 by decide] at v
      omega
    have s := shift_num ((W * 2 ^ d - P) * 2 ^ 64) d (e1 - 64) big
    rw [show e1 - 64 - (d : Int) = e2 - 64 by omega, (lay_64 _ e2).1, (lay_64 _ e2).2, ← (lay_num _ e2 h2).1, ← (lay_num _ e2 h2).2] at s
    refine ⟨hbound, ?_, ?_, ?_⟩
    · rw [hx]
      constructor
      · intro hz
        by_cases hl : (W * 2 ^ d - P) * 2 ^ 64 % 2 ^ d = 0
        · have := Nat.div_add_mod ((W * 2 ^ d - P) * 2 ^ 64) (2 ^ d)
          rw [hz, hl, Nat.mul_zero, Nat.add_zero] at this
          have h0 := Nat.mul_eq_zero.1 this.symm
          have : W * 2 ^ d = P := by
            rcases h0 with h0 | h0
            · omega
            · exact absurd h0 (by decide)
          rw [this]
        · have := big hl; omega
      · intro hz
        have : W * 2 ^ d = P := Nat.eq_of_mul_eq_mul_right hg hz
        rw [this, Nat.sub_self, Nat.zero_mul, Nat.zero_div]
    · rw [hx, hdec, s.1, Nat.sub_mul]
    · rw [hx, hdec, s.2, Nat.sub_mul]
theorem mul_lay (x y : Nat) (e g : Int) (he : -1074 ≤ e) (hg : -1074 ≤ g) : numP (x * 2 ^ (e + 1074).toNat * (y * 2 ^ (g + 1074).toNat)) (-2148) = numP (x * y) (e + g) ∧ flagP (x * 2 ^ (e + 1074).toNat * (y * 2 ^ (g + 1074).toNat)) (-2148) = flagP (x * y) (e + g) := by
  have h : x * 2 ^ (e + 1074).toNat * (y * 2 ^ (g + 1074).toNat) = x * y * 2 ^ ((e + 1074).toNat + (g + 1074).toNat) := by
    rw [Nat.pow_add]; grind
  rw [h, numP_scale, flagP_scale, show (-2148 : Int) + (((e + 1074).toNat + (g + 1074).toNat : Nat) : Int) = e + g by omega]
  exact ⟨rfl, rfl⟩
/-- However numbers are laid, with enough bits their quotient is rounded alike. -/
theorem quo_lay (x y e g s t : Nat) (E : Int) (hx : 0 < x) (hy : 0 < y) (hq : 18014398509481984 ≤ x * 2 ^ s / (y * 2 ^ t)) (hE : E = (e : Int) - g - s + t) (he : e ≤ 2500) (hg : g ≤ 2500) (hs : s ≤ 400) :
    numM (x * 2 ^ s / (y * 2 ^ t)) E (decide (x * 2 ^ s % (y * 2 ^ t) ≠ 0)) = quoN (x * 2 ^ e) (y * 2 ^ g) ∧ flagM (x * 2 ^ s / (y * 2 ^ t)) E (decide (x * 2 ^ s % (y * 2 ^ t) ≠ 0)) = quoF (x * 2 ^ e) (y * 2 ^ g) := by
  have hjj := jj_is
  have hlen : 54 < (bl (x * 2 ^ s / (y * 2 ^ t))).length := (bl_length_lt _ 54).2 hq
  have hL : E < lastP (x * 2 ^ s / (y * 2 ^ t)) E := by unfold lastP; omega
  have hyt : 0 < y * 2 ^ t := Nat.mul_pos hy (Nat.two_pow_pos t)
  obtain ⟨j, hj⟩ : ∃ j : Nat, j + s + g = e + jj + t := ⟨e + jj + t - s - g, by omega⟩
  obtain ⟨k, hk⟩ : ∃ k : Nat, k + g = e + jj := ⟨e + jj - g, by omega⟩
  have m := more_div (x * 2 ^ s) (y * 2 ^ t) j E hyt (by omega) hL
  have e1 : x * 2 ^ s * 2 ^ j = x * 2 ^ k * 2 ^ t := by
    rw [Nat.mul_assoc, ← Nat.pow_add, Nat.mul_assoc, ← Nat.pow_add, show s + j = k + t by omega]
  have e2 : x * 2 ^ e * 2 ^ jj = x * 2 ^ k * 2 ^ g := by
    rw [Nat.mul_assoc, ← Nat.pow_add, Nat.mul_assoc, ← Nat.pow_add, show e + jj = k + g by omega]
  have c : ∀ u : Nat, (x * 2 ^ k * 2 ^ u % (y * 2 ^ u) ≠ 0) ↔ (x * 2 ^ k % y ≠ 0) := by
    intro u
    rw [Nat.mul_mod_mul_right, ne_eq, Nat.mul_eq_zero]
    have := Nat.two_pow_pos u
    omega
  rw [e1, Nat.mul_div_mul_right _ _ (Nat.two_pow_pos t), show decide (x * 2 ^ k * 2 ^ t % (y * 2 ^ t) ≠ 0) = decide (x * 2 ^ k % y ≠ 0) by rw [decide_eq_decide]; exact c t, show E - (j : Int) = -(jj : Int) by omega] at m
  unfold quoN quoF
  rw [e2, Nat.mul_div_mul_right _ _ (Nat.two_pow_pos g), show decide (x * 2 ^ k * 2 ^ g % (y * 2 ^ g) ≠ 0) = decide (x * 2 ^ k % y ≠ 0) by rw [decide_eq_decide]; exact c g]
  exact m
theorem pow_order (g s : Int) (hg : mag g < 9218868437227405312) (hs : mag s ≤ mag g) (hz : mag s ≠ 0) : wPow s ≤ wPow g ∧ (wPow g = wPow s ∨ 4503599627370496 ≤ (wMant g).toNat) := by
  unfold mag at *
  unfold wPow wMant wKind
  repeat' split
  all_goals omega
theorem mant_zero (b : Int) (hf : mag b < 9218868437227405312) : wMant b = 0 ↔ mag b = 0 := by
  unfold mag at *
  unfold wMant wKind
  repeat' split
  all_goals omega
end Go.Proofs.Ytpakpgjbgehhjaa

/-
  Sums with signs, rounded; what a pattern is not (plain mathematics, no program in sight).
-/
namespace Go.Proofs.Ytpakpgjbgehhjaa
set_option linter.unusedVariables false

theorem rnd_same (g s : Int) (hs : sgn g = sgn s) (hp : 0 < V (mag g)) : rndS (sv g + sv s) = (sgnB (sgn g) + ((numP (V (mag g) + V (mag s)) (-1074) : Nat) : Int), ((flagP (V (mag g) + V (mag s)) (-1074) : Nat) : Int)) := by
  unfold rndS sv
  rw [← hs]
  cases sgn g
  · have h1 : ((if false = true then -((V (mag g) : Nat) : Int) else ((V (mag g) : Nat) : Int)) + (if false = true then -((V (mag s) : Nat) : Int) else ((V (mag s) : Nat) : Int))) = ((V (mag g) + V (mag s) : Nat) : Int) := by simp
    rw [h1, decide_eq_false (by omega), Int.natAbs_natCast]
  · have h1 : ((if true = true then -((V (mag g) : Nat) : Int) else ((V (mag g) : Nat) : Int)) + (if true = true then -((V (mag s) : Nat) : Int) else ((V (mag s) : Nat) : Int))) = -((V (mag g) + V (mag s) : Nat) : Int) := by simp; omega
    rw [h1, decide_eq_true (by omega), Int.natAbs_neg, Int.natAbs_natCast]
theorem rnd_diff (g s : Int) (hs : sgn g ≠ sgn s) (hle : V (mag s) ≤ V (mag g)) : rndS (sv g + sv s) = (sgnB (sgn g && decide (V (mag g) ≠ V (mag s))) + ((numP (V (mag g) - V (mag s)) (-1074) : Nat) : Int), ((flagP (V (mag g) - V (mag s)) (-1074) : Nat) : Int)) := by
  unfold rndS sv
  have hs2 : sgn s = !sgn g := by revert hs; cases sgn g <;> cases sgn s <;> simp
  rw [hs2]
  cases sgn g
  · have h1 : ((if false = true then -((V (mag g) : Nat) : Int) else ((V (mag g) : Nat) : Int)) + (if (!false) = true then -((V (mag s) : Nat) : Int) else ((V (mag s) : Nat) : Int))) = ((V (mag g) - V (mag s) : Nat) : Int) := by simp; omega
    rw [h1, decide_eq_false (by omega), Int.natAbs_natCast]
    rfl
  · have h1 : ((if true = true then -((V (mag g) : Nat) : Int) else ((V (mag g) : Nat) : Int)) + (if (!true) = true then -((V (mag s) : Nat) : Int) else ((V (mag s) : Nat) : Int))) = -((V (mag g) - V (mag s) : Nat) : Int) := by simp; omega
    rw [h1, Int.natAbs_neg, Int.natAbs_natCast, Bool.true_and, show decide (-((V (mag g) - V (mag s) : Nat) : Int) < 0) = decide (V (mag g) ≠ V (mag s)) by rw [decide_eq_decide]; omega]
theorem mag_fin (b : Int) (h : isNan b = false) (g : isInf b = false) : mag b < 9218868437227405312 := by
  unfold isNan at h
  unfold isInf at g
  rw [decide_eq_false_iff_not] at h g
  omega
theorem inf_not_z (b : Int) (h : isInf b = true) : isZ b = false := by
  unfold isInf at h
  unfold isZ
  rw [decide_eq_true_eq] at h
  rw [decide_eq_false_iff_not]
  omega
theorem zero_two (a : Int) (h0 : 0 ≤ a) (h1 : a < 18446744073709551616) (h : isZ a = true) : a = 0 ∨ a = 9223372036854775808 := by
  unfold isZ mag at h
  rw [decide_eq_true_eq] at h
  omega
theorem sv_comm (a b : Int) : rndS (sv a + sv b) = rndS (sv b + sv a) := by rw [Int.add_comm]
theorem rnd_same' (g s : Int) (hs : sgn g = sgn s) (hp : 0 < V (mag g) + V (mag s)) : rndS (sv g + sv s) = (sgnB (sgn g) + ((numP (V (mag g) + V (mag s)) (-1074) : Nat) : Int), ((flagP (V (mag g) + V (mag s)) (-1074) : Nat) : Int)) := by
  rcases Nat.eq_zero_or_pos (V (mag g)) with h | h
  · rw [sv_comm, rnd_same s g hs.symm (by omega), hs, Nat.add_comm]
  · exact rnd_same g s hs h
theorem add_len (x y n : Nat) (h1 : (bl x).length ≤ n) (h2 : (bl y).length ≤ n) : (bl (x + y)).length ≤ n + 1 := by
  rw [bl_length_le] at *
  rw [Nat.pow_succ]
  omega
theorem sub_len (x y n : Nat) (h1 : (bl x).length ≤ n) : (bl (x - y)).length ≤ n := Nat.le_trans (len_mono _ _ (Nat.sub_le _ _)) h1
end Go.Proofs.Ytpakpgjbgehhjaa

/-
  What sums, products and quotients of patterns keep to (plain mathematics, no program in sight): order, ones, noughts, signs, exact differences.
-/
namespace Go.Proofs.Ytpakpgjbgehhjaa
set_option linter.unusedVariables false

theorem nanF_comm (a b : Int) : nanF a b = nanF b a := by unfold nanF; rw [Bool.or_comm]
theorem addS_comm (a b : Int) : addS a b = addS b a := by
  unfold addS
  rw [nanF_comm, Bool.or_comm, Bool.and_comm (isInf a), Bool.and_comm (isZ a), Bool.and_comm (sgn a), Int.add_comm (sv a)]
  by_cases h : a = b
  · subst h; rfl
  · rw [show decide (a ≠ b) = decide (b ≠ a) by rw [decide_eq_decide]; exact ne_comm]
    rw [show decide (b ≠ a) = true from decide_eq_true (fun k => h k.symm)]
    cases isInf a <;> cases isInf b <;> rfl
theorem mulS_comm (a b : Int) : mulS a b = mulS b a := by
  unfold mulS
  rw [nanF_comm, Bool.or_comm (isNan a), Nat.mul_comm (V (mag a)), show (sgn a != sgn b) = (sgn b != sgn a) by cases sgn a <;> cases sgn b <;> rfl]
  cases isInf a <;> cases isInf b <;> cases isZ a <;> cases isZ b <;> rfl
theorem flip_mag (b : Int) (h0 : 0 ≤ b) (h1 : b < 18446744073709551616) : mag (wFlip b) = mag b := by unfold mag wFlip; omega
theorem flip_sgn (b : Int) (h0 : 0 ≤ b) (h1 : b < 18446744073709551616) : sgn (wFlip b) = !sgn b := by
  unfold sgn wFlip
  rw [Bool.eq_iff_iff]
  simp only [Bool.not_eq_true', decide_eq_true_eq, decide_eq_false_iff_not]
  omega
theorem flip_sv (b : Int) (h0 : 0 ≤ b) (h1 : b < 18446744073709551616) : sv (wFlip b) = - sv b := by
  unfold sv
  rw [flip_mag b h0 h1, flip_sgn b h0 h1]
  cases sgn b <;> simp
theorem sgn_mag (n : Bool) (N : Nat) (h : N < 9223372036854775808) : mag (sgnB n + (N : Int)) = N ∧ sgn (sgnB n + (N : Int)) = n ∧ 0 ≤ sgnB n + (N : Int) ∧ sgnB n + (N : Int) < 18446744073709551616 := by
  unfold mag sgn sgnB
  cases n
  · refine ⟨?_, decide_eq_false ?_, ?_, ?_⟩ <;> simp <;> omega
  · refine ⟨?_, decide_eq_true ?_, ?_, ?_⟩ <;> simp <;> omega
theorem whole (b : Int) (h0 : 0 ≤ b) (h1 : b < 18446744073709551616) : b = sgnB (sgn b) + (mag b : Int) := whole_sign b h0 h1
theorem sv_abs (b : Int) : (sv b).natAbs = V (mag b) := by unfold sv; cases sgn b <;> simp
theorem fin_facts (b : Int) (h : mag b < 9218868437227405312) : isNan b = false ∧ isInf b = false := by
  unfold isNan isInf
  exact ⟨decide_eq_false (by omega), decide_eq_false (by omega)⟩
theorem addS_fin (a b : Int) (ha : mag a < 9218868437227405312) (hb : mag b < 9218868437227405312) : addS a b = if isZ a && isZ b then (sgnB (sgn a && sgn b), 0) else rndS (sv a + sv b) := by
  obtain ⟨n1, i1⟩ := fin_facts a ha
  obtain ⟨n2, i2⟩ := fin_facts b hb
  unfold addS
  rw [n1, n2, i1, i2, if_neg (by simp), if_neg (by simp), if_neg (by simp), if_neg (by simp)]
theorem mulS_fin (a b : Int) (ha : mag a < 9218868437227405312) (hb : mag b < 9218868437227405312) : mulS a b = (sgnB (sgn a != sgn b) + ((numP (V (mag a) * V (mag b)) (-2148) : Nat) : Int), ((flagP (V (mag a) * V (mag b)) (-2148) : Nat) : Int)) := by
  obtain ⟨n1, i1⟩ := fin_facts a ha
  obtain ⟨n2, i2⟩ := fin_facts b hb
  unfold mulS
  rw [n1, n2, i1, i2, if_neg (by simp), if_neg (by simp), if_neg (by simp)]
theorem z_iff (b : Int) : isZ b = true ↔ mag b = 0 := by unfold isZ; rw [decide_eq_true_eq]
theorem z_not (b : Int) : isZ b = false ↔ mag b ≠ 0 := by unfold isZ; rw [decide_eq_false_iff_not]
theorem sv_zero (b : Int) (h : mag b = 0) : sv b = 0 := by unfold sv; rw [h, V_zero]; split <;> rfl
theorem rnd_zero : rndS 0 = (0, 0) := by
  unfold rndS
  rw [Int.natAbs_zero]
  unfold numP flagP patP
  simp [sgnB]
/-- A number is rounded to itself. -/
theorem rnd_self (a : Int) (h0 : 0 ≤ a) (h1 : a < 18446744073709551616) (hf : mag a < 9218868437227405312) (hz : mag a ≠ 0) : rndS (sv a) = (a, 0) := by
  have hp := V_pos (mag a) (by omega)
  unfold rndS
  rw [sv_abs, (num_V _ hf).1, (num_V _ hf).2]
  have hs : decide (sv a < 0) = sgn a := by
    unfold sv
    cases sgn a
    · exact decide_eq_false (by simp)
    · exact decide_eq_true (by simp; omega)
  rw [hs, ← whole a h0 h1]
  rfl
theorem add_flip (a : Int) (h0 : 0 ≤ a) (h1 : a < 18446744073709551616) (hf : mag a < 9218868437227405312) : (addS a (wFlip a)).1 = 0 := by
  rw [addS_fin a _ hf (by rw [flip_mag a h0 h1]; exact hf), flip_sv a h0 h1, flip_sgn a h0 h1, Int.add_right_neg, rnd_zero]
  split
  · cases sgn a <;> rfl
  · rfl
theorem z_whole (a : Int) (h0 : 0 ≤ a) (h1 : a < 18446744073709551616) (h : mag a = 0) : sgnB (sgn a) = a := by
  have := whole a h0 h1
  rw [h] at this
  omega
theorem add_minus0 (a : Int) (h0 : 0 ≤ a) (h1 : a < 18446744073709551616) (hf : mag a < 9218868437227405312) : addS a 9223372036854775808 = (a, 0) := by
  have m0 : mag 9223372036854775808 = 0 := by decide +kernel
  rw [addS_fin a _ hf (by rw [m0]; decide), show isZ 9223372036854775808 = true by decide +kernel, show sgn 9223372036854775808 = true by decide +kernel, sv_zero _ m0, Int.add_zero, Bool.and_true, Bool.and_true]
  by_cases hz : mag a = 0
  · rw [if_pos ((z_iff a).2 hz), z_whole a h0 h1 hz]
  · rw [(z_not a).2 hz, if_neg (by simp), rnd_self a h0 h1 hf hz]
theorem mag_one : mag 4607182418800017408 = 4607182418800017408 := by decide +kernel
theorem one_pow (x e : Nat) (E : Int) (k : Nat) (hk : k = 52 + e) : numP (x * (4503599627370496 * 2 ^ e)) E = numP x (E + k) ∧ flagP (x * (4503599627370496 * 2 ^ e)) E = flagP x (E + k) := by
  rw [show 4503599627370496 * 2 ^ e = 2 ^ k by rw [hk, Nat.pow_add], numP_scale, flagP_scale]
  exact ⟨rfl, rfl⟩
theorem mul_one' (a : Int) (h0 : 0 ≤ a) (h1 : a < 18446744073709551616) (hf : mag a < 9218868437227405312) : mulS a 4607182418800017408 = (a, 0) := by
  rw [mulS_fin a _ hf (by rw [mag_one]; decide), mag_one, V_one, (one_pow _ 1022 _ 1074 rfl).1, (one_pow _ 1022 _ 1074 rfl).2, show (-2148 : Int) + ((1074 : Nat) : Int) = -1074 by decide, (num_V _ hf).1, (num_V _ hf).2, show sgn 4607182418800017408 = false by decide +kernel, Bool.bne_false, ← whole a h0 h1]
  rfl
theorem quo_pow (x k : Nat) (hk : k ≤ jj) : quoN x (2 ^ k) = numP x (-(k : Int)) ∧ quoF x (2 ^ k) = flagP x (-(k : Int)) := by
  obtain ⟨m, hm⟩ : ∃ m, jj = m + k := ⟨jj - k, by omega⟩
  have e : x * 2 ^ jj = x * 2 ^ m * 2 ^ k := by rw [hm, Nat.pow_add, Nat.mul_assoc]
  unfold quoN quoF
  rw [e, Nat.mul_div_cancel _ (Nat.two_pow_pos k), Nat.mul_mod_left, show decide ((0 : Nat) ≠ 0) = false from rfl, numM_false, flagM_false, numP_scale, flagP_scale, show -(jj : Int) + (m : Int) = -(k : Int) by omega]
  exact ⟨rfl, rfl⟩
theorem one_is (e k : Nat) (hk : k = 52 + e) : 4503599627370496 * 2 ^ e = 2 ^ k := by rw [hk, Nat.pow_add]
theorem div_one' (a : Int) (h0 : 0 ≤ a) (h1 : a < 18446744073709551616) (hf : mag a < 9218868437227405312) : divS a 4607182418800017408 = (a, 0) := by
  obtain ⟨n1, i1⟩ := fin_facts a hf
  have hj : 1074 ≤ jj := by decide +kernel
  unfold divS
  rw [n1, i1, show isNan 4607182418800017408 = false by decide +kernel, show isInf 4607182418800017408 = false by decide +kernel, show isZ 4607182418800017408 = false by decide +kernel, show sgn 4607182418800017408 = false by decide +kernel, Bool.bne_false, mag_one, V_one, one_is 1022 1074 rfl, (quo_pow _ _ hj).1, (quo_pow _ _ hj).2, show -((1074 : Nat) : Int) = -1074 by decide, (num_V _ hf).1, (num_V _ hf).2, ← whole a h0 h1]
  by_cases hz : mag a = 0
  · rw [(z_iff a).2 hz, z_whole a h0 h1 hz]; rfl
  · rw [(z_not a).2 hz]; rfl
theorem mul_flip (a b : Int) (g0 : 0 ≤ b) (g1 : b < 18446744073709551616) (ha : mag a < 9218868437227405312) (hb : mag b < 9218868437227405312) : (mulS a (wFlip b)).1 = wFlip (mulS a b).1 := by
  rw [mulS_fin a _ ha (by rw [flip_mag b g0 g1]; exact hb), mulS_fin a b ha hb, flip_mag b g0 g1, flip_sgn b g0 g1]
  have hn := numP_le (V (mag a) * V (mag b)) (-2148)
  generalize numP (V (mag a) * V (mag b)) (-2148) = N at *
  unfold wFlip sgnB
  simp only
  cases sgn a <;> cases sgn b <;> simp <;> omega
/-- What is rounded exactly, stands for just that. -/
theorem rnd_exact (s : Int) (p : Nat) (hp : p < 9218868437227405312) (hl : lostP s.natAbs (-1074) = false) (hs : s.natAbs ≤ V p) :
    (rndS s).2 = 0 ∧ mag (rndS s).1 < 9218868437227405312 ∧ sv (rndS s).1 = s ∧ 0 ≤ (rndS s).1 ∧ (rndS s).1 < 18446744073709551616 := by
  have hx := V_exact s.natAbs hl
  have hpat : patP s.natAbs (-1074) ≤ p := (V_le_iff _ _).1 (by rw [hx]; exact hs)
  have hnum : numP s.natAbs (-1074) = patP s.natAbs (-1074) := by unfold numP; omega
  obtain ⟨m1, m2, m3, m4⟩ := sgn_mag (decide (s < 0)) (numP s.natAbs (-1074)) (by omega)
  unfold rndS
  simp only
  refine ⟨?_, by rw [m1]; omega, ?_, m3, m4⟩
  · unfold flagP
    rw [if_neg (by omega), hl, if_neg (by simp)]
    rfl
  · unfold sv
    rw [m1, m2, hnum, hx]
    by_cases h : s < 0
    · rw [decide_eq_true h, if_pos rfl]; omega
    · rw [decide_eq_false h, if_neg (by simp)]; omega
/-- The order of patterns by what they stand for. -/
def keyS (b : Int) : Int := if sgn b then -(mag b : Int) else (mag b : Int)
theorem key_sv (a b : Int) (h : keyS a ≤ keyS b) : sv a ≤ sv b := by
  unfold keyS at h
  unfold sv
  cases ha : sgn a <;> cases hb : sgn b <;> rw [ha, hb] at h <;> simp at h ⊢
  · exact V_mono _ _ (by omega)
  · have h1 : mag a = 0 := by omega
    have h2 : mag b = 0 := by omega
    rw [h1, h2, V_zero]; omega
  · exact V_mono _ _ (by omega)
theorem key_rnd (s : Int) : keyS (rndS s).1 = keyR s (-1074) := by
  have hn := numP_le s.natAbs (-1074)
  obtain ⟨m1, m2, m3, m4⟩ := sgn_mag (decide (s < 0)) (numP s.natAbs (-1074)) (by omega)
  unfold rndS keyS keyR
  simp only
  rw [m1, m2]
  by_cases h : s < 0
  · rw [decide_eq_true h, if_pos rfl, if_pos h]
  · rw [decide_eq_false h, if_neg (by simp), if_neg h]
theorem numP_zero (e : Int) : numP 0 e = 0 := by unfold numP patP; rw [if_pos rfl]; rfl
theorem key_add (a c : Int) (ha : mag a < 9218868437227405312) (hc : mag c < 9218868437227405312) : keyS (addS a c).1 = keyR (sv a + sv c) (-1074) := by
  rw [addS_fin a c ha hc]
  by_cases h : (isZ a && isZ c) = true
  · rw [if_pos h]
    rw [Bool.and_eq_true, z_iff, z_iff] at h
    rw [sv_zero a h.1, sv_zero c h.2]
    obtain ⟨m1, m2, m3, m4⟩ := sgn_mag (sgn a && sgn c) 0 (by decide)
    rw [show sgnB (sgn a && sgn c) + ((0 : Nat) : Int) = sgnB (sgn a && sgn c) by simp] at m1
    unfold keyR keyS
    simp only [Int.add_zero, Int.natAbs_zero, numP_zero]
    rw [m1]
    split <;> simp
  · rw [if_neg h, key_rnd]
theorem key_mul (a c : Int) (hs : sgn c = false) (ha : mag a < 9218868437227405312) (hc : mag c < 9218868437227405312) : keyS (mulS a c).1 = keyR (sv a * (V (mag c) : Int)) (-2148) := by
  rw [mulS_fin a c ha hc, hs, Bool.bne_false]
  have hn := numP_le (V (mag a) * V (mag c)) (-2148)
  obtain ⟨m1, m2, m3, m4⟩ := sgn_mag (sgn a) (numP (V (mag a) * V (mag c)) (-2148)) (by omega)
  unfold keyS keyR
  simp only
  rw [m1, m2, Int.natAbs_mul, sv_abs, Int.natAbs_natCast]
  by_cases hz : V (mag a) * V (mag c) = 0
  · rw [hz, numP_zero]
    split <;> split <;> simp
  · have h1 : 0 < V (mag a) := Nat.pos_of_ne_zero (fun k => hz (by rw [k, Nat.zero_mul]))
    have h2 : 0 < V (mag c) := Nat.pos_of_ne_zero (fun k => hz (by rw [k, Nat.mul_zero]))
    have hc2 : (0 : Int) < (V (mag c) : Int) := by omega
    unfold sv
    cases sgn a
    · simp only [Bool.false_eq_true, if_false]
      rw [if_neg (by have := Int.mul_pos (show (0 : Int) < (V (mag a) : Int) by omega) hc2; omega)]
    · simp only [if_true]
      rw [if_pos (by have := Int.mul_pos (show (0 : Int) < (V (mag a) : Int) by omega) hc2; rw [Int.neg_mul]; omega)]
theorem order_add (a b c : Int) (h : keyS a ≤ keyS b) (ha : mag a < 9218868437227405312) (hb : mag b < 9218868437227405312) (hc : mag c < 9218868437227405312) : keyS (addS a c).1 ≤ keyS (addS b c).1 := by
  rw [key_add a c ha hc, key_add b c hb hc]
  exact keyR_mono _ _ _ (by have := key_sv a b h; omega)
theorem order_mul (a b c : Int) (h : keyS a ≤ keyS b) (hs : sgn c = false) (ha : mag a < 9218868437227405312) (hb : mag b < 9218868437227405312) (hc : mag c < 9218868437227405312) : keyS (mulS a c).1 ≤ keyS (mulS b c).1 := by
  rw [key_mul a c hs ha hc, key_mul b c hs hb hc]
  exact keyR_mono _ _ _ (Int.mul_le_mul_of_nonneg_right (key_sv a b h) (by omega))
/-- A difference of numbers of which one is at most twice the other is exact; added again it is the first. -/
theorem exact_sub (a b : Int) (h0 : 0 ≤ a) (h1 : a < 18446744073709551616) (g0 : 0 ≤ b) (g1 : b < 18446744073709551616) (ha : mag a < 9218868437227405312) (hb : mag b < 9218868437227405312) (hs : sgn a = sgn b) (hle : mag b ≤ mag a)
    (hf : (addS b b).2 = 0) (h2 : mag a ≤ mag (addS b b).1) :
    (addS a (wFlip b)).2 = 0 ∧ (addS (addS a (wFlip b)).1 b).2 = 0 ∧ 0 ≤ (addS a (wFlip b)).1 ∧ (addS a (wFlip b)).1 < 18446744073709551616 ∧ ((addS (addS a (wFlip b)).1 b).1 = a ∨ (mag (addS (addS a (wFlip b)).1 b).1 = 0 ∧ mag a = 0)) := by
  have hfb : mag (wFlip b) < 9218868437227405312 := by rw [flip_mag b g0 g1]; exact hb
  by_cases hz : mag b = 0
  · have hz2 : mag a = 0 := by
      rw [addS_fin b b hb hb, if_pos (by rw [Bool.and_eq_true, z_iff]; exact ⟨hz, hz⟩)] at h2
      have : mag (sgnB (sgn b && sgn b)) = 0 := by cases sgn b <;> decide +kernel
      simp only at h2
      omega
    have e1 : addS a (wFlip b) = (0, 0) := by
      rw [addS_fin a _ ha hfb, if_pos (by rw [Bool.and_eq_true, z_iff, z_iff, flip_mag b g0 g1]; exact ⟨hz2, hz⟩), flip_sgn b g0 g1, hs]
      cases sgn b <;> rfl
    have m0 : mag 0 = 0 := by decide +kernel
    have e2 : addS 0 b = (0, 0) := by
      rw [addS_fin 0 b (by rw [m0]; decide) hb, if_pos (by rw [Bool.and_eq_true, z_iff, z_iff]; exact ⟨m0, hz⟩), show sgn 0 = false by decide +kernel]
      rfl
    rw [e1]
    simp only
    rw [e2]
    refine ⟨?_, ?_, ?_, ?_, Or.inr ⟨m0, hz2⟩⟩
    all_goals first | trivial | decide
  · have hza : mag a ≠ 0 := by omega
    have hVb := V_pos (mag b) (by omega)
    -- twice the lesser, exactly
    have hdbl : V (mag a) ≤ 2 * V (mag b) := by
      rw [addS_fin b b hb hb, (z_not b).2 hz, if_neg (by simp)] at hf h2
      have hsum := rnd_same b b rfl hVb
      rw [hsum] at hf h2
      simp only at hf h2
      have hfl : flagP (V (mag b) + V (mag b)) (-1074) = 0 := by omega
      have hpl : patP (V (mag b) + V (mag b)) (-1074) < 9218868437227405312 := by
        rcases Nat.lt_or_ge (patP (V (mag b) + V (mag b)) (-1074)) 9218868437227405312 with g | g
        · exact g
        · unfold flagP at hfl; rw [if_pos g] at hfl; cases hfl
      have hlo : lostP (V (mag b) + V (mag b)) (-1074) = false := by
        unfold flagP at hfl
        rw [if_neg (by omega)] at hfl
        by_cases hl : lostP (V (mag b) + V (mag b)) (-1074) = true
        · rw [if_pos ⟨by omega, hl⟩] at hfl
          split at hfl <;> cases hfl
        · simpa using hl
      have hx := V_exact _ hlo
      rw [(sgn_mag (sgn b) (numP (V (mag b) + V (mag b)) (-1074)) (by have := numP_le (V (mag b) + V (mag b)) (-1074); omega)).1] at h2
      have : numP (V (mag b) + V (mag b)) (-1074) = patP (V (mag b) + V (mag b)) (-1074) := by unfold numP; omega
      rw [this] at h2
      have := V_mono _ _ h2
      omega
    have hlo := sterbenz (mag a) (mag b) hle hdbl
    have hVle := V_mono _ _ hle
    have hd : (sv a + sv (wFlip b)).natAbs = V (mag a) - V (mag b) := by
      rw [flip_sv b g0 g1]
      unfold sv
      rw [hs]
      cases sgn b <;> simp <;> omega
    have e1 : addS a (wFlip b) = rndS (sv a + sv (wFlip b)) := by
      rw [addS_fin a _ ha hfb, (z_not a).2 hza, if_neg (by simp)]
    obtain ⟨r1, r2, r3, r4, r5⟩ := rnd_exact (sv a + sv (wFlip b)) (mag a) ha (by rw [hd]; exact hlo) (by rw [hd]; omega)
    rw [e1]
    have e2 : addS (rndS (sv a + sv (wFlip b))).1 b = (a, 0) := by
      rw [addS_fin _ b r2 hb, (z_not b).2 hz, Bool.and_false, if_neg (by simp), r3, flip_sv b g0 g1, show sv a + -sv b + sv b = sv a by omega, rnd_self a h0 h1 ha hza]
    rw [e2]
    exact ⟨r1, rfl, r4, r5, Or.inl rfl⟩
end Go.Proofs.Ytpakpgjbgehhjaa

/-
  The mathematics of layer 5 (plain, no program in sight): roots rounded down, and that a root with more bits is rounded alike; powers of two; whole parts; a product and a sum as whole numbers.
-/
namespace Go.Proofs.Ytpakpgjbgehhjaa
set_option linter.unusedVariables false

/-- The root, rounded down. -/
def isq : Nat → Nat
  | 0 => 0
  | n + 1 => if (isq n + 1) * (isq n + 1) ≤ n + 1 then isq n + 1 else isq n
theorem isq_succ (n : Nat) : isq (n + 1) = if (isq n + 1) * (isq n + 1) ≤ n + 1 then isq n + 1 else isq n := rfl
theorem isq_spec (n : Nat) : isq n * isq n ≤ n ∧ n < (isq n + 1) * (isq n + 1) := by
  induction n with
  | zero => exact ⟨Nat.le_refl _, by decide⟩
  | succ n ih =>
    obtain ⟨h1, h2⟩ := ih
    rw [isq_succ]
    generalize isq n = r at *
    by_cases h : (r + 1) * (r + 1) ≤ n + 1
    · rw [if_pos h]
      refine ⟨h, ?_⟩
      have : (r + 1 + 1) * (r + 1 + 1) = (r + 1) * (r + 1) + 2 * (r + 1) + 1 := by grind
      omega
    · rw [if_neg h]
      exact ⟨by omega, by omega⟩
theorem isq_uniq (n r : Nat) (h1 : r * r ≤ n) (h2 : n < (r + 1) * (r + 1)) : isq n = r := by
  obtain ⟨g1, g2⟩ := isq_spec n
  generalize isq n = q at *
  rcases Nat.lt_trichotomy q r with h | h | h
  · have := Nat.mul_le_mul (show q + 1 ≤ r by omega) (show q + 1 ≤ r by omega); omega
  · exact h
  · have := Nat.mul_le_mul (show r + 1 ≤ q by omega) (show r + 1 ≤ q by omega); omega
theorem isq_le (n r : Nat) (h : r * r ≤ n) : r ≤ isq n := by
  obtain ⟨g1, g2⟩ := isq_spec n
  generalize isq n = q at *
  rcases Nat.lt_or_ge q r with h' | h'
  · have := Nat.mul_le_mul (show q + 1 ≤ r by omega) (show q + 1 ≤ r by omega); omega
  · exact h'
theorem even_sq (x M : Nat) (h : x * x = M * 4) : ∃ y, x = 2 * y ∧ y * y = M := by
  refine ⟨x / 2, ?_, ?_⟩
  · rcases Nat.mod_two_eq_zero_or_one x with g | g
    · omega
    · exfalso
      have e : x = 2 * (x / 2) + 1 := by omega
      generalize x / 2 = y at e
      subst e
      have : (2 * y + 1) * (2 * y + 1) = 4 * (y * y + y) + 1 := by grind
      omega
  · rcases Nat.mod_two_eq_zero_or_one x with g | g
    · have e : x = 2 * (x / 2) := by omega
      generalize x / 2 = y at e ⊢
      subst e
      have : (2 * y) * (2 * y) = y * y * 4 := by grind
      omega
    · exfalso
      have e : x = 2 * (x / 2) + 1 := by omega
      generalize x / 2 = y at e
      subst e
      have : (2 * y + 1) * (2 * y + 1) = 4 * (y * y + y) + 1 := by grind
      omega
theorem sq_pow (j x N : Nat) (h : x * x = N * 4 ^ j) : ∃ y, y * y = N := by
  induction j generalizing x with
  | zero => exact ⟨x, by rw [h, Nat.pow_zero, Nat.mul_one]⟩
  | succ j ih =>
    rw [Nat.pow_succ, ← Nat.mul_assoc] at h
    obtain ⟨y, _, hy⟩ := even_sq x _ h
    exact ih y hy
theorem four_two (j : Nat) : 4 ^ j = 2 ^ j * 2 ^ j := by rw [← Nat.mul_pow]
/-- With more bits a root is rounded alike. -/
theorem root_lay (N j : Nat) (e : Int) (hb : 18014398509481984 ≤ isq N) :
    numM (isq N) e (decide (isq N * isq N ≠ N)) = numM (isq (N * 4 ^ j)) (e - j) (decide (isq (N * 4 ^ j) * isq (N * 4 ^ j) ≠ N * 4 ^ j))
    ∧ flagM (isq N) e (decide (isq N * isq N ≠ N)) = flagM (isq (N * 4 ^ j)) (e - j) (decide (isq (N * 4 ^ j) * isq (N * 4 ^ j) ≠ N * 4 ^ j)) := by
  obtain ⟨h1, h2⟩ := isq_spec N
  have hp := Nat.two_pow_pos j
  by_cases g : isq N * isq N = N
  · have e1 : isq (N * 4 ^ j) = isq N * 2 ^ j := by
      refine isq_uniq _ _ ?_ ?_
      · rw [four_two]
        have : isq N * 2 ^ j * (isq N * 2 ^ j) = isq N * isq N * (2 ^ j * 2 ^ j) := by grind
        rw [this, g]
        exact Nat.le_refl _
      · rw [four_two]
        have : isq N * 2 ^ j * (isq N * 2 ^ j) = isq N * isq N * (2 ^ j * 2 ^ j) := by grind
        rw [g] at this
        rw [← this]
        exact Nat.mul_lt_mul'' (Nat.lt_succ_self _) (Nat.lt_succ_self _)
    have e2 : isq N * 2 ^ j * (isq N * 2 ^ j) = N * 4 ^ j := by
      rw [four_two]
      have : isq N * 2 ^ j * (isq N * 2 ^ j) = isq N * isq N * (2 ^ j * 2 ^ j) := by grind
      rw [this, g]
    rw [e1, e2, g, show decide (N ≠ N) = false by simp, show decide (N * 4 ^ j ≠ N * 4 ^ j) = false by simp, numM_false, flagM_false, numM_false, flagM_false, numP_scale, flagP_scale, Int.sub_add_cancel]
    exact ⟨rfl, rfl⟩
  · obtain ⟨k1, k2⟩ := isq_spec (N * 4 ^ j)
    have g2 : isq (N * 4 ^ j) * isq (N * 4 ^ j) ≠ N * 4 ^ j := by
      intro h
      obtain ⟨y, hy⟩ := sq_pow j _ N h
      have : isq N = y := isq_uniq N y (by omega) (by rw [← hy]; exact Nat.mul_lt_mul'' (Nat.lt_succ_self _) (Nat.lt_succ_self _))
      rw [this] at g
      exact g hy
    generalize hr : isq N = r at *
    generalize hq : isq (N * 4 ^ j) = q at *
    rw [four_two] at k1 k2 g2
    have lo : r * 2 ^ j ≤ q := by
      rcases Nat.lt_or_ge q (r * 2 ^ j) with h | h
      · exfalso
        have a := Nat.mul_le_mul (show q + 1 ≤ r * 2 ^ j by omega) (show q + 1 ≤ r * 2 ^ j by omega)
        have b : r * 2 ^ j * (r * 2 ^ j) = r * r * (2 ^ j * 2 ^ j) := by grind
        have c : r * r * (2 ^ j * 2 ^ j) ≤ N * (2 ^ j * 2 ^ j) := Nat.mul_le_mul_right _ h1
        omega
      · exact h
    have hi : q < (r + 1) * 2 ^ j := by
      rcases Nat.lt_or_ge q ((r + 1) * 2 ^ j) with h | h
      · exact h
      · exfalso
        have a := Nat.mul_le_mul h h
        have b : (r + 1) * 2 ^ j * ((r + 1) * 2 ^ j) = (r + 1) * (r + 1) * (2 ^ j * 2 ^ j) := by grind
        have c : N * (2 ^ j * 2 ^ j) < (r + 1) * (r + 1) * (2 ^ j * 2 ^ j) := Nat.mul_lt_mul_of_pos_right h2 (Nat.mul_pos hp hp)
        omega
    obtain ⟨t, ht⟩ : ∃ t, q = r * 2 ^ j + t := ⟨q - r * 2 ^ j, by omega⟩
    have htl : t < 2 ^ j := by rw [Nat.add_mul, Nat.one_mul] at hi; omega
    have hlen : 54 < (bl r).length := (bl_length_lt _ 54).2 hb
    have hd : e < lastP r e := by unfold lastP; omega
    rw [four_two, show decide (r * r ≠ N) = true from decide_eq_true g, show decide (q * q ≠ N * (2 ^ j * 2 ^ j)) = true from decide_eq_true g2, ht]
    unfold numM flagM
    rw [Bool.toNat_true]
    have hk : (r * 2 ^ j + t) * 2 ^ 2 + 1 = r * 2 ^ (j + 2) + (t * 4 + 1) := by rw [Nat.pow_add]; grind
    have hlt : t * 4 + 1 < 2 ^ (j + 2) := by rw [Nat.pow_add]; omega
    have a := sticky_all r 1 2 (t * 4 + 1) (j + 2) e (by omega) hd (by omega) (by decide) (by omega) hlt
    have b := sticky_flag r 1 2 (t * 4 + 1) (j + 2) e (by omega) hd (by omega) (by decide) (by omega) hlt
    rw [show e - ((j + 2 : Nat) : Int) = e - (j : Int) - ((2 : Nat) : Int) by push_cast; omega] at a b
    unfold numP
    rw [hk, a, b]
    exact ⟨rfl, rfl⟩
def ww : Nat := 200
theorem ww_is : (ww : Int) = 200 := rfl
def uu : Nat := 1074
theorem uu_is : (uu : Int) = 1074 := rfl
theorem uu_nat : uu = 1074 := rfl
/-- The root of v 2^-1074, rounded. -/
def rootN (v : Nat) : Nat := numM (isq (v * 2 ^ ww)) (-637) (decide (isq (v * 2 ^ ww) * isq (v * 2 ^ ww) ≠ v * 2 ^ ww))
def rootF (v : Nat) : Nat := flagM (isq (v * 2 ^ ww)) (-637) (decide (isq (v * 2 ^ ww) * isq (v * 2 ^ ww) ≠ v * 2 ^ ww))
theorem root_at (m n : Nat) (e h : Int) (he : -1074 ≤ e) (hn : n ≤ 130) (hh : e - n = 2 * h) (hb : 18014398509481984 ≤ isq (m * 2 ^ n)) :
    numM (isq (m * 2 ^ n)) h (decide (isq (m * 2 ^ n) * isq (m * 2 ^ n) ≠ m * 2 ^ n)) = rootN (m * 2 ^ (e + 1074).toNat) ∧ flagM (isq (m * 2 ^ n)) h (decide (isq (m * 2 ^ n) * isq (m * 2 ^ n) ≠ m * 2 ^ n)) = rootF (m * 2 ^ (e + 1074).toNat) := by
  have hw := ww_is
  obtain ⟨j, hj⟩ : ∃ j : Nat, (j : Int) = h + 637 := ⟨(h + 637).toNat, by omega⟩
  have hN : m * 2 ^ n * 4 ^ j = m * 2 ^ (e + 1074).toNat * 2 ^ ww := by
    rw [four_two, ← Nat.pow_add, Nat.mul_assoc, ← Nat.pow_add, Nat.mul_assoc, ← Nat.pow_add, show n + (j + j) = (e + 1074).toNat + ww by omega]
  have := root_lay (m * 2 ^ n) j h hb
  unfold rootN rootF
  rw [hN, show h - (j : Int) = -637 by omega] at this
  exact this
theorem isq_big (m n : Nat) (hm : 0 < m) (hn : 108 ≤ n) : 18014398509481984 ≤ isq (m * 2 ^ n) := by
  refine isq_le _ _ ?_
  have h1 : 2 ^ 108 ≤ 2 ^ n := Nat.pow_le_pow_right (by decide) hn
  have h2 : 1 * 2 ^ n ≤ m * 2 ^ n := Nat.mul_le_mul_right _ hm
  have h3 : 18014398509481984 * 18014398509481984 = 2 ^ 108 := by decide
  omega
/-- The document's root of a pattern. -/
def sqrtS (a : Int) : Int × Int :=
  if isNan a then (9221120237041090560, nanF a a)
  else if isZ a then (a, 0)
  else if a = 9218868437227405312 then (a, 0)
  else if sgn a then (9221120237041090560, 16)
  else (((rootN (V (mag a)) : Nat) : Int), ((rootF (V (mag a)) : Nat) : Int))
theorem rootN_le (v : Nat) : rootN v ≤ 9218868437227405312 := numM_le _ _ _
theorem rootF_le (v : Nat) : rootF v ≤ 5 := flagM_le _ _ _
theorem sqrtS_bd (a : Int) (h0 : 0 ≤ a) (h1 : a < 18446744073709551616) : 0 ≤ (sqrtS a).1 ∧ (sqrtS a).1 < 18446744073709551616 ∧ 0 ≤ (sqrtS a).2 ∧ (sqrtS a).2 ≤ 31 := by
  have h2 := rootN_le (V (mag a))
  have h3 := rootF_le (V (mag a))
  have h4 := nanF_cases a a
  unfold sqrtS
  generalize rootN (V (mag a)) = x at *
  generalize rootF (V (mag a)) = y at *
  repeat' split
  all_goals (simp only; omega)

/-! Powers of two. -/
theorem num_high (x : Nat) (E : Int) (hx : 0 < x) (hE : 1024 ≤ E) : numP x E = 9218868437227405312 ∧ flagP x E = 5 := by
  have h0 : 0 < (bl x).length := (bl_length_lt x 0).2 (by rw [Nat.pow_zero]; exact hx)
  have hl : 972 ≤ lastP x E := by unfold lastP; omega
  have hk := keptP_ge x E hx (by omega)
  have hp : 9218868437227405312 ≤ patP x E := by
    unfold patP
    rw [if_neg (by omega)]
    have : 2046 ≤ (lastP x E + 1074).toNat := by omega
    generalize (lastP x E + 1074).toNat = t at *
    omega
  unfold numP flagP
  rw [if_pos hp]
  exact ⟨by omega, rfl⟩
theorem num_low (x n : Nat) (E : Int) (hx : 0 < x) (hn : x < 2 ^ n) (hE : E + n ≤ -1075) : numP x E = 0 ∧ flagP x E = 3 := by
  have h0 : 0 < (bl x).length := (bl_length_lt x 0).2 (by rw [Nat.pow_zero]; exact hx)
  have h1 : (bl x).length ≤ n := (bl_length_le x n).2 hn
  have hl : lastP x E = -1074 := by unfold lastP; omega
  obtain ⟨d, hd⟩ : ∃ d : Nat, lastP x E - E = d := ⟨(-1074 - E).toNat, by omega⟩
  have hdn : n + 1 ≤ d := by omega
  have hp : 2 ^ (n + 1) ≤ 2 ^ d := Nat.pow_le_pow_right (by decide) hdn
  rw [Nat.pow_succ] at hp
  have hlt : x < 2 ^ d := by omega
  have hk : keptP x E = 0 := by
    unfold keptP rneI rne
    rw [hd, if_pos (by omega), Int.toNat_natCast, Nat.mod_eq_of_lt hlt, Nat.div_eq_of_lt hlt, if_neg (by omega)]
  have hpat : patP x E = 0 := by
    unfold patP
    rw [if_neg (by omega), hk, hl]
    rfl
  have hlost : lostP x E = true := by
    unfold lostP lostI
    rw [hd, Int.toNat_natCast, Nat.mod_eq_of_lt hlt]
    exact decide_eq_true ⟨by omega, by omega⟩
  have hsm : smallP x E = true := by unfold smallP; exact decide_eq_true (by omega)
  unfold numP flagP
  rw [hpat, hlost, hsm, if_neg (by decide), if_pos ⟨by omega, rfl⟩, if_pos rfl]
  exact ⟨rfl, rfl⟩
theorem num_clamp (x : Nat) (p n c : Int) (hx : 0 < x) (hx2 : x < 9007199254740992) (h0 : -1074 ≤ p) (h1 : p ≤ 971) (hc : 5000 ≤ c) :
    numP x (p + min (max n (-c)) c) = numP x (p + n) ∧ flagP x (p + min (max n (-c)) c) = flagP x (p + n) := by
  by_cases g1 : c < n
  · rw [(num_high x (p + n) hx (by omega)).1, (num_high x (p + n) hx (by omega)).2, (num_high x _ hx (by omega)).1, (num_high x _ hx (by omega)).2]
    exact ⟨rfl, rfl⟩
  · by_cases g2 : n < -c
    · rw [(num_low x 53 (p + n) hx hx2 (by omega)).1, (num_low x 53 (p + n) hx hx2 (by omega)).2, (num_low x 53 _ hx hx2 (by omega)).1, (num_low x 53 _ hx hx2 (by omega)).2]
      exact ⟨rfl, rfl⟩
    · rw [show min (max n (-c)) c = n by omega]
      exact ⟨rfl, rfl⟩
/-- A pattern times 2^n. -/
def scaleS (a n : Int) : Int × Int :=
  if isNan a then (9221120237041090560, nanF a a)
  else if isInf a || isZ a then (a, 0)
  else (sgnB (sgn a) + ((numP (V (mag a)) (n - 1074) : Nat) : Int), ((flagP (V (mag a)) (n - 1074) : Nat) : Int))
theorem scaleS_bd (a n : Int) (h0 : 0 ≤ a) (h1 : a < 18446744073709551616) : 0 ≤ (scaleS a n).1 ∧ (scaleS a n).1 < 18446744073709551616 ∧ 0 ≤ (scaleS a n).2 ∧ (scaleS a n).2 ≤ 31 := by
  have h2 := numP_le (V (mag a)) (n - 1074)
  have h3 := flagP_le (V (mag a)) (n - 1074)
  have h4 := nanF_cases a a
  have h5 := sgnB_le (sgn a)
  unfold scaleS
  generalize numP (V (mag a)) (n - 1074) = x at *
  generalize flagP (V (mag a)) (n - 1074) = y at *
  repeat' split
  all_goals (simp only; omega)
theorem scale_parts (a n : Int) (hf : mag a < 9218868437227405312) : numP (V (mag a)) (n - 1074) = numP (wMant a).toNat (wPow a + n) ∧ flagP (V (mag a)) (n - 1074) = flagP (wMant a).toNat (wPow a + n) := by
  obtain ⟨p1, p2, p3, p4⟩ := parts_bd a
  rw [parts_V a hf, numP_scale, flagP_scale, show n - 1074 + ((wPow a + 1074).toNat : Int) = wPow a + n by omega]
  exact ⟨rfl, rfl⟩
theorem mant_pos (a : Int) (hf : mag a < 9218868437227405312) (hz : mag a ≠ 0) : 0 < (wMant a).toNat := by
  obtain ⟨p1, p2, p3, p4⟩ := parts_bd a
  have := mant_zero a hf
  omega
/-- A whole number. -/
def fromS (n : Int) : Int × Int := (sgnB (decide (n < 0)) + ((numP n.natAbs 0 : Nat) : Int), ((flagP n.natAbs 0 : Nat) : Int))
/-- A number's whole part. -/
def toS (a : Int) : Int × Int :=
  if 9218868437227405312 ≤ mag a then (0, 16)
  else if (if sgn a then 9223372036854775808 else 9223372036854775807) < V (mag a) / 2 ^ uu then (0, 16)
  else (if sgn a then -((V (mag a) / 2 ^ uu : Nat) : Int) else ((V (mag a) / 2 ^ uu : Nat) : Int), if V (mag a) % 2 ^ uu ≠ 0 then 1 else 0)
theorem whole_up (m : Nat) (e : Int) (h0 : 0 ≤ e) : m * 2 ^ (e + 1074).toNat / 2 ^ uu = m * 2 ^ e.toNat ∧ m * 2 ^ (e + 1074).toNat % 2 ^ uu = 0 := by
  have hu := uu_is
  have e1 : m * 2 ^ (e + 1074).toNat = m * 2 ^ e.toNat * 2 ^ uu := by rw [Nat.mul_assoc, ← Nat.pow_add, show e.toNat + uu = (e + 1074).toNat by omega]
  rw [e1]
  exact ⟨Nat.mul_div_cancel _ (Nat.two_pow_pos _), Nat.mul_mod_left _ _⟩
theorem whole_down (m : Nat) (e : Int) (h0 : e ≤ 0) (h1 : -1074 ≤ e) : m * 2 ^ (e + 1074).toNat / 2 ^ uu = m / 2 ^ (-e).toNat ∧ (m * 2 ^ (e + 1074).toNat % 2 ^ uu ≠ 0 ↔ m % 2 ^ (-e).toNat ≠ 0) := by
  have hu := uu_is
  have e1 : 2 ^ uu = 2 ^ (-e).toNat * 2 ^ (e + 1074).toNat := by rw [← Nat.pow_add, show (-e).toNat + (e + 1074).toNat = uu by omega]
  have hp := Nat.two_pow_pos (e + 1074).toNat
  rw [e1]
  refine ⟨Nat.mul_div_mul_right _ _ hp, ?_⟩
  rw [Nat.mul_mod_mul_right]
  rw [ne_eq, Nat.mul_eq_zero]
  omega

/-! A product and a sum. -/
def rnd2 (s : Int) : Int × Int := (sgnB (decide (s < 0)) + ((numP s.natAbs (-2148) : Nat) : Int), ((flagP s.natAbs (-2148) : Nat) : Int))
def pv (a b : Int) : Int := if sgn a != sgn b then -((V (mag a) * V (mag b) : Nat) : Int) else ((V (mag a) * V (mag b) : Nat) : Int)
def nanF3 (a b c : Int) : Int := if sigs a || sigs b || sigs c then 16 else 0
def fmaS (a b c : Int) : Int × Int :=
  if (isInf a && isZ b) || (isZ a && isInf b) then (9221120237041090560, 16)
  else if isNan a || isNan b || isNan c then (9221120237041090560, nanF3 a b c)
  else if isInf a || isInf b then addS (sgnB (sgn a != sgn b) + 9218868437227405312) c
  else if isInf c then (c, 0)
  else if (isZ a || isZ b) && isZ c then addS (sgnB (sgn a != sgn b)) c
  else rnd2 (pv a b + sv c * ((2 ^ uu : Nat) : Int))
theorem rnd2_bd (s : Int) : 0 ≤ (rnd2 s).1 ∧ (rnd2 s).1 < 18446744073709551616 ∧ 0 ≤ (rnd2 s).2 ∧ (rnd2 s).2 ≤ 31 := by
  have h1 := numP_le s.natAbs (-2148)
  have h2 := flagP_le s.natAbs (-2148)
  have h3 := sgnB_le (decide (s < 0))
  unfold rnd2
  generalize numP s.natAbs (-2148) = x at *
  generalize flagP s.natAbs (-2148) = y at *
  simp only
  omega
theorem nanF3_cases (a b c : Int) : nanF3 a b c = 0 ∨ nanF3 a b c = 16 := by unfold nanF3; split <;> omega
theorem fmaS_bd (a b c : Int) (h0 : 0 ≤ a) (h1 : a < 18446744073709551616) (g0 : 0 ≤ b) (g1 : b < 18446744073709551616) (k0 : 0 ≤ c) (k1 : c < 18446744073709551616) : 0 ≤ (fmaS a b c).1 ∧ (fmaS a b c).1 < 18446744073709551616 ∧ 0 ≤ (fmaS a b c).2 ∧ (fmaS a b c).2 ≤ 31 := by
  have hs := sgnB_le (sgn a != sgn b)
  have r := rnd2_bd (pv a b + sv c * ((2 ^ uu : Nat) : Int))
  have s1 := addS_bd (sgnB (sgn a != sgn b) + 9218868437227405312) c (by omega) (by omega) k0 k1
  have s2 := addS_bd (sgnB (sgn a != sgn b)) c (by omega) (by omega) k0 k1
  have n := nanF3_cases a b c
  unfold fmaS
  generalize rnd2 (pv a b + sv c * ((2 ^ uu : Nat) : Int)) = x at *
  repeat' split
  · simp only; omega
  · simp only; omega
  · exact s1
  · simp only; omega
  · exact s2
  · exact r
theorem fadd_lay (G S d : Nat) (es eg : Int) (hd : eg = es + d) (hG : 18014398509481984 ≤ G) :
    numR (G + S / 2 ^ d) eg (decide (S % 2 ^ d ≠ 0)) = numP (G * 2 ^ d + S) es ∧ flagR (G + S / 2 ^ d) eg (decide (S % 2 ^ d ≠ 0)) = flagP (G * 2 ^ d + S) es := by
  have hp := Nat.two_pow_pos d
  have hN : G * 2 ^ d + S = S + 2 ^ d * G := by rw [Nat.mul_comm, Nat.add_comm]
  have q1 : (G * 2 ^ d + S) / 2 ^ d = G + S / 2 ^ d := by rw [hN, Nat.add_mul_div_left _ _ hp, Nat.add_comm]
  have q2 : (G * 2 ^ d + S) % 2 ^ d = S % 2 ^ d := by rw [hN, Nat.add_mul_mod_self_left]
  have s := shift_num (G * 2 ^ d + S) d eg (by intro _; rw [q1]; exact Nat.le_trans hG (Nat.le_add_right _ _))
  rw [q1, q2, show eg - (d : Int) = es by omega] at s
  exact s
theorem lost_20 (S d : Nat) (hz : S % 1048576 = 0) (h : S % 2 ^ d ≠ 0) : 20 < d := by
  rcases Nat.lt_or_ge 20 d with g | g
  · exact g
  · exfalso
    apply h
    obtain ⟨k, hk⟩ : ∃ k, 20 = d + k := ⟨20 - d, by omega⟩
    have e : S = 2 ^ 20 * (S / 1048576) := by omega
    rw [e, hk, Nat.pow_add, Nat.mul_assoc]
    exact Nat.mul_mod_right _ _
theorem fsub_lay (G S d : Nat) (es eg : Int) (hd : eg = es + d) (hle : S ≤ G * 2 ^ d) (hG : 42535295865117307932921825928971026432 ≤ G) (hS : S < 85070591730234615865843651857942052864) (hz : S % 1048576 = 0) :
    (S / 2 ^ d + (decide (S % 2 ^ d ≠ 0)).toNat ≤ G) ∧ (G - (S / 2 ^ d + (decide (S % 2 ^ d ≠ 0)).toNat) = 0 ↔ G * 2 ^ d = S)
    ∧ numR (G - (S / 2 ^ d + (decide (S % 2 ^ d ≠ 0)).toNat)) eg (decide (S % 2 ^ d ≠ 0)) = numP (G * 2 ^ d - S) es
    ∧ flagR (G - (S / 2 ^ d + (decide (S % 2 ^ d ≠ 0)).toNat)) eg (decide (S % 2 ^ d ≠ 0)) = flagP (G * 2 ^ d - S) es := by
  have hp := Nat.two_pow_pos d
  obtain ⟨f1, f2⟩ := sub_floor G S d hle
  have low : S % 2 ^ d ≠ 0 → S / 2 ^ d < 85070591730234615865843651857942 := by
    intro hl
    have h20 := lost_20 S d hz hl
    have : 2 ^ 21 ≤ 2 ^ d := Nat.pow_le_pow_right (by decide) h20
    rw [Nat.div_lt_iff_lt_mul hp]
    have : 85070591730234615865843651857942 * 2 ^ 21 ≤ 85070591730234615865843651857942 * 2 ^ d := Nat.mul_le_mul_left _ this
    rw [show 85070591730234615865843651857942 * 2 ^ 21 = 178405961588244985132285746181186781184 by decide] at this
    omega
  have hb : S / 2 ^ d + (decide (S % 2 ^ d ≠ 0)).toNat ≤ G := by
    by_cases hl : S % 2 ^ d = 0
    · rw [decide_eq_false (fun k => k hl), show (false : Bool).toNat = 0 from rfl, Nat.add_zero]
      exact Nat.div_le_of_le_mul (by rw [Nat.mul_comm (2 ^ d)]; exact hle)
    · have := low hl
      have t : (decide (S % 2 ^ d ≠ 0)).toNat ≤ 1 := Bool.toNat_le _
      omega
  have hx : G - (S / 2 ^ d + (decide (S % 2 ^ d ≠ 0)).toNat) = (G * 2 ^ d - S) / 2 ^ d := by rw [f1, Nat.sub_sub]
  have hdec : decide (S % 2 ^ d ≠ 0) = decide ((G * 2 ^ d - S) % 2 ^ d ≠ 0) := by rw [decide_eq_decide]; exact f2.symm
  have big : (G * 2 ^ d - S) % 2 ^ d ≠ 0 → 18014398509481984 ≤ (G * 2 ^ d - S) / 2 ^ d := by
    intro hl
    have := low (f2.1 hl)
    have t : (decide (S % 2 ^ d ≠ 0)).toNat ≤ 1 := Bool.toNat_le _
    rw [f1]
    omega
  have s := shift_num (G * 2 ^ d - S) d eg big
  rw [show eg - (d : Int) = es by omega] at s
  refine ⟨hb, ?_, ?_, ?_⟩
  · rw [hx]
    constructor
    · intro h0
      by_cases hl : (G * 2 ^ d - S) % 2 ^ d = 0
      · have := Nat.div_add_mod (G * 2 ^ d - S) (2 ^ d)
        rw [h0, hl, Nat.mul_zero, Nat.add_zero] at this
        omega
      · have := big hl; omega
    · intro h0
      rw [h0, Nat.sub_self, Nat.zero_div]
  · rw [hx, hdec, s.1]
  · rw [hx, hdec, s.2]
def tt : Nat := 2300
theorem tt_is : (tt : Int) = 2300 := rfl
/-- A term's number, times 2^2300. -/
def tv (n : Bool) (W : Nat) (e : Int) : Int := if n then -((W * 2 ^ (e + 2300).toNat : Nat) : Int) else ((W * 2 ^ (e + 2300).toNat : Nat) : Int)
def rnd3 (s : Int) : Int × Int := (sgnB (decide (s < 0)) + ((numP s.natAbs (-2300) : Nat) : Int), ((flagP s.natAbs (-2300) : Nat) : Int))
theorem rnd3_scale (s : Int) : rnd3 (s * ((2 ^ 152 : Nat) : Int)) = rnd2 s := by
  unfold rnd3 rnd2
  have hp := Nat.two_pow_pos 152
  rw [Int.natAbs_mul, Int.natAbs_natCast]
  generalize hq : 2 ^ 152 = q at *
  have e : decide (s * (q : Int) < 0) = decide (s < 0) := by
    rw [decide_eq_decide]
    constructor
    · intro h
      rcases Int.lt_or_le s 0 with g | g
      · exact g
      · have := Int.mul_nonneg g (show (0 : Int) ≤ (q : Int) by omega); omega
    · intro h
      exact Int.mul_neg_of_neg_of_pos h (by omega)
  rw [e, ← hq, numP_scale, flagP_scale]
  rfl
theorem tv_add (n : Bool) (G S : Nat) (eg es : Int) (h : 0 < G) : rnd3 (tv n G eg + tv n S es) = (sgnB n + ((numP (G * 2 ^ (eg + 2300).toNat + S * 2 ^ (es + 2300).toNat) (-2300) : Nat) : Int), ((flagP (G * 2 ^ (eg + 2300).toNat + S * 2 ^ (es + 2300).toNat) (-2300) : Nat) : Int)) := by
  have hp : 0 < G * 2 ^ (eg + 2300).toNat := Nat.mul_pos h (Nat.two_pow_pos _)
  unfold rnd3 tv
  generalize G * 2 ^ (eg + 2300).toNat = X at *
  generalize S * 2 ^ (es + 2300).toNat = Y at *
  cases n
  · have e1 : ((if false = true then -((X : Nat) : Int) else ((X : Nat) : Int)) + (if false = true then -((Y : Nat) : Int) else ((Y : Nat) : Int))) = ((X + Y : Nat) : Int) := by simp
    rw [e1, Int.natAbs_natCast, decide_eq_false (by omega)]
  · have e1 : ((if true = true then -((X : Nat) : Int) else ((X : Nat) : Int)) + (if true = true then -((Y : Nat) : Int) else ((Y : Nat) : Int))) = -((X + Y : Nat) : Int) := by simp; omega
    rw [e1, Int.natAbs_neg, Int.natAbs_natCast, decide_eq_true (by omega)]
theorem tv_sub (n m : Bool) (G S : Nat) (eg es : Int) (hnm : n ≠ m) (h : S * 2 ^ (es + 2300).toNat ≤ G * 2 ^ (eg + 2300).toNat) : rnd3 (tv n G eg + tv m S es) = (sgnB (n && decide (G * 2 ^ (eg + 2300).toNat ≠ S * 2 ^ (es + 2300).toNat)) + ((numP (G * 2 ^ (eg + 2300).toNat - S * 2 ^ (es + 2300).toNat) (-2300) : Nat) : Int), ((flagP (G * 2 ^ (eg + 2300).toNat - S * 2 ^ (es + 2300).toNat) (-2300) : Nat) : Int)) := by
  have hm : m = !n := by revert hnm; cases n <;> cases m <;> simp
  subst hm
  unfold rnd3 tv
  generalize G * 2 ^ (eg + 2300).toNat = X at *
  generalize S * 2 ^ (es + 2300).toNat = Y at *
  cases n
  · have e1 : ((if false = true then -((X : Nat) : Int) else ((X : Nat) : Int)) + (if (!false) = true then -((Y : Nat) : Int) else ((Y : Nat) : Int))) = ((X - Y : Nat) : Int) := by simp; omega
    rw [e1, Int.natAbs_natCast, decide_eq_false (by omega)]
    rfl
  · have e1 : ((if true = true then -((X : Nat) : Int) else ((X : Nat) : Int)) + (if (!true) = true then -((Y : Nat) : Int) else ((Y : Nat) : Int))) = -((X - Y : Nat) : Int) := by simp; omega
    rw [e1, Int.natAbs_neg, Int.natAbs_natCast, Bool.true_and, show decide (-((X - Y : Nat) : Int) < 0) = decide (X ≠ Y) by rw [decide_eq_decide]; omega]
theorem tv_comm (n m : Bool) (G S : Nat) (eg es : Int) : rnd3 (tv n G eg + tv m S es) = rnd3 (tv m S es + tv n G eg) := by rw [Int.add_comm]
/-- Two terms of one length stand in the order of their powers. -/
theorem term_lay (G S : Nat) (eg es : Int) (h0 : -2300 ≤ es) (h : es ≤ eg) : G * 2 ^ (eg + 2300).toNat = G * 2 ^ (eg - es).toNat * 2 ^ (es + 2300).toNat := by
  rw [Nat.mul_assoc, ← Nat.pow_add, show (eg - es).toNat + (es + 2300).toNat = (eg + 2300).toNat by omega]
theorem num_unit (X : Nat) (es : Int) (h0 : -2300 ≤ es) : numP (X * 2 ^ (es + 2300).toNat) (-2300) = numP X es ∧ flagP (X * 2 ^ (es + 2300).toNat) (-2300) = flagP X es := by
  rw [numP_scale, flagP_scale, show (-2300 : Int) + ((es + 2300).toNat : Int) = es by omega]
  exact ⟨rfl, rfl⟩
theorem term_add (n : Bool) (G S : Nat) (eg es : Int) (h0 : -2300 ≤ es) (h : es ≤ eg) (hG : 42535295865117307932921825928971026432 ≤ G) :
    rnd3 (tv n G eg + tv n S es) = (sgnB n + ((numR (G + S / 2 ^ (eg - es).toNat) eg (decide (S % 2 ^ (eg - es).toNat ≠ 0)) : Nat) : Int), ((flagR (G + S / 2 ^ (eg - es).toNat) eg (decide (S % 2 ^ (eg - es).toNat ≠ 0)) : Nat) : Int)) := by
  have s := fadd_lay G S (eg - es).toNat es eg (by omega) (by omega)
  rw [tv_add n G S eg es (by omega), term_lay G S eg es h0 h, ← Nat.add_mul, (num_unit _ es h0).1, (num_unit _ es h0).2, s.1, s.2]
theorem term_sub (n m : Bool) (G S : Nat) (eg es : Int) (hnm : n ≠ m) (h0 : -2300 ≤ es) (h : es ≤ eg) (hle : S ≤ G * 2 ^ (eg - es).toNat) (hG : 42535295865117307932921825928971026432 ≤ G) (hS : S < 85070591730234615865843651857942052864) (hz : S % 1048576 = 0) :
    S / 2 ^ (eg - es).toNat + (decide (S % 2 ^ (eg - es).toNat ≠ 0)).toNat ≤ G ∧
    rnd3 (tv n G eg + tv m S es) = (sgnB (n && !decide (G - (S / 2 ^ (eg - es).toNat + (decide (S % 2 ^ (eg - es).toNat ≠ 0)).toNat) = 0)) + ((numR (G - (S / 2 ^ (eg - es).toNat + (decide (S % 2 ^ (eg - es).toNat ≠ 0)).toNat)) eg (decide (S % 2 ^ (eg - es).toNat ≠ 0)) : Nat) : Int), ((flagR (G - (S / 2 ^ (eg - es).toNat + (decide (S % 2 ^ (eg - es).toNat ≠ 0)).toNat)) eg (decide (S % 2 ^ (eg - es).toNat ≠ 0)) : Nat) : Int)) := by
  obtain ⟨s1, s2, s3, s4⟩ := fsub_lay G S (eg - es).toNat es eg (by omega) hle hG hS hz
  have hp := Nat.two_pow_pos (es + 2300).toNat
  refine ⟨s1, ?_⟩
  rw [tv_sub n m G S eg es hnm (by rw [term_lay G S eg es h0 h]; exact Nat.mul_le_mul_right _ hle), term_lay G S eg es h0 h, ← Nat.sub_mul, (num_unit _ es h0).1, (num_unit _ es h0).2, s3, s4]
  have e : decide (G * 2 ^ (eg - es).toNat * 2 ^ (es + 2300).toNat ≠ S * 2 ^ (es + 2300).toNat) = !decide (G - (S / 2 ^ (eg - es).toNat + (decide (S % 2 ^ (eg - es).toNat ≠ 0)).toNat) = 0) := by
    rw [Bool.eq_iff_iff]
    simp only [decide_eq_true_eq, Bool.not_eq_true', decide_eq_false_iff_not]
    rw [s2]
    constructor
    · intro g k; exact g (by rw [k])
    · intro g k; exact g (Nat.eq_of_mul_eq_mul_right hp k)
  rw [e]
end Go.Proofs.Ytpakpgjbgehhjaa

/-
  The mathematics of roots: the root of a rounded square is the number; a root lies between its neighbours; powers of two one behind the other.
-/
namespace Go.Proofs.Ytpakpgjbgehhjaa
set_option linter.unusedVariables false

/-- What is told without a loss, whatever its power. -/
theorem told_any (X : Nat) (E : Int) (hX : 0 < X) (hl : lostP X E = false) : ∃ i j : Nat, V (patP X E) * 2 ^ j = X * 2 ^ i ∧ (i : Int) - j = E + 1074 := by
  by_cases hE : -1074 ≤ E
  · obtain ⟨i, hi⟩ : ∃ i : Nat, (i : Int) = E + 1074 := ⟨(E + 1074).toNat, by omega⟩
    refine ⟨i, 0, ?_, by omega⟩
    have h1 := lostP_scale X (-1074) i hX
    rw [show (-1074 : Int) + (i : Int) = E by omega, hl] at h1
    have h2 := V_exact _ h1
    rw [patP_scale, show (-1074 : Int) + (i : Int) = E by omega] at h2
    rw [h2, Nat.pow_zero, Nat.mul_one]
  · obtain ⟨k, hk⟩ : ∃ k : Nat, (k : Int) = -1074 - E := ⟨(-1074 - E).toNat, by omega⟩
    refine ⟨0, k, ?_, by omega⟩
    have hlast : -1074 ≤ lastP X E := by unfold lastP; omega
    obtain ⟨d, hd⟩ : ∃ d : Nat, (d : Int) = lastP X E - E := ⟨(lastP X E - E).toNat, by omega⟩
    have hm : X % 2 ^ d = 0 := by
      unfold lostP lostI at hl
      rw [← hd, decide_eq_false_iff_not, Int.toNat_natCast] at hl
      omega
    have hm2 : X % 2 ^ k = 0 := by
      have : 2 ^ d = 2 ^ k * 2 ^ (d - k) := by rw [← Nat.pow_add]; congr 1; omega
      rw [this] at hm
      exact Nat.mod_eq_zero_of_dvd (Nat.dvd_trans (Nat.dvd_mul_right _ _) (Nat.dvd_of_mod_eq_zero hm))
    obtain ⟨Y, hY⟩ : ∃ Y, X = Y * 2 ^ k := ⟨X / 2 ^ k, by have := Nat.div_add_mod X (2 ^ k); rw [hm2, Nat.add_zero, Nat.mul_comm] at this; exact this.symm⟩
    have hY0 : 0 < Y := by
      rcases Nat.eq_zero_or_pos Y with h | h
      · rw [h, Nat.zero_mul] at hY; omega
      · exact h
    have h1 := lostP_scale Y E k hY0
    rw [← hY, hl, show E + (k : Int) = -1074 by omega] at h1
    have h2 := V_exact Y h1.symm
    have h3 := patP_scale Y E k
    rw [← hY, show E + (k : Int) = -1074 by omega] at h3
    rw [h3, h2, Nat.pow_zero, Nat.mul_one, hY]
theorem flag_zero (X : Nat) (E : Int) (hX : 0 < X) (hf : flagP X E = 0) : lostP X E = false ∧ patP X E < 9218868437227405312 := by
  unfold flagP at hf
  by_cases h1 : 9218868437227405312 ≤ patP X E
  · rw [if_pos h1] at hf; omega
  · rw [if_neg h1] at hf
    cases hl : lostP X E
    · exact ⟨rfl, by omega⟩
    · rw [hl, if_pos ⟨by omega, rfl⟩] at hf
      split at hf <;> omega
theorem nanF_quiet : nanF 9221120237041090560 9221120237041090560 = 0 := by decide +kernel
theorem scale_quiet (n : Int) : scaleS 9221120237041090560 n = (9221120237041090560, 0) := by
  unfold scaleS
  rw [show isNan 9221120237041090560 = true by decide +kernel, if_pos rfl, nanF_quiet]
/-- Powers of two, one behind the other, where nothing is lost at the first. -/
theorem scale_twice (a m n : Int) (h0 : 0 ≤ a) (h1 : a < 18446744073709551616) (hf : (scaleS a m).2 = 0) : scaleS (scaleS a m).1 n = scaleS a (m + n) := by
  by_cases hn : isNan a = true
  · have e : ∀ k, scaleS a k = (9221120237041090560, nanF a a) := by intro k; unfold scaleS; rw [if_pos hn]
    rw [e] at hf ⊢
    rw [e, scale_quiet]
    simp only at hf
    rw [hf]
  · by_cases hz : (isInf a || isZ a) = true
    · have e : ∀ k, scaleS a k = (a, 0) := by intro k; unfold scaleS; rw [if_neg hn, if_pos hz]
      rw [e, e, e]
    · have e : ∀ k, scaleS a k = (sgnB (sgn a) + ((numP (V (mag a)) (k - 1074) : Nat) : Int), ((flagP (V (mag a)) (k - 1074) : Nat) : Int)) := by intro k; unfold scaleS; rw [if_neg hn, if_neg hz]
      have hza : mag a ≠ 0 := by
        intro h
        rw [(z_iff a).2 h, Bool.or_true] at hz
        exact hz rfl
      have hX := V_pos (mag a) (by omega)
      rw [e m] at hf
      simp only at hf
      obtain ⟨hl, hp⟩ := flag_zero (V (mag a)) (m - 1074) hX (by omega)
      have hnum : numP (V (mag a)) (m - 1074) = patP (V (mag a)) (m - 1074) := by unfold numP; omega
      obtain ⟨i, j, hij, hd⟩ := told_any _ _ hX hl
      have hb : scaleS (scaleS a m).1 n = (sgnB (sgn a) + ((numP (V (patP (V (mag a)) (m - 1074))) (n - 1074) : Nat) : Int), ((flagP (V (patP (V (mag a)) (m - 1074))) (n - 1074) : Nat) : Int)) := by
        rw [e m]
        simp only
        rw [hnum]
        generalize hP : patP (V (mag a)) (m - 1074) = P at *
        obtain ⟨s1, s2, s3, s4⟩ := sgn_mag (sgn a) P (by omega)
        have hP0 : P ≠ 0 := by
          intro h
          rw [h, V_zero, Nat.zero_mul] at hij
          have := Nat.mul_pos hX (Nat.two_pow_pos i)
          omega
        unfold scaleS
        rw [(fin_facts _ (by omega)).1, (fin_facts _ (by omega)).2, (z_not _).2 (by omega), if_neg (by simp), if_neg (by simp), s1, s2]
      rw [hb, e (m + n)]
      have k1 := numP_scale (V (patP (V (mag a)) (m - 1074))) (n - 1074 - j) j
      have k2 := numP_scale (V (mag a)) (n - 1074 - j) i
      have k3 := flagP_scale (V (patP (V (mag a)) (m - 1074))) (n - 1074 - j) j
      have k4 := flagP_scale (V (mag a)) (n - 1074 - j) i
      rw [hij, k2, show n - 1074 - (j : Int) + (i : Int) = m + n - 1074 by omega, show n - 1074 - (j : Int) + (j : Int) = n - 1074 by omega] at k1
      rw [hij, k4, show n - 1074 - (j : Int) + (i : Int) = m + n - 1074 by omega, show n - 1074 - (j : Int) + (j : Int) = n - 1074 by omega] at k3
      rw [k1, k3]
/-- A root that lies less than half a unit from M 2^j is rounded to it. -/
theorem root_mid (M j N : Nat) (hM : 4503599627370496 < M) (hM2 : M < 9007199254740992) (hlo : (2 * M - 1) * 2 ^ j * ((2 * M - 1) * 2 ^ j) < N) (hhi : N < (2 * M + 1) * 2 ^ j * ((2 * M + 1) * 2 ^ j)) :
    numM (isq N) (-1075) (decide (isq N * isq N ≠ N)) = min (M + j * 4503599627370496) 9218868437227405312 := by
  obtain ⟨s1, s2⟩ := isq_spec N
  have hL := isq_le N _ (Nat.le_of_lt hlo)
  have hH : isq N < (2 * M + 1) * 2 ^ j := by
    rcases Nat.lt_or_ge (isq N) ((2 * M + 1) * 2 ^ j) with h | h
    · exact h
    · have := Nat.mul_le_mul h h; omega
  have hp := Nat.two_pow_pos j
  generalize hR : isq N = R at *
  obtain ⟨T, hT⟩ : ∃ T, R * 2 ^ 2 + (decide (R * R ≠ N)).toNat = T := ⟨_, rfl⟩
  have ht1 : (decide (R * R ≠ N)).toNat ≤ 1 := Bool.toNat_le _
  have hTl : (2 * M - 1) * 2 ^ j * 4 < T := by
    rcases Nat.lt_or_ge ((2 * M - 1) * 2 ^ j) R with h | h
    · omega
    · have e : R = (2 * M - 1) * 2 ^ j := by omega
      have : decide (R * R ≠ N) = true := decide_eq_true (by rw [e]; omega)
      rw [this, show (true : Bool).toNat = 1 from rfl] at hT
      omega
  have hTh : T < (2 * M + 1) * 2 ^ j * 4 := by omega
  have e3 : 2 ^ (j + 3) = 2 ^ j * 8 := by rw [Nat.pow_add]
  have hlen : (bl T).length = j + 56 := by
    have a1 : (bl T).length ≤ j + 56 := by
      rw [bl_length_le, Nat.pow_add]
      have := Nat.mul_le_mul_right (2 ^ j * 4) (show 2 * M + 1 ≤ 18014398509481984 by omega)
      rw [show (2 : Nat) ^ 56 = 72057594037927936 by decide]
      have e1 : (2 * M + 1) * (2 ^ j * 4) = (2 * M + 1) * 2 ^ j * 4 := by rw [Nat.mul_assoc]
      have e2 : 18014398509481984 * (2 ^ j * 4) = 2 ^ j * 72057594037927936 := by omega
      omega
    have a2 : j + 55 < (bl T).length := by
      rw [bl_length_lt, Nat.pow_add]
      have := Nat.mul_le_mul_right (2 ^ j * 4) (show 9007199254740992 ≤ 2 * M - 1 by omega)
      rw [show (2 : Nat) ^ 55 = 36028797018963968 by decide]
      have e1 : (2 * M - 1) * (2 ^ j * 4) = (2 * M - 1) * 2 ^ j * 4 := by rw [Nat.mul_assoc]
      have e2 : 9007199254740992 * (2 ^ j * 4) = 2 ^ j * 36028797018963968 := by omega
      omega
    omega
  have hT0 : T ≠ 0 := by omega
  have hlast : lastP T (-1077) = (j : Int) - 1074 := by unfold lastP; rw [hlen]; omega
  have hkept : keptP T (-1077) = M := by
    unfold keptP rneI
    rw [hlast, if_pos (by omega), show ((j : Int) - 1074 - -1077).toNat = j + 3 by omega]
    obtain ⟨n1, n2⟩ := rne_near T (j + 3)
    rw [e3] at n1 n2
    generalize rne T (j + 3) = k at *
    have f1 : (2 * M + 1) * 2 ^ j * 4 = M * (2 ^ j * 8) + 2 ^ j * 4 := by grind
    have f2 : (2 * M - 1) * 2 ^ j * 4 + 2 ^ j * 4 = M * (2 ^ j * 8) := by
      obtain ⟨m, rfl⟩ : ∃ m, M = m + 1 := ⟨M - 1, by omega⟩
      rw [show 2 * (m + 1) - 1 = 2 * m + 1 by omega]
      grind
    rw [f1] at hTh
    have hle : k ≤ M := by
      rcases Nat.lt_or_ge M k with h | h
      · exfalso
        have := Nat.mul_le_mul_right (2 ^ j * 8) (show M + 1 ≤ k from h)
        rw [Nat.add_mul, Nat.one_mul] at this
        omega
      · exact h
    have hge : M ≤ k := by
      rcases Nat.lt_or_ge k M with h | h
      · exfalso
        have := Nat.mul_le_mul_right (2 ^ j * 8) (show k + 1 ≤ M from h)
        rw [Nat.add_mul, Nat.one_mul] at this
        omega
      · exact h
    omega
  unfold numM numP
  rw [hT, show (-1075 : Int) - ((2 : Nat) : Int) = -1077 by decide]
  unfold patP
  rw [if_neg hT0, hkept, hlast, show ((j : Int) - 1074 + 1074).toNat = j by omega]
theorem root_with (v j : Nat) (hv : 0 < v) : rootN v = numM (isq (v * 2 ^ ww * 4 ^ j)) (-637 - j) (decide (isq (v * 2 ^ ww * 4 ^ j) * isq (v * 2 ^ ww * 4 ^ j) ≠ v * 2 ^ ww * 4 ^ j)) := by
  have hw := ww_is
  exact (root_lay (v * 2 ^ ww) j (-637) (isq_big v ww hv (by omega))).1
def s437 : Nat := 437
theorem s437_is : s437 = 437 := rfl
theorem lift_437 (v : Nat) : v * 2 ^ ww * 4 ^ s437 = v * 2 ^ uu := by
  have hw := ww_is
  have hu := uu_is
  have hs := s437_is
  rw [four_two, ← Nat.pow_add, Nat.mul_assoc, ← Nat.pow_add, show ww + (s437 + s437) = uu by omega]
theorem pow_join (x k t : Nat) (h : t ≤ k) : x * 2 ^ (k - t) * 2 ^ t = x * 2 ^ k := by rw [Nat.mul_assoc, ← Nat.pow_add, Nat.sub_add_cancel h]
theorem lift_438 (v : Nat) : v * 2 ^ ww * 4 ^ (s437 + 1) = v * 2 ^ uu * 4 := by rw [Nat.pow_succ, ← Nat.mul_assoc, lift_437]
theorem isq_sq' (A : Nat) : isq (A * A) = A := isq_uniq _ _ (Nat.le_refl _) (Nat.mul_lt_mul'' (Nat.lt_succ_self _) (Nat.lt_succ_self _))
theorem sq_around (M j Y u q : Nat) (hq : q = 2 ^ j * 2 ^ j) (hM : 4503599627370496 < M) (hu : u ≤ 9007199254740992) (h1 : 2 * Y ≤ 2 * (M * M * q) + u * q) (h2 : 2 * (M * M * q) ≤ 2 * Y + u * q) :
    (2 * M - 1) * 2 ^ j * ((2 * M - 1) * 2 ^ j) < Y * 4 ∧ Y * 4 < (2 * M + 1) * 2 ^ j * ((2 * M + 1) * 2 ^ j) := by
  have hp : 0 < q := by rw [hq]; exact Nat.mul_pos (Nat.two_pow_pos _) (Nat.two_pow_pos _)
  have e1 : (2 * M + 1) * 2 ^ j * ((2 * M + 1) * 2 ^ j) = 4 * (M * M * q) + 4 * (M * q) + q := by rw [hq]; grind
  have e2 : (2 * M - 1) * 2 ^ j * ((2 * M - 1) * 2 ^ j) + 4 * (M * q) = 4 * (M * M * q) + q := by
    obtain ⟨m, rfl⟩ : ∃ m, M = m + 1 := ⟨M - 1, by omega⟩
    rw [show 2 * (m + 1) - 1 = 2 * m + 1 by omega, hq]
    grind
  have e3 : (u + 1) * q ≤ 2 * M * q := Nat.mul_le_mul_right q (by omega)
  rw [Nat.add_mul, Nat.one_mul, Nat.mul_assoc] at e3
  rw [e1]
  generalize M * M * q = A at *
  generalize M * q = B at *
  generalize u * q = U at *
  generalize (2 * M - 1) * 2 ^ j * ((2 * M - 1) * 2 ^ j) = C at *
  omega
/-- The root of a rounded square is the number. -/
theorem root_square (p P : Nat) (hp0 : 0 < p) (hp : p < 9218868437227405312) (hP : numP (V p * V p) (-2148) = P) (hPi : P < 9218868437227405312) (hf : flagP (V p * V p) (-2148) = 0 ∨ flagP (V p * V p) (-2148) = 1) : rootN (V P) = p := by
  have hv := V_pos p hp0
  have hX := Nat.mul_pos hv hv
  have hpat : patP (V p * V p) (-2148) = P := by unfold numP at hP; omega
  have hs := s437_is
  have hu := uu_is
  cases hl : lostP (V p * V p) (-2148)
  · obtain ⟨i, j, hij, hd⟩ := told_any _ _ hX hl
    rw [hpat, show j = uu + i by omega, Nat.pow_add, ← Nat.mul_assoc] at hij
    have e := Nat.eq_of_mul_eq_mul_right (Nat.two_pow_pos i) hij
    have hVP : 0 < V P := by
      rcases Nat.eq_zero_or_pos (V P) with h | h
      · rw [h, Nat.zero_mul] at e; omega
      · exact h
    rw [root_with (V P) s437 hVP, lift_437, e, isq_sq', show decide (V p * V p ≠ V p * V p) = false by simp, numM_false, show (-637 : Int) - (s437 : Int) = -1074 by omega]
    exact (num_V p hp).1
  · have hsm : smallP (V p * V p) (-2148) = false := by
      cases h : smallP (V p * V p) (-2148)
      · rfl
      · exfalso
        unfold flagP at hf
        rw [if_neg (by omega), hl, h, if_pos ⟨by omega, rfl⟩, if_pos rfl] at hf
        omega
    obtain ⟨M, j, hpf, hVf, hM2, hMj⟩ := V_form p
    have hXf : V p * V p = M * M * 2 ^ (j + j) := by rw [hVf, Nat.pow_add]; grind
    have hM0 : 0 < M := by
      rcases Nat.eq_zero_or_pos M with h | h
      · rw [h, Nat.zero_mul] at hVf; omega
      · exact h
    have hlen := len_scale (M * M) (j + j) (Nat.mul_pos hM0 hM0)
    rw [← hXf] at hlen
    have hlm : (bl (M * M)).length ≤ 106 := by
      rw [bl_length_le, show 106 = 53 + 53 from rfl, Nat.pow_add]
      exact Nat.mul_lt_mul'' hM2 hM2
    unfold smallP at hsm
    rw [decide_eq_false_iff_not] at hsm
    have hM1 : 4503599627370496 ≤ M := by omega
    obtain ⟨c, hc⟩ : ∃ c : Nat, (bl (M * M)).length = c + 53 := ⟨(bl (M * M)).length - 53, by
      have : 103 < (bl (M * M)).length := by
        rw [bl_length_lt, show (2 : Nat) ^ 103 = 10141204801825835211973625643008 by decide]
        have := Nat.mul_le_mul hM1 hM1
        omega
      omega⟩
    have hlast : lastP (V p * V p) (-2148) = -2148 + ((c + (j + j) : Nat) : Int) := by unfold lastP; rw [hlen, hc]; omega
    have h1074 : uu ≤ c + (j + j) := by
      rw [hlen, hc] at hsm
      omega
    have hkept : keptP (V p * V p) (-2148) = rne (V p * V p) (c + (j + j)) := by
      unfold keptP rneI
      rw [hlast]
      rw [show -2148 + ((c + (j + j) : Nat) : Int) - -2148 = ((c + (j + j) : Nat) : Int) by omega]
      by_cases h : 0 < ((c + (j + j) : Nat) : Int)
      · rw [if_pos h, Int.toNat_natCast]
      · have hz : c + (j + j) = 0 := by omega
        rw [if_neg h, hz, rne_zero]
        simp
    have hMne : M ≠ 4503599627370496 := by
      intro h
      rw [h] at hc hXf
      have : c = 52 := by
        have a1 : (bl (4503599627370496 * 4503599627370496)).length ≤ 105 := (bl_length_le _ 105).2 (by decide)
        have a2 : 104 < (bl (4503599627370496 * 4503599627370496)).length := (bl_length_lt _ 104).2 (by decide)
        omega
      unfold lostP lostI at hl
      rw [decide_eq_true_eq, hlast, this, show (-2148 + ((52 + (j + j) : Nat) : Int) - -2148).toNat = 52 + (j + j) by omega, hXf, show 2 ^ (52 + (j + j)) = 4503599627370496 * 2 ^ (j + j) from Nat.pow_add _ _ _] at hl
      apply hl.2
      rw [Nat.mul_mod_mul_right, Nat.mul_mod_right, Nat.zero_mul]
    have hk1 := keptP_le (V p * V p) (-2148)
    have hk2 : 4503599627370496 ≤ keptP (V p * V p) (-2148) ∨ c + (j + j) - 1074 = 0 := by
      by_cases h : -1074 < lastP (V p * V p) (-2148)
      · exact Or.inl (keptP_ge _ _ hX h)
      · right; omega
    have hVP : V P = keptP (V p * V p) (-2148) * 2 ^ (c + (j + j) - 1074) := by
      rw [← hpat]
      unfold patP
      rw [if_neg (by omega), hlast, show (-2148 + ((c + (j + j) : Nat) : Int) + 1074).toNat = c + (j + j) - 1074 by omega]
      exact V_split _ _ hk1 hk2
    have hY : V P * 2 ^ uu = rne (V p * V p) (c + (j + j)) * 2 ^ (c + (j + j)) := by
      rw [hVP, hkept, show c + (j + j) - 1074 = c + (j + j) - uu from rfl]
      exact pow_join _ _ _ h1074
    obtain ⟨n1, n2⟩ := rne_near (V p * V p) (c + (j + j))
    rw [← hY] at n1 n2
    rw [hXf] at n1 n2
    have hu2 : 2 ^ c ≤ 9007199254740992 := by
      have : 2 ^ c ≤ 2 ^ 53 := Nat.pow_le_pow_right (by decide) (by omega)
      exact this
    rw [show 2 ^ (c + (j + j)) = 2 ^ c * 2 ^ (j + j) from Nat.pow_add _ _ _] at n1 n2
    obtain ⟨b1, b2⟩ := sq_around M j (V P * 2 ^ uu) (2 ^ c) (2 ^ (j + j)) (Nat.pow_add _ _ _) (by omega) hu2 n1 n2
    have hVP0 : 0 < V P := by
      rcases Nat.eq_zero_or_pos (V P) with h | h
      · rw [h, Nat.zero_mul] at b1; omega
      · exact h
    rw [root_with (V P) (s437 + 1) hVP0, lift_438, show (-637 : Int) - ((s437 + 1 : Nat) : Int) = -1075 by omega, root_mid M j _ (by omega) hM2 b1 b2, ← hpf]
    exact Nat.min_eq_left (Nat.le_of_lt hp)
end Go.Proofs.Ytpakpgjbgehhjaa
