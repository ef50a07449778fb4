/-
  Whole numbers as lists of bits, the lowest first (plain mathematics, no program in sight): the value of a list, the list of a number without noughts at its end, and that a list of bits without noughts at its end is the list of its value. No conditions.
-/
import Derived.WalkKit
namespace Go.Proofs.Ytokgfeeaoioegaa

/-- The value of a list of bits, the lowest first. -/
def val : List Int → Nat
  | [] => 0
  | x :: xs => x.toNat + 2 * val xs
/-- Each is 0 or 1. -/
def Bin (xs : List Int) : Prop := ∀ x ∈ xs, x = 0 ∨ x = 1
/-- The list of a number, without noughts at its end. -/
def bl (n : Nat) : List Int := if h : n = 0 then [] else ((n % 2 : Nat) : Int) :: bl (n / 2)

theorem bl_zero : bl 0 = [] := by rw [bl]; simp
theorem bl_pos (n : Nat) (h : n ≠ 0) : bl n = ((n % 2 : Nat) : Int) :: bl (n / 2) := by rw [bl]; simp [h]
theorem bl_one : bl 1 = [1] := by rw [bl_pos 1 (by decide)]; simp [bl_zero]

theorem bl_bin (n : Nat) : Bin (bl n) := by
  induction n using Nat.strongRecOn with
  | _ n ih =>
    by_cases h : n = 0
    · subst h; rw [bl_zero]; intro x hx; cases hx
    · rw [bl_pos n h]
      intro x hx
      rcases List.mem_cons.1 hx with rfl | hx
      · omega
      · exact ih (n / 2) (by omega) x hx
theorem val_bl (n : Nat) : val (bl n) = n := by
  induction n using Nat.strongRecOn with
  | _ n ih =>
    by_cases h : n = 0
    · subst h; rw [bl_zero]; rfl
    · rw [bl_pos n h]
      show (((n % 2 : Nat) : Int)).toNat + 2 * val (bl (n / 2)) = n
      rw [ih (n / 2) (by omega)]
      omega
theorem val_cons (x : Int) (xs : List Int) : val (x :: xs) = x.toNat + 2 * val xs := rfl
theorem val_nil : val [] = 0 := rfl
theorem val_append (xs ys : List Int) : val (xs ++ ys) = val xs + 2 ^ xs.length * val ys := by
  induction xs with
  | nil => simp [val_nil]
  | cons x xs ih =>
    rw [List.cons_append, val_cons, val_cons, ih, List.length_cons, Nat.pow_succ]
    rw [show 2 ^ xs.length * 2 * val ys = 2 * (2 ^ xs.length * val ys) by rw [Nat.mul_comm (2 ^ xs.length) 2, Nat.mul_assoc]]
    omega
theorem Bin.cons {x : Int} {xs : List Int} (h : Bin (x :: xs)) : (x = 0 ∨ x = 1) ∧ Bin xs := ⟨h x (by simp), fun y hy => h y (by simp [hy])⟩
theorem Bin.nil : Bin [] := fun x hx => by cases hx
theorem Bin.mk {x : Int} {xs : List Int} (h : x = 0 ∨ x = 1) (g : Bin xs) : Bin (x :: xs) := fun y hy => by
  rcases List.mem_cons.1 hy with rfl | hy
  · exact h
  · exact g y hy
theorem Bin.append {xs ys : List Int} (h : Bin xs) (g : Bin ys) : Bin (xs ++ ys) := fun x hx => by
  rcases List.mem_append.1 hx with hx | hx
  · exact h x hx
  · exact g x hx
theorem Bin.take {xs : List Int} (h : Bin xs) (n : Nat) : Bin (xs.take n) := fun x hx => h x (List.mem_of_mem_take hx)
theorem Bin.drop {xs : List Int} (h : Bin xs) (n : Nat) : Bin (xs.drop n) := fun x hx => h x (List.mem_of_mem_drop hx)
theorem Bin.get {xs : List Int} (h : Bin xs) (i : Nat) (hi : i < xs.length) : xs[i] = 0 ∨ xs[i] = 1 := h _ (List.getElem_mem hi)
theorem val_lt (xs : List Int) (h : Bin xs) : val xs < 2 ^ xs.length := by
  induction xs with
  | nil => simp [val_nil]
  | cons x xs ih =>
    have := ih h.cons.2
    have hx := h.cons.1
    rw [val_cons, List.length_cons, Nat.pow_succ]
    omega
/-- A list of bits without noughts at its end is the list of its value. -/
theorem bl_val (xs : List Int) (h : Bin xs) (g : ∀ hne : xs ≠ [], xs.getLast hne ≠ 0) : xs = bl (val xs) := by
  induction xs with
  | nil => rw [val_nil, bl_zero]
  | cons x xs ih =>
    have hx := h.cons.1
    have key : val (x :: xs) ≠ 0 := by
      rw [val_cons]
      cases xs with
      | nil =>
        have := g (by simp)
        simp at this
        omega
      | cons y ys =>
        have e := ih h.cons.2 (fun hne => by have := g (by simp); rwa [List.getLast_cons hne] at this)
        intro h0
        have hv : val (y :: ys) = 0 := by omega
        rw [hv, bl_zero] at e
        cases e
    rw [bl_pos _ key, val_cons]
    have e1 : (x.toNat + 2 * val xs) / 2 = val xs := by omega
    have e2 : (((x.toNat + 2 * val xs) % 2 : Nat) : Int) = x := by omega
    rw [e1, e2]
    cases xs with
    | nil => rw [val_nil, bl_zero]
    | cons y ys =>
      rw [← ih h.cons.2 (fun hne => by have := g (by simp); rwa [List.getLast_cons hne] at this)]
theorem val_zeros (xs : List Int) (h : ∀ x ∈ xs, x = 0) : val xs = 0 := by
  induction xs with
  | nil => rfl
  | cons x xs ih =>
    rw [val_cons, ih (fun y hy => h y (by simp [hy])), h x (by simp)]
    rfl
/-- What is left of a list of bits when noughts at its end are taken off is the list of its value. -/
theorem trim_val (xs : List Int) (n : Nat) (h : Bin xs) (hn : n ≤ xs.length) (hz : ∀ x ∈ xs.drop n, x = 0) (hl : ∀ hp : 0 < n, xs[n - 1]'(by omega) ≠ 0) : xs.take n = bl (val xs) := by
  have e : val xs = val (xs.take n) := by
    conv => lhs; rw [← List.take_append_drop n xs]
    rw [val_append, val_zeros _ hz]; simp
  rw [e]
  refine bl_val _ (h.take n) (fun hne => ?_)
  have hlen : (xs.take n).length = n := by rw [List.length_take]; omega
  rw [List.getLast_eq_getElem]
  have hp : 0 < n := by
    cases n with
    | zero => simp at hne
    | succ k => omega
  have := hl hp
  simp only [hlen, List.getElem_take]
  exact this
/-- How long the list of a number is. -/
theorem bl_length_le (n k : Nat) : (bl n).length ≤ k ↔ n < 2 ^ k := by
  induction k generalizing n with
  | zero =>
    by_cases h : n = 0
    · subst h; simp [bl_zero]
    · rw [bl_pos n h]; simp; omega
  | succ k ih =>
    by_cases h : n = 0
    · subst h; simp [bl_zero, Nat.two_pow_pos]
    · rw [bl_pos n h, List.length_cons, Nat.add_le_add_iff_right, ih, Nat.pow_succ]
      omega
theorem bl_length_lt (n k : Nat) : k < (bl n).length ↔ 2 ^ k ≤ n := by
  have := bl_length_le n k
  omega
theorem bl_nil_iff (n : Nat) : (bl n).length = 0 ↔ n = 0 := by
  have := bl_length_le n 0
  simp only [Nat.pow_zero] at this
  omega
theorem bl_inj {m n : Nat} (h : bl m = bl n) : m = n := by rw [← val_bl m, h, val_bl]
theorem val_take_drop (xs : List Int) (n : Nat) (hn : n ≤ xs.length) : val xs = val (xs.take n) + 2 ^ n * val (xs.drop n) := by
  conv => lhs; rw [← List.take_append_drop n xs]
  rw [val_append]
  have hlen : (xs.take n).length = n := by rw [List.length_take]; omega
  rw [hlen]
theorem val_drop (xs : List Int) (h : Bin xs) (n : Nat) : val (xs.drop n) = val xs / 2 ^ n := by
  by_cases hn : n ≤ xs.length
  · have e := val_take_drop xs n hn
    have b := val_lt (xs.take n) (h.take n)
    have hlen : (xs.take n).length = n := by rw [List.length_take]; omega
    rw [hlen] at b
    rw [e, Nat.add_mul_div_left _ _ (Nat.two_pow_pos n), Nat.div_eq_of_lt b]
    omega
  · have b := val_lt xs h
    have : 2 ^ xs.length ≤ 2 ^ n := Nat.pow_le_pow_right (by decide) (by omega)
    rw [List.drop_eq_nil_of_le (by omega), val_nil, Nat.div_eq_of_lt (by omega)]
theorem val_take (xs : List Int) (h : Bin xs) (n : Nat) : val (xs.take n) = val xs % 2 ^ n := by
  by_cases hn : n ≤ xs.length
  · have e := val_take_drop xs n hn
    have b := val_lt (xs.take n) (h.take n)
    have hlen : (xs.take n).length = n := by rw [List.length_take]; omega
    rw [hlen] at b
    rw [e, Nat.add_mul_mod_self_left, Nat.mod_eq_of_lt b]
  · have b := val_lt xs h
    have : 2 ^ xs.length ≤ 2 ^ n := Nat.pow_le_pow_right (by decide) (by omega)
    rw [List.take_of_length_le (by omega), Nat.mod_eq_of_lt (by omega)]
theorem val_drop_cons (xs : List Int) (i : Nat) (hi : i < xs.length) : val (xs.drop i) = (xs[i]).toNat + 2 * val (xs.drop (i + 1)) := by
  rw [List.drop_eq_getElem_cons hi, val_cons]
end Go.Proofs.Ytokgfeeaoioegaa
