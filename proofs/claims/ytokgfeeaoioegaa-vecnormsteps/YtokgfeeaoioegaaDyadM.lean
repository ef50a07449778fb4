/-
  Lists of words as whole numbers of the base 2^64: sums, products, what stands where. No conditions.
-/
import Derived.Test.YtokgfeeaoioegaaProg
namespace Go.Proofs.Ytokgfeeaoioegaa
set_option linter.unusedVariables false

def pw (k : Nat) : Int := 18446744073709551616 ^ k
theorem pw_zero : pw 0 = 1 := rfl
theorem pw_succ (k : Nat) : pw (k + 1) = pw k * 18446744073709551616 := by unfold pw; rw [Int.pow_succ]
theorem pw_add (a b : Nat) : pw (a + b) = pw a * pw b := by unfold pw; rw [Int.pow_add]
theorem pw_pos (k : Nat) : 0 < pw k := by unfold pw; exact Int.pow_pos (by decide)
theorem pw_two (k : Nat) : pw k = ((2 ^ (64 * k) : Nat) : Int) := by
  induction k with
  | zero => rfl
  | succ n ih => rw [pw_succ, ih, show 64 * (n + 1) = 64 * n + 64 by omega, Nat.pow_add]; rfl
theorem pw_le (a b : Nat) (h : a ≤ b) : pw a ≤ pw b := by
  obtain ⟨c, rfl⟩ := Nat.exists_eq_add_of_le h
  rw [pw_add]
  have h1 := pw_pos a
  have h2 := pw_pos c
  have := Int.mul_le_mul_of_nonneg_left (show 1 ≤ pw c by omega) (Int.le_of_lt h1)
  omega
theorem pw_lt (a b : Nat) (h : pw a < pw b) : a < b := by
  rcases Nat.lt_or_ge a b with h1 | h1
  · exact h1
  · have := pw_le _ _ h1; omega
def dv : List Int → Int
  | [] => 0
  | x :: xs => x + 18446744073709551616 * dv xs
theorem dv_nil : dv [] = 0 := rfl
theorem dv_cons (x : Int) (xs : List Int) : dv (x :: xs) = x + 18446744073709551616 * dv xs := rfl
def InW (xs : List Int) : Prop := ∀ x ∈ xs, 0 ≤ x ∧ x < 18446744073709551616
theorem InW.nil : InW [] := fun x h => by simp at h
theorem InW.mk {x : Int} {xs : List Int} (h0 : 0 ≤ x) (h1 : x < 18446744073709551616) (h : InW xs) : InW (x :: xs) := fun y hy => by
  rcases List.mem_cons.1 hy with rfl | hy
  · exact ⟨h0, h1⟩
  · exact h y hy
theorem InW.head {x : Int} {xs : List Int} (h : InW (x :: xs)) : 0 ≤ x ∧ x < 18446744073709551616 := h x (by simp)
theorem InW.tail {x : Int} {xs : List Int} (h : InW (x :: xs)) : InW xs := fun y hy => h y (by simp [hy])
theorem InW.take {xs : List Int} (h : InW xs) (k : Nat) : InW (xs.take k) := fun x hx => h x (List.mem_of_mem_take hx)
theorem InW.drop {xs : List Int} (h : InW xs) (k : Nat) : InW (xs.drop k) := fun x hx => h x (List.mem_of_mem_drop hx)
theorem InW.append {xs ys : List Int} (h : InW xs) (g : InW ys) : InW (xs ++ ys) := fun x hx => (List.mem_append.1 hx).elim (h x) (g x)
theorem InW.zeros (n : Nat) : InW (List.replicate n 0) := fun x hx => by obtain ⟨_, rfl⟩ := List.mem_replicate.1 hx; decide
theorem InW.get {xs : List Int} (h : InW xs) (i : Nat) : 0 ≤ xs[i]?.getD 0 ∧ xs[i]?.getD 0 < 18446744073709551616 := by
  cases e : xs[i]? with
  | none => simp
  | some y => exact h y (List.mem_of_getElem? e)
theorem InW.set {xs : List Int} (h : InW xs) (i : Nat) (y : Int) (h0 : 0 ≤ y) (h1 : y < 18446744073709551616) : InW (xs.set i y) := fun x hx => by
  rcases List.mem_or_eq_of_mem_set hx with hx | rfl
  · exact h x hx
  · exact ⟨h0, h1⟩
theorem dv_nonneg {xs : List Int} (h : InW xs) : 0 ≤ dv xs := by
  induction xs with
  | nil => decide
  | cons x xs ih => have := ih h.tail; have := h.head; unfold dv; omega
theorem dv_lt {xs : List Int} (h : InW xs) : dv xs < pw xs.length := by
  induction xs with
  | nil => decide
  | cons x xs ih => have := ih h.tail; have := h.head; rw [List.length_cons, pw_succ]; unfold dv; omega
theorem dv_append (xs ys : List Int) : dv (xs ++ ys) = dv xs + pw xs.length * dv ys := by
  induction xs with
  | nil => rw [List.nil_append, List.length_nil, pw_zero, Int.one_mul]; unfold dv; omega
  | cons x xs ih => rw [List.cons_append, List.length_cons, pw_succ, dv_cons, dv_cons, ih]; grind
theorem dv_zeros (n : Nat) : dv (List.replicate n 0) = 0 := by
  induction n with
  | zero => rfl
  | succ n ih => rw [List.replicate_succ]; unfold dv; rw [ih]; rfl
theorem dv_set (xs : List Int) (i : Nat) (y : Int) (hi : i < xs.length) : dv (xs.set i y) = dv xs + (y - xs[i]?.getD 0) * pw i := by
  induction xs generalizing i with
  | nil => simp at hi
  | cons x xs ih =>
    cases i with
    | zero => simp only [List.set_cons_zero, List.getElem?_cons_zero, Option.getD_some, pw_zero]; unfold dv; omega
    | succ i => simp only [List.set_cons_succ, List.getElem?_cons_succ, pw_succ, dv_cons, ih i (by simpa using hi)]; grind
theorem take_snoc_get (xs : List Int) (i : Nat) (hi : i < xs.length) : xs.take (i + 1) = xs.take i ++ [xs[i]?.getD 0] := by
  rw [List.take_succ_eq_append_getElem hi, List.getElem?_eq_getElem hi]; rfl
theorem dv_take_succ (xs : List Int) (i : Nat) (hi : i < xs.length) : dv (xs.take (i + 1)) = dv (xs.take i) + xs[i]?.getD 0 * pw i := by
  rw [take_snoc_get xs i hi, dv_append, List.length_take, Nat.min_eq_left (by omega)]
  rw [dv_cons, dv_nil]
  grind
theorem dv_split (xs : List Int) (k : Nat) (hk : k ≤ xs.length) : dv xs = dv (xs.take k) + pw k * dv (xs.drop k) := by
  have := dv_append (xs.take k) (xs.drop k)
  rw [List.take_append_drop, List.length_take, Nat.min_eq_left hk] at this
  exact this
theorem drop_cons_get (xs : List Int) (i : Nat) (hi : i < xs.length) : xs.drop i = xs[i]?.getD 0 :: xs.drop (i + 1) := by
  rw [List.drop_eq_getElem_cons hi, List.getElem?_eq_getElem hi]; rfl
/-- What lies beyond a number's size is 0. -/
theorem dv_high (xs : List Int) (h : InW xs) (m j : Nat) (hm : dv xs < pw m) (hj : m ≤ j) : xs[j]?.getD 0 = 0 := by
  by_cases hl : j < xs.length
  · have e := dv_split xs j (by omega)
    rw [drop_cons_get xs j hl] at e
    have a := dv_nonneg (h.take j)
    have b := dv_nonneg (h.drop (j + 1))
    have c := h.get j
    unfold dv at e
    have p := pw_le _ _ hj
    have q := pw_pos j
    rcases Int.lt_or_le 0 (xs[j]?.getD 0) with g | g
    · have := Int.mul_le_mul_of_nonneg_left (show 1 ≤ xs[j]?.getD 0 + 18446744073709551616 * dv (xs.drop (j + 1)) by omega) (Int.le_of_lt q)
      have e2 : dv xs = dv (xs.take j) + pw j * (xs[j]?.getD 0 + 18446744073709551616 * dv (xs.drop (j + 1))) := by rw [dv_split xs j (by omega), drop_cons_get xs j hl]; rfl
      omega
    · omega
  · rw [List.getElem?_eq_none (by omega)]; rfl
theorem dv_low (xs : List Int) (h : InW xs) (j : Nat) (hj : j < xs.length) (hn : xs[j]?.getD 0 ≠ 0) : pw j ≤ dv xs := by
  rcases Int.lt_or_le (dv xs) (pw j) with g | g
  · exact absurd (dv_high xs h j j g (Nat.le_refl _)) hn
  · exact g
/-- A list of words with no zeros at its ends. -/
def Norm (ws : List Int) : Prop := InW ws ∧ (ws ≠ [] → ws[0]?.getD 0 ≠ 0 ∧ ws[ws.length - 1]?.getD 0 ≠ 0)
theorem Norm.pos {ws : List Int} (h : Norm ws) (hn : ws ≠ []) : pw (ws.length - 1) ≤ dv ws ∧ dv ws < pw ws.length ∧ 0 < dv ws := by
  have hl : 0 < ws.length := List.length_pos_iff.2 hn
  have a := dv_low ws h.1 (ws.length - 1) (by omega) (h.2 hn).2
  have b := pw_pos (ws.length - 1)
  exact ⟨a, dv_lt h.1, by omega⟩
/-- Zeros at both ends taken off. -/
theorem dv_trim (xs : List Int) (h : InW xs) (lo hi : Nat) (hl : lo ≤ hi) (hh : hi ≤ xs.length) (z1 : ∀ i, hi ≤ i → i < xs.length → xs[i]?.getD 0 = 0) (z0 : ∀ i, i < lo → xs[i]?.getD 0 = 0) :
    dv xs = pw lo * dv ((xs.drop lo).take (hi - lo)) := by
  have zero : ∀ ys : List Int, (∀ i, i < ys.length → ys[i]?.getD 0 = 0) → dv ys = 0 := by
    intro ys
    induction ys with
    | nil => intro _; rfl
    | cons y ys ih =>
      intro g
      have g0 := g 0 (by simp)
      simp at g0
      have := ih (fun i hi => by have := g (i + 1) (by simpa using hi); simpa using this)
      unfold dv; rw [this, g0]; rfl
  have e1 := dv_split xs lo (by omega)
  have e2 := dv_split (xs.drop lo) (hi - lo) (by rw [List.length_drop]; omega)
  have a := zero (xs.take lo) (fun i hi => by
    rw [List.length_take] at hi
    rw [List.getElem?_take, if_pos (by omega)]
    exact z0 i (by omega))
  have b := zero ((xs.drop lo).drop (hi - lo)) (fun i hi => by
    rw [List.length_drop, List.length_drop] at hi
    rw [List.getElem?_drop, List.getElem?_drop]
    exact z1 _ (by omega) (by omega))
  rw [e1, e2, a, b, Int.mul_zero, Int.add_zero, Int.zero_add]
/-- One word of a sum. -/
theorem add_word (T z y c s c' p : Int) (d d' : Int) (hs : s + 18446744073709551616 * c' = z + y + c) (hd : d' = d + (s - z) * p) (hT : d + c * p = T) : d' + c' * (p * 18446744073709551616) = T + y * p := by
  subst hd; subst hT
  have : s - z = y + c - 18446744073709551616 * c' := by omega
  rw [this]
  grind
theorem sub_word (T z y c s c' p : Int) (d d' : Int) (hs : s - 18446744073709551616 * c' = z - y - c) (hd : d' = d + (s - z) * p) (hT : d - c * p = T) : d' - c' * (p * 18446744073709551616) = T - y * p := by
  subst hd; subst hT
  have : s - z = 18446744073709551616 * c' - y - c := by omega
  rw [this]
  grind
end Go.Proofs.Ytokgfeeaoioegaa
