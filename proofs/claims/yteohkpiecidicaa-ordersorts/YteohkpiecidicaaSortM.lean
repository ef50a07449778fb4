/-
  The mathematics of OrderSorts: taking the least out one by one leaves what was taken in order.
-/
import Derived.Test.YteohkpiecidicaaOrderC
namespace Go.Proofs.Yteohkpiecidicaa
set_option linter.unusedVariables false

theorem tot_neg (a b : Int) : totS a b < 0 ↔ place a < place b := by
  unfold totS cmpZ
  repeat' split
  all_goals omega
theorem tot_pos (a b : Int) : 0 < totS a b ↔ place b < place a := by
  unfold totS cmpZ
  repeat' split
  all_goals omega
theorem less_place' (a b : Int) (h0 : 0 ≤ a) (h1 : a < 18446744073709551616) (g0 : 0 ≤ b) (g1 : b < 18446744073709551616) (h : lessS a b = true) : place a < place b := by
  unfold lessS at h
  simp only [Bool.and_eq_true, decide_eq_true_eq] at h
  obtain ⟨_, h⟩ := h
  unfold keyS sgn mag at h
  unfold place
  repeat' split
  all_goals simp_all
  all_goals omega
def Bnd (xs : List Int) : Prop := ∀ x ∈ xs, 0 ≤ x ∧ x < 18446744073709551616
theorem Bnd.get {xs : List Int} (h : Bnd xs) (i : Nat) (hi : i < xs.length) : 0 ≤ xs[i]?.getD 0 ∧ xs[i]?.getD 0 < 18446744073709551616 := by
  rw [List.getElem?_eq_getElem hi]
  exact h _ (List.getElem_mem hi)
/-- What is left is xs, what was taken out is ys, in order; n of them in all. -/
structure SortI (n : Nat) (xs ys : List Int) : Prop where
  bx : Bnd xs
  bys : Bnd ys
  srt : ys.Pairwise (fun a b => place a ≤ place b)
  low : ∀ y ∈ ys, ∀ x ∈ xs, place y ≤ place x
  len : xs.length + ys.length = n
theorem SortI.start (xs : List Int) (h : Bnd xs) : SortI xs.length xs [] := ⟨h, fun x hx => absurd hx (List.not_mem_nil), List.Pairwise.nil, fun y hy => absurd hy (List.not_mem_nil), by simp⟩
theorem SortI.step {n : Nat} {xs ys : List Int} (h : SortI n xs ys) (t : Nat) (ht : t < xs.length) (hmin : ∀ i, i < xs.length → place (xs[t]?.getD 0) ≤ place (xs[i]?.getD 0)) :
    SortI n (xs.take t ++ xs.drop (t + 1)) (ys ++ [xs[t]?.getD 0]) := by
  have hsub : ∀ x, x ∈ xs.take t ++ xs.drop (t + 1) → x ∈ xs := by
    intro x hx
    rcases List.mem_append.1 hx with g | g
    · exact List.mem_of_mem_take g
    · exact List.mem_of_mem_drop g
  have hm : xs[t]?.getD 0 ∈ xs := by rw [List.getElem?_eq_getElem ht]; exact List.getElem_mem ht
  have hmx : ∀ x ∈ xs, place (xs[t]?.getD 0) ≤ place x := by
    intro x hx
    obtain ⟨i, hi, rfl⟩ := List.getElem_of_mem hx
    have := hmin i hi
    rw [List.getElem?_eq_getElem hi] at this
    exact this
  refine ⟨fun x hx => h.bx x (hsub x hx), ?_, ?_, ?_, ?_⟩
  · intro y hy
    rcases List.mem_append.1 hy with g | g
    · exact h.bys y g
    · rw [List.mem_singleton.1 g]; exact h.bx _ hm
  · rw [List.pairwise_append]
    refine ⟨h.srt, List.pairwise_singleton _ _, ?_⟩
    intro a ha b hb
    rw [List.mem_singleton.1 hb]
    exact h.low a ha _ hm
  · intro y hy x hx
    rcases List.mem_append.1 hy with g | g
    · exact h.low y g x (hsub x hx)
    · rw [List.mem_singleton.1 g]; exact hmx x (hsub x hx)
  · have := h.len
    rw [List.length_append, List.length_append, List.length_take, List.length_drop, List.length_singleton]
    omega
theorem SortI.order {n : Nat} {xs ys : List Int} (h : SortI n xs ys) (i : Nat) (h0 : 0 < i) (hi : i < ys.length) : place (ys[i - 1]?.getD 0) ≤ place (ys[i]?.getD 0) := by
  have := List.pairwise_iff_getElem.1 h.srt (i - 1) i (by omega) hi (by omega)
  rw [List.getElem?_eq_getElem hi, List.getElem?_eq_getElem (show i - 1 < ys.length by omega)]
  exact this
/-- The least of the first k of xs stands at t. -/
def Least (xs : List Int) (t k : Nat) : Prop := t < xs.length ∧ ∀ i, i < k → place (xs[t]?.getD 0) ≤ place (xs[i]?.getD 0)
theorem Least.take {xs : List Int} {t k : Nat} (h : Least xs t k) (hk : k < xs.length) (hlt : totS (xs[k]?.getD 0) (xs[t]?.getD 0) < 0) : Least xs k (k + 1) := by
  rw [tot_neg] at hlt
  refine ⟨hk, fun i hi => ?_⟩
  rcases Nat.lt_or_ge i k with g | g
  · have := h.2 i g; omega
  · rw [show i = k by omega]; omega
theorem Least.stay {xs : List Int} {t k : Nat} (h : Least xs t k) (hlt : ¬ totS (xs[k]?.getD 0) (xs[t]?.getD 0) < 0) : Least xs t (k + 1) := by
  rw [tot_neg] at hlt
  refine ⟨h.1, fun i hi => ?_⟩
  rcases Nat.lt_or_ge i k with g | g
  · exact h.2 i g
  · rw [show i = k by omega]; omega
end Go.Proofs.Yteohkpiecidicaa
