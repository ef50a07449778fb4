/-
  Texts put together: PivR SysP.
-/
import Derived.Test.YtpakpgjbgehhjaaGreatProg
import Derived.Test.YtpakpgjbgehhjaaGreatGrAM
import Derived.Test.YtpakpgjbgehhjaaGreatGrAN
/-
  A row of places that is a permutation: within n, onto, one to one, and a sum over it is the sum (the order of SolvePivots' rows and columns).
-/
namespace Go.Proofs.YtpakpgjbgehhjaaGreat
set_option linter.unusedVariables false
structure Perm (p : Nat → Nat) (n : Nat) : Prop where
  lt : ∀ k, k < n → p k < n
  onto : ∀ i, i < n → ∃ k, k < n ∧ p k = i
  sum : ∀ g : Nat → Int, fsum (fun k => g (p k)) n = fsum g n
theorem sw_sw (a b k : Nat) : sw a b (sw a b k) = k := by
  unfold sw
  by_cases h1 : k = a
  · subst h1
    by_cases h2 : b = k
    · simp [h2]
    · simp [h2]
  · by_cases h2 : k = b
    · subst h2
      simp [h1]
    · simp [h1, h2]
theorem Perm.start (n : Nat) : Perm (fun k => k) n := ⟨fun k h => h, fun i h => ⟨i, h, rfl⟩, fun g => rfl⟩
theorem Perm.swap {p : Nat → Nat} {n : Nat} (h : Perm p n) (a b : Nat) (ha : a < n) (hb : b < n) : Perm (fun k => p (sw a b k)) n where
  lt := fun k hk => h.lt _ (sw_lt a b n k ha hb hk)
  onto := fun i hi => by
    obtain ⟨k, hk, e⟩ := h.onto i hi
    exact ⟨sw a b k, sw_lt a b n k ha hb hk, by rw [sw_sw]; exact e⟩
  sum := fun g => by
    rw [fsum_sw (fun k => g (p k)) a b n ha hb]
    exact h.sum g
/-- two places of the row are the same place only where the two are -/
theorem Perm.inj {p : Nat → Nat} {n : Nat} (h : Perm p n) (i j : Nat) (hi : i < n) (hj : j < n) (e : p i = p j) : i = j := by
  refine Classical.byContradiction fun hn => ?_
  have one : ∀ (c m : Nat), fsum (fun k => if k = c then 1 else 0) m = if c < m then 1 else 0 := by
    intro c m
    induction m with
    | zero => rfl
    | succ m ih =>
        show fsum _ m + (if m = c then (1 : Int) else 0) = _
        rw [ih]
        by_cases h1 : c < m
        · rw [if_pos h1, if_neg (by omega), if_pos (by omega)]; rfl
        · by_cases h2 : m = c
          · rw [if_neg h1, if_pos h2, if_pos (by omega)]; rfl
          · rw [if_neg h1, if_neg h2, if_neg (by omega)]; rfl
  have nn : ∀ (f : Nat → Int), (∀ k, 0 ≤ f k) → ∀ m, 0 ≤ fsum f m := by
    intro f hf m
    induction m with
    | zero => exact Int.le_refl 0
    | succ m ih =>
        show 0 ≤ fsum f m + f m
        have := hf m
        omega
  have hs := h.sum (fun k => if k = p i then 1 else 0)
  rw [one, if_pos (h.lt i hi)] at hs
  have hd := fsum_sub (fun k => if p k = p i then (1 : Int) else 0) (fun k => if k = i then 1 else 0) n
  have he := fsum_sub (fun k => (if p k = p i then (1 : Int) else 0) - (if k = i then 1 else 0)) (fun k => if k = j then 1 else 0) n
  rw [one, if_pos hj, ← hd, one, if_pos hi] at he
  have hz := nn (fun k => (if p k = p i then (1 : Int) else 0) - (if k = i then 1 else 0) - (if k = j then 1 else 0)) (by
    intro k
    by_cases h1 : k = i
    · subst h1
      simp [hn]
    · by_cases h2 : k = j
      · subst h2
        simp [h1, e]
      · by_cases h3 : p k = p i
        · simp [h1, h2, h3]
        · simp [h1, h2, h3]) n
  rw [← he] at hz
  have hs2 : fsum (fun k => if p k = p i then (1 : Int) else 0) n = 1 := hs
  rw [hs2] at hz
  omega

end Go.Proofs.YtpakpgjbgehhjaaGreat

/-
  solve's own isAboveZero: a number above zero. Condition: a pattern within its range.
-/
namespace Go.Proofs.YtpakpgjbgehhjaaGreat
open Go.RowKit
set_option linter.unusedVariables false
set_option linter.unusedSimpArgs false

/-- A pattern above zero: neither zero, nor infinite, nor no number, nor beneath. -/
theorem uAbove (b : Int) (w : World) (h0 : 0 ≤ b) (h1 : b < 18446744073709551616) :
    Calls Tryz.prog 49 #[.int .u64 b] w fun e w' => e = .returned (.bool (decide (0 < b ∧ b < 9218868437227405312))) ∧ w' = w := by
  go_enter Tryz.func49, Tryz.ntmps49
  by_cases g1 : b / 4503599627370496 % 2048 < 2047
  · by_cases g2 : 9223372036854775808 ≤ b
    · have HF : Hid (decide (b / 4503599627370496 % 2048 < 2047) = true) := decide_eq_true g1
      have HN : Hid (decide (9223372036854775808 ≤ b) = true) := decide_eq_true g2
      have HG : Hid (decide (0 < b ∧ b < 9218868437227405312) = false) := decide_eq_false (by omega)
      clear g1 g2
      go_wp2_with (first | (go_at_call 10; refine (finite_any _ _ h0 h1).mono ?_; rintro e w' ⟨rfl, rfl⟩; rw [HF.out]) | (go_at_call 24; refine (neg_any _ _ h0 h1).mono ?_; rintro e w' ⟨rfl, rfl⟩; rw [HN.out]))
      go_ret
      exact ⟨ret_eq (bool_eq HG.out.symm), rfl⟩
    · have HF : Hid (decide (b / 4503599627370496 % 2048 < 2047) = true) := decide_eq_true g1
      have HN : Hid (decide (9223372036854775808 ≤ b) = false) := decide_eq_false g2
      have HG : Hid (decide (0 < b ∧ b < 9218868437227405312) = (b % 9223372036854775808 != 0)) := by
        show decide (0 < b ∧ b < 9218868437227405312) = (b % 9223372036854775808 != 0)
        have hm : b % 9223372036854775808 = b := Int.emod_eq_of_lt h0 (by omega)
        have hq : b / 4503599627370496 % 2048 = b / 4503599627370496 := Int.emod_eq_of_lt (by omega) (by omega)
        rw [hq] at g1
        rw [hm]
        by_cases z : b = 0
        · rw [z]; decide
        · rw [decide_eq_true (show 0 < b ∧ b < 9218868437227405312 by omega)]
          simp [z]
      clear g1 g2
      go_wp2_with (first | (go_at_call 10; refine (finite_any _ _ h0 h1).mono ?_; rintro e w' ⟨rfl, rfl⟩; rw [HF.out]) | (go_at_call 24; refine (neg_any _ _ h0 h1).mono ?_; rintro e w' ⟨rfl, rfl⟩; rw [HN.out]) | (go_at_call 25; refine (abs_any _ _ h0 h1).mono ?_; rintro e w' ⟨rfl, rfl⟩))
      go_ret
      exact ⟨ret_eq (bool_eq HG.out.symm), rfl⟩
  · have HF : Hid (decide (b / 4503599627370496 % 2048 < 2047) = false) := decide_eq_false g1
    have HG : Hid (decide (0 < b ∧ b < 9218868437227405312) = false) := decide_eq_false (by omega)
    clear g1
    go_wp2_with (go_at_call 10; refine (finite_any _ _ h0 h1).mono ?_; rintro e w' ⟨rfl, rfl⟩; rw [HF.out])
    go_ret
    exact ⟨ret_eq (bool_eq HG.out.symm), rfl⟩
end Go.Proofs.YtpakpgjbgehhjaaGreat
