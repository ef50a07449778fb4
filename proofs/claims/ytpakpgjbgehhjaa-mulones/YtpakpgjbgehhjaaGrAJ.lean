/-
  Texts put together: MulQ.
-/
import Derived.Test.YtpakpgjbgehhjaaProg
import Derived.Test.YtpakpgjbgehhjaaGrAD
import Derived.Test.YtpakpgjbgehhjaaGrQ
import Derived.Test.YtpakpgjbgehhjaaGrT
/-
  The identity and a product without a Calc, told as numbers at places; the mathematics of MulOnes. Conditions: small sizes.
-/
namespace Go.Proofs.Ytpakpgjbgehhjaa
open Go.RowKit
set_option linter.unusedVariables false

theorem mOneZ (n : Nat) (w : World) (hn : n ≤ 64) :
    Calls Try.prog 31 #[.int .i64 (n : Int)] w fun e w' => ∃ g Z, e = .returned (.agg #[.int .i64 (n : Int), .int .i64 (n : Int), .int .i64 (n : Int), .slice (some ⟨g, 0, none⟩) (n * n) (n * n)]) ∧ w.heap.size ≤ g ∧ URow w' (some ⟨g, 0, none⟩) (n * n) (n * n) Z ∧ dgn Z (fun _ => 4607182418800017408) n ∧ Below w.heap.size w w' := by
  have hnn : n * n ≤ 4096 := Nat.mul_le_mul hn hn
  refine (mOne n w hn).mono ?_
  rintro e w' ⟨g, xs, rfl, hg, hR, hO, hb⟩
  exact ⟨g, fun j => xs[j]?.getD 0, rfl, hg, hR.rowZ hO.1 (by omega) hO.2.1, DgI.dgn hO, hb⟩
theorem mGemm0 (R C S : Nat) (a : Option Addr) (len cap : Nat) (Z : Nat → Int) (D S2 : Nat) (a2 : Option Addr) (len2 cap2 : Nat) (Y : Nat → Int) (w : World) (h : Rgt (R : Int) (C : Int) (S : Int) len) (h2 : Rgt (C : Int) (D : Int) (S2 : Int) len2) (hz : URow w a len cap Z) (hy : URow w a2 len2 cap2 Y) (hRC : R * C ≤ 1000000) (hCD : D * C ≤ 1000000) (hRD : R * D ≤ 1000000) :
    Calls Try.prog 14 #[.pointer none, .agg #[.int .i64 (R : Int), .int .i64 (C : Int), .int .i64 (S : Int), .slice a len cap], .agg #[.int .i64 (C : Int), .int .i64 (D : Int), .int .i64 (S2 : Int), .slice a2 len2 cap2]] w fun e w' => ∃ g X, e = .returned (.tuple #[.agg #[.int .i64 (R : Int), .int .i64 (D : Int), .int .i64 (D : Int), .slice (some ⟨g, 0, none⟩) (R * D) (R * D)], .int .i64 0]) ∧ w.heap.size ≤ g ∧ URow w' (some ⟨g, 0, none⟩) (R * D) (R * D) X ∧ (∀ i k, i < R → k < D → X (i * D + k) = dotV (fun j => Z (i * S + j)) (fun j => Y (j * S2 + k)) C) ∧ Below w.heap.size w w' := by
  refine (mGemm (.pointer none) none 0 R C S a len cap Z D S2 a2 len2 cap2 Y w (IsCalc.nil _ _) h h2 hz hy hRC hCD hRD).mono ?_
  rintro e w' ⟨g, X, rfl, hg, hU, hE, _, hB⟩
  exact ⟨g, X, rfl, hg, hU, hE, hB.nil⟩
/-- The identity ahead of a matrix. -/
theorem one_left (Z X L : Nat → Int) (p q : Nat) (hI : dgn Z (fun _ => 4607182418800017408) p) (hX : ∀ j, 0 ≤ X j ∧ X j < 18446744073709551616) (fX : AllF X p q q) (hL : ∀ i k, i < p → k < q → L (i * q + k) = dotV (fun j => Z (i * p + j)) (fun j => X (j * q + k)) p) (i k : Nat) (hi : i < p) (hk : k < q) : Like (X (i * q + k)) (L (i * q + k)) := by
  rw [hL i k hi hk]
  exact (dot_one (fun j => Z (i * p + j)) (fun j => X (j * q + k)) i p (fun j hj => by
    show Z (i * p + j) = _
    rw [hI i j hi hj]
    by_cases e : i = j
    · rw [if_pos e, if_pos e.symm]
    · rw [if_neg e, if_neg (fun g => e g.symm)]) (fun j hj => ⟨(hX _).1, (hX _).2, fX j k hj hk⟩)).2 hi
/-- The identity behind a matrix. -/
theorem one_right (Z X S : Nat → Int) (p q : Nat) (hI : dgn Z (fun _ => 4607182418800017408) q) (hX : ∀ j, 0 ≤ X j ∧ X j < 18446744073709551616) (fX : AllF X p q q) (hS : ∀ i k, i < p → k < q → S (i * q + k) = dotV (fun j => X (i * q + j)) (fun j => Z (j * q + k)) q) (i k : Nat) (hi : i < p) (hk : k < q) : Like (X (i * q + k)) (S (i * q + k)) := by
  rw [hS i k hi hk, dotV_comm]
  exact (dot_one (fun j => Z (j * q + k)) (fun j => X (i * q + j)) k q (fun j hj => hI j k hj hk) (fun j hj => ⟨(hX _).1, (hX _).2, fX i j hi hj⟩)).2 hk
/-- What both say of one number: the same pattern, or zeros. -/
theorem like_cases (x l : Int) (h : Like x l) (h0 : 0 ≤ x) (h1 : x < 18446744073709551616) : (l = x ∨ (¬ l = x ∧ (l == x) = false ∧ (l != x) = true ∧ x % 9223372036854775808 = 0)) ∧ l % 9223372036854775808 = x % 9223372036854775808 := by
  have hm : l % 9223372036854775808 = x % 9223372036854775808 := by
    have := h.mg
    unfold mag at this
    omega
  refine ⟨?_, hm⟩
  by_cases g : l = x
  · exact .inl g
  · rcases h with e | ⟨m, _⟩
    · exact absurd e g
    · exact .inr ⟨g, by rw [beq_eq_false_iff_ne]; exact g, by rw [bne_iff_ne]; exact g, zero_pat x m⟩
theorem dotV_same (X Y X' Y' : Nat → Int) (n : Nat) (h1 : ∀ i, i < n → X i = X' i) (h2 : ∀ i, i < n → Y i = Y' i) : dotV X Y n = dotV X' Y' n := by
  induction n with
  | zero => rfl
  | succ k ih =>
    show (addS (dotV X Y k) (mulS (X k) (Y k)).1).1 = (addS (dotV X' Y' k) (mulS (X' k) (Y' k)).1).1
    rw [ih (fun i hi => h1 i (by omega)) (fun i hi => h2 i (by omega)), h1 k (by omega), h2 k (by omega)]
theorem flat_all {P : Nat → Prop} (p q : Nat) (h : ∀ i k, i < p → k < q → P (i * q + k)) (n : Nat) (hn : n < p * q) : P n := by
  have hs0 : 0 < q := by
    rcases Nat.eq_zero_or_pos q with e | e
    · subst e; rw [Nat.mul_zero] at hn; exact absurd hn (Nat.not_lt_zero n)
    · exact e
  have h1 : n / q < p := Nat.div_lt_of_lt_mul (by rw [Nat.mul_comm]; exact hn)
  have h2 : n % q < q := Nat.mod_lt _ hs0
  have e : n / q * q + n % q = n := by rw [Nat.mul_comm]; exact Nat.div_add_mod n q
  have := h _ _ h1 h2
  rw [e] at this
  exact this
end Go.Proofs.Ytpakpgjbgehhjaa
