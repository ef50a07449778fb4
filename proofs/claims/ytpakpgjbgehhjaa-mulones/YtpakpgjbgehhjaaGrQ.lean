/-
  Texts put together: MatS MatT MatU.
-/
import Derived.Test.YtpakpgjbgehhjaaProg
import Derived.Test.YtpakpgjbgehhjaaGrO
import Derived.Test.YtpakpgjbgehhjaaGrN
/-
  What mat's Square returns: the sum of the squares, exactly. Conditions: a matrix that is right, of at most 1024 numbers.
-/
namespace Go.Proofs.Ytpakpgjbgehhjaa
open Go.RowKit
set_option linter.unusedVariables false
set_option linter.unusedSimpArgs false

/-- The sum of the squares of the first n, times 2^2176. -/
def sumQ (X : Nat → Int) : Nat → Int
  | 0 => 0
  | k + 1 => sumQ X k + xv (X k) * xv (X k)
end Go.Proofs.Ytpakpgjbgehhjaa

/-
  What mat's One returns. Conditions: at most 64 rows.
-/
namespace Go.Proofs.Ytpakpgjbgehhjaa
open Go.RowKit
set_option linter.unusedVariables false
set_option linter.unusedSimpArgs false

theorem bes_four (w : World) (g : Nat) (u0 u1 u2 u3 : Value) : Bes (some g) w ((((w.setCell ⟨g, 0, none⟩ u0).setCell ⟨g, 1, none⟩ u1).setCell ⟨g, 2, none⟩ u2).setCell ⟨g, 3, none⟩ u3) :=
  ((((Bes.refl (some g) w).set (p := ⟨g, 0, none⟩) (.inr rfl) u0).set (p := ⟨g, 1, none⟩) (.inr rfl) u1).set (p := ⟨g, 2, none⟩) (.inr rfl) u2).set (p := ⟨g, 3, none⟩) (.inr rfl) u3
/-- The first j rows are the identity's; the others are zeros. -/
def OneI (xs : List Int) (n j : Nat) : Prop := xs.length = n * n ∧ InW xs ∧ ∀ i k, i < n → k < n → xs[i * n + k]?.getD 0 = if i = k ∧ i < j then 4607182418800017408 else 0
theorem OneI.zero (n : Nat) : OneI (List.replicate (n * n) 0) n 0 := by
  refine ⟨List.length_replicate, InW.zeros _, fun i k hi hk => ?_⟩
  rw [if_neg (by omega), List.getElem?_replicate]
  split <;> rfl
theorem diag_ne (n i k j : Nat) (hi : i < n) (hk : k < n) (hj : j < n) (h : ¬ (i = j ∧ k = j)) : i * n + k ≠ j * n + j := by
  rcases Nat.lt_trichotomy i j with g | g | g
  · have := Nat.mul_le_mul_right n (show i + 1 ≤ j from g)
    rw [Nat.succ_mul] at this
    omega
  · subst g
    omega
  · have := Nat.mul_le_mul_right n (show j + 1 ≤ i from g)
    rw [Nat.succ_mul] at this
    omega
theorem OneI.step {xs : List Int} {n j : Nat} (h : OneI xs n j) (hj : j < n) : OneI (xs.set (j * n + j) 4607182418800017408) n (j + 1) := by
  obtain ⟨h1, h2, h3⟩ := h
  refine ⟨by rw [List.length_set]; exact h1, h2.set _ _ (by decide) (by decide), fun i k hi hk => ?_⟩
  rw [List.getElem?_set]
  by_cases e : i = j ∧ k = j
  · obtain ⟨rfl, rfl⟩ := e
    rw [if_pos rfl, if_pos (by rw [h1]; have := Nat.mul_le_mul_right n (show k + 1 ≤ n from hk); rw [Nat.succ_mul] at this; omega), if_pos ⟨rfl, by omega⟩]
    rfl
  · rw [if_neg (Ne.symm (diag_ne n i k j hi hk hj e)), h3 i k hi hk]
    by_cases g : i = k ∧ i < j
    · rw [if_pos g, if_pos ⟨g.1, by omega⟩]
    · rw [if_neg g, if_neg (by omega)]
set_option maxHeartbeats 4000000 in
set_option maxRecDepth 100000 in
theorem mOne (n : Nat) (w : World) (hn : n ≤ 64) :
    Calls Try.prog 31 #[.int .i64 (n : Int)] w fun e w' => ∃ g xs, e = .returned (.agg #[.int .i64 (n : Int), .int .i64 (n : Int), .int .i64 (n : Int), .slice (some ⟨g, 0, none⟩) (n * n) (n * n)]) ∧ w.heap.size ≤ g ∧ RowU w' g xs ∧ OneI xs n n ∧ Below w.heap.size w w' := by
  have hnn : n * n ≤ 4096 := Nat.mul_le_mul hn hn
  obtain ⟨N, hN⟩ : ∃ N, n * n = N := ⟨_, rfl⟩
  rw [hN] at hnn ⊢
  have HN : Hid (n * n = N) := hN
  clear hN
  go_enter Try.func31, Try.ntmps31
  go_wp2_with fail
  have bW : Below w.heap.size w (w.alloc (.cells #[.int .i64 0, .int .i64 0, .int .i64 0, .slice none 0 0] 26)) := bmore (Below.refl _ _) _
  have wW := WBox.made w 0 0 0 (.slice none 0 0)
  have lW : w.heap.size < (w.alloc (.cells #[.int .i64 0, .int .i64 0, .int .i64 0, .slice none 0 0] 26)).heap.size := by simp
  generalize (w.alloc (.cells #[.int .i64 0, .int .i64 0, .int .i64 0, .slice none 0 0] 26)) = W at bW wW lW ⊢
  refine (mNew n n _ (by omega) (by omega) (by rw [HN.out]; omega)).mono ?_
  rintro e w1 ⟨rfl, _, hrow, hb1⟩
  rw [HN.out] at hrow ⊢
  obtain ⟨g, hg⟩ : ∃ g, g = W.heap.size + 1 := ⟨_, rfl⟩
  rw [← hg] at hrow ⊢
  have DW : Hid (w.heap.size < g) := by show _ < _; omega
  have W1 : Hid (WBox w1 w.heap.size 0 0 0 (.slice none 0 0)) := wW.below hb1
  have B1 : Hid (Below w.heap.size w w1) := bstep bW hb1
  have R1 : Hid (RowU w1 g (List.replicate N 0)) := hrow
  have lg := hrow.lt
  clear hb1 hrow hg bW wW lW
  go_wp2_with fail
  have mV := MBox.made w1 (n : Int) (n : Int) (n : Int) (.slice (some ⟨g, 0, none⟩) N N)
  have bV : Below w1.heap.size w1 (w1.alloc (.cells #[.int .i64 (n : Int), .int .i64 (n : Int), .int .i64 (n : Int), .slice (some ⟨g, 0, none⟩) N N] 26)) := bmore (Below.refl _ _) _
  obtain ⟨b, hb⟩ : ∃ b, b = w1.heap.size := ⟨_, rfl⟩
  rw [← hb] at mV ⊢
  have DB : Hid (g ≠ b) := by show _ ≠ _; omega
  generalize (w1.alloc (.cells #[.int .i64 (n : Int), .int .i64 (n : Int), .int .i64 (n : Int), .slice (some ⟨g, 0, none⟩) N N] 26)) = V at mV bV ⊢
  have MV : Hid (MBox V b (n : Int) (n : Int) (n : Int) (.slice (some ⟨g, 0, none⟩) N N)) := mV
  have WV : Hid (WBox V w.heap.size 0 0 0 (.slice none 0 0)) := W1.out.below bV
  have RV : Hid (RowU V g (List.replicate N 0)) := R1.out.below bV
  have BV : Hid (Below w.heap.size w V) := bstep B1.out bV
  have IV : Hid (OneI (List.replicate N 0) n 0) := by rw [← HN.out]; exact OneI.zero n
  have HT : Hid (Rgt (n : Int) (n : Int) (n : Int) N) := by rw [← HN.out]; exact tight n n (by omega) (by omega)
  clear mV bV W1 R1 B1 lg hb
  go_loopw [10] (fun i wr => ∃ (j : Nat) (xs : List Int), i = .int .i64 (j : Int) ∧ j ≤ n ∧ Hid (MBox wr b (n : Int) (n : Int) (n : Int) (.slice (some ⟨g, 0, none⟩) N N)) ∧ Hid (WBox wr w.heap.size 0 0 0 (.slice none 0 0)) ∧ Hid (RowU wr g xs) ∧ Hid (OneI xs n j) ∧ Hid (Below w.heap.size w wr)) (fun i _ => n - (intOf i).toNat)
  case atStart => exact ⟨0, _, rfl, Nat.zero_le _, MV, WV, RV, IV, BV⟩
  case round =>
    clear MV WV RV IV BV
    obtain ⟨j, xs, rfl, hj, M, A, R, I, B⟩ := hrel
    obtain ⟨p0, p1, p2, p3, p4⟩ := M.out
    by_cases hlt : (j : Int) < (n : Int)
    · have I2 := I.out.step (show j < n by omega)
      go_wp2_with fail
      refine (mSet (n : Int) (n : Int) (n : Int) g N N xs (j : Int) (j : Int) 4607182418800017408 _ HT.out R.out (by rw [I.out.1]; exact HN.out) (Nat.le_refl _) (by omega) ⟨by omega, by omega, by omega, by omega⟩).mono ?_
      rintro e w4 ⟨rfl, hR4, hB4⟩
      rw [show ((j : Int) * (n : Int) + (j : Int)).toNat = j * n + j by rw [← Int.natCast_mul]; omega] at hR4
      have M4 : Hid (MBox w4 _ _ _ _ _) := M.out.bes hB4 (ne_some DB.out)
      have A4 : Hid (WBox w4 _ _ _ _ _) := A.out.bes hB4 (ne_some (by have := DW.out; omega))
      have R4 : Hid (RowU w4 g _) := hR4
      have I4 : Hid (OneI _ n (j + 1)) := I2
      have B4 : Hid (Below w.heap.size w w4) := Bes.old B.out hB4 (Nat.le_of_lt DW.out)
      clear hR4 hB4 I2 p0 p1 p2 p3 p4
      go_wp2
      go_roundw
      case rel => exact ⟨j + 1, _, by go_num, by omega, M4, A4, R4, I4, B4⟩
      case measure => simp [intOf]; omega
    · obtain rfl : n = j := by omega
      obtain ⟨⟨v0, v1, v2, v3, v4⟩, v5⟩ := A.out
      have y0 := v5 0
      have y1 := v5 1
      have y2 := v5 2
      have y3 := v5 3
      clear v5
      go_wp2
      refine bodyPost_ret (v := .agg #[.int .i64 (n : Int), .int .i64 (n : Int), .int .i64 (n : Int), .slice (some ⟨g, 0, none⟩) N N]) (by simp [results, Try.results31, go_sem, *]) rfl ?_
      have hb := bes_four wr w.heap.size (.int .i64 (n : Int)) (.int .i64 (n : Int)) (.int .i64 (n : Int)) (.slice (some ⟨g, 0, none⟩) N N)
      have hd := DW.out
      refine ⟨g, rfl, by omega, xs, R.out.bes hb (ne_some (by omega)), I.out, Bes.old B.out hb (Nat.le_refl _)⟩
end Go.Proofs.Ytpakpgjbgehhjaa

/-
  Sums of squares of the identity, and of zeros; Finite of what is finite. No conditions.
-/
namespace Go.Proofs.Ytpakpgjbgehhjaa
open Go.RowKit
set_option linter.unusedVariables false

theorem mFinOk (R C S : Nat) (a : Option Addr) (len cap : Nat) (Z : Nat → Int) (w : World) (h : Rgt (R : Int) (C : Int) (S : Int) len) (hx : URow w a len cap Z) (hf : AllF Z R C S) :
    Calls Try.prog 22 #[.agg #[.int .i64 (R : Int), .int .i64 (C : Int), .int .i64 (S : Int), .slice a len cap]] w fun e w' => e = .returned (.bool true) ∧ Below w.heap.size w w' := by
  refine (mFin R C S a len cap Z w h hx).mono ?_
  rintro e w' ⟨⟨rfl, _⟩ | ⟨_, hN⟩, hb⟩
  · exact ⟨rfl, hb⟩
  · exact absurd hf hN
theorem sumQ_zero (X : Nat → Int) (n : Nat) (h : ∀ i, i < n → X i = 0) : sumQ X n = 0 := by
  induction n with
  | zero => rfl
  | succ n ih =>
    show sumQ X n + xv (X n) * xv (X n) = 0
    rw [ih (fun i hi => h i (by omega)), h n (by omega)]
    rfl
theorem sumQ_row (X : Nat → Int) (C n m : Nat) (q : Int) (hm : m ≤ C) (h : ∀ k, k < C → xv (X (n * C + k)) * xv (X (n * C + k)) = if n = k then q else 0) : sumQ X (n * C + m) = sumQ X (n * C) + if n < m then q else 0 := by
  induction m with
  | zero => rw [if_neg (by omega)]; simp
  | succ m ih =>
    show sumQ X (n * C + m) + xv (X (n * C + m)) * xv (X (n * C + m)) = _
    rw [ih (by omega), h m (by omega)]
    by_cases e : n = m
    · rw [if_pos e, if_neg (by omega), if_pos (by omega)]
      omega
    · rw [if_neg e]
      by_cases g : n < m
      · rw [if_pos g, if_pos (by omega)]
        omega
      · rw [if_neg g, if_neg (by omega)]
        omega
theorem sumQ_one (X : Nat → Int) (C n : Nat) (q : Int) (hn : n ≤ C) (h : ∀ i k, i < n → k < C → xv (X (i * C + k)) * xv (X (i * C + k)) = if i = k then q else 0) : sumQ X (n * C) = (n : Int) * q := by
  induction n with
  | zero => rw [Nat.zero_mul]; simp [sumQ]
  | succ n ih =>
    rw [Nat.succ_mul, sumQ_row X C n C q (Nat.le_refl _) (fun k hk => h n k (by omega) hk), ih (by omega) (fun i k hi hk => h i k (by omega) hk), if_pos (by omega)]
    grind
theorem xv_one1 : xv 4607182418800017408 * xv 4607182418800017408 = pw 34 := by decide +kernel
theorem xv_nil : xv 0 * xv 0 = 0 := by decide +kernel
end Go.Proofs.Ytpakpgjbgehhjaa
