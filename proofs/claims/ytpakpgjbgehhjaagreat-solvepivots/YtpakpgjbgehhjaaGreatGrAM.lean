/-
  Texts put together: PivM PivS PivQ.
-/
import Derived.Test.YtpakpgjbgehhjaaGreatProg
import Derived.Test.YtpakpgjbgehhjaaGreatGrAD
/-
  The mathematics of SolvePivots, in its last step: from two triangles and how near they are to the system's matrix, to how near the answer is. No conditions but at most four equations.
-/
namespace Go.Proofs.YtpakpgjbgehhjaaGreat
set_option linter.unusedVariables false
set_option linter.unusedSimpArgs false

theorem fabs_tri (f : Nat → Int) : ∀ n, (fsum f n).natAbs ≤ fabs f n
  | 0 => Nat.le_refl _
  | n + 1 => by
    have := fabs_tri f n
    show (fsum f n + f n).natAbs ≤ fabs f n + (f n).natAbs
    omega
theorem fsum_sub (f g : Nat → Int) : ∀ n, fsum f n - fsum g n = fsum (fun k => f k - g k) n
  | 0 => rfl
  | n + 1 => by
    have := fsum_sub f g n
    show fsum f n + f n - (fsum g n + g n) = fsum (fun k => f k - g k) n + (f n - g n)
    omega
theorem fsum_add (f g : Nat → Int) : ∀ n, fsum f n + fsum g n = fsum (fun k => f k + g k) n
  | 0 => rfl
  | n + 1 => by
    have := fsum_add f g n
    show fsum f n + f n + (fsum g n + g n) = fsum (fun k => f k + g k) n + (f n + g n)
    omega
theorem fsum_mul (f : Nat → Int) (c : Int) : ∀ n, fsum f n * c = fsum (fun k => f k * c) n
  | 0 => Int.zero_mul c
  | n + 1 => by
    have := fsum_mul f c n
    show (fsum f n + f n) * c = fsum (fun k => f k * c) n + f n * c
    rw [Int.add_mul, this]
theorem fsum_eq (f g : Nat → Int) : ∀ n, (∀ k, k < n → f k = g k) → fsum f n = fsum g n
  | 0, _ => rfl
  | n + 1, h => by
    show fsum f n + f n = fsum g n + g n
    rw [fsum_eq f g n (fun k hk => h k (by omega)), h n (by omega)]
theorem fsum_swap (a : Nat → Nat → Int) (m : Nat) : ∀ n, fsum (fun k => fsum (fun j => a j k) m) n = fsum (fun j => fsum (fun k => a j k) n) m
  | 0 => by
    have : ∀ m, fsum (fun _ => (0 : Int)) m = 0 := fun m => by
      induction m with
      | zero => rfl
      | succ k ih => show fsum (fun _ => (0 : Int)) k + 0 = 0; rw [ih]; rfl
    exact (this m).symm
  | n + 1 => by
    show fsum (fun k => fsum (fun j => a j k) m) n + fsum (fun j => a j n) m = fsum (fun j => fsum (fun k => a j k) n + a j n) m
    rw [fsum_swap a m n, fsum_add]
/-- A sum of naturals. -/
def nsum (f : Nat → Nat) : Nat → Nat
  | 0 => 0
  | n + 1 => nsum f n + f n
theorem nsum_le (f g : Nat → Nat) : ∀ n, (∀ k, k < n → f k ≤ g k) → nsum f n ≤ nsum g n
  | 0, _ => Nat.le_refl _
  | n + 1, h => Nat.add_le_add (nsum_le f g n (fun k hk => h k (by omega))) (h n (by omega))
theorem nsum_add (f g : Nat → Nat) : ∀ n, nsum f n + nsum g n = nsum (fun k => f k + g k) n
  | 0 => rfl
  | n + 1 => by
    have := nsum_add f g n
    show nsum f n + f n + (nsum g n + g n) = nsum (fun k => f k + g k) n + (f n + g n)
    omega
theorem nsum_mul (f : Nat → Nat) (c : Nat) : ∀ n, nsum f n * c = nsum (fun k => f k * c) n
  | 0 => Nat.zero_mul c
  | n + 1 => by
    have := nsum_mul f c n
    show (nsum f n + f n) * c = nsum (fun k => f k * c) n + f n * c
    rw [Nat.add_mul, this]
theorem fabs_nsum (f : Nat → Int) : ∀ n, fabs f n = nsum (fun k => (f k).natAbs) n
  | 0 => rfl
  | n + 1 => by show fabs f n + (f n).natAbs = nsum _ n + (f n).natAbs; rw [fabs_nsum f n]
/-- What row j of the upper triangle makes of the answer, and the sum of the magnitudes. -/
def rowU (V : Nat → Nat → Int) (X : Nat → Int) (n j k : Nat) : Int := if j ≤ k then V j k * X k else 0
/-- What both triangles tell of the number at (i, k), behind s steps. -/
def recS (V : Nat → Nat → Int) (T : Int) (s i k : Nat) : Int := fsum (fun j => if j ≤ k then V i j * V j k else 0) (min i s) + (if k < i ∧ k < s then 0 else V i k * T)
theorem rec_row (V : Nat → Nat → Int) (X : Nat → Int) (T : Int) (n i : Nat) (hi : i < n) : fsum (fun k => recS V T n i k * X k) n = fsum (fun j => V i j * fsum (rowU V X n j) n) i + fsum (rowU V X n i) n * T := by
  have e1 : ∀ k, k < n → recS V T n i k * X k = fsum (fun j => V i j * rowU V X n j k) i + rowU V X n i k * T := by
    intro k hk
    unfold recS
    rw [Nat.min_eq_left (by omega), Int.add_mul, fsum_mul]
    congr 1
    · apply fsum_eq
      intro j hj
      unfold rowU
      split
      · rw [Int.mul_assoc]
      · rw [Int.zero_mul, Int.mul_zero]
    · unfold rowU
      by_cases h : k < i
      · rw [if_pos ⟨h, hk⟩, if_neg (by omega), Int.zero_mul]
        simp
      · rw [if_neg (by omega), if_pos (by omega)]
        rw [Int.mul_assoc, Int.mul_assoc, Int.mul_comm T]
  rw [fsum_eq _ _ n e1, ← fsum_add, fsum_swap (fun j k => V i j * rowU V X n j k) i n, ← fsum_mul]
  congr 1
  apply fsum_eq
  intro j hj
  have := fsum_mul (rowU V X n j) (V i j) n
  rw [Int.mul_comm, this]
  apply fsum_eq
  intro k hk
  rw [Int.mul_comm]
theorem tri_add (U B C : Nat) (x y z : Int) (h1 : (x - y).natAbs * U ≤ B) (h2 : (y - z).natAbs * U ≤ C) : (x - z).natAbs * U ≤ B + C := by
  have h : (x - z).natAbs ≤ (x - y).natAbs + (y - z).natAbs := by omega
  have := Nat.mul_le_mul_right U h
  rw [Nat.add_mul] at this
  omega
/-- A sum of terms, each near. -/
theorem sum_near (f g : Nat → Int) (U : Nat) (E : Nat → Nat) (n : Nat) (h : ∀ k, k < n → (f k - g k).natAbs * U ≤ E k) : (fsum f n - fsum g n).natAbs * U ≤ nsum E n := by
  rw [fsum_sub]
  refine Nat.le_trans (Nat.mul_le_mul_right U (fabs_tri _ n)) ?_
  rw [fabs_nsum, nsum_mul]
  exact nsum_le _ _ n h
theorem nsum_mono (f : Nat → Nat) (m n : Nat) (h : m ≤ n) : nsum f m ≤ nsum f n := by
  induction n with
  | zero => rw [show m = 0 by omega]; exact Nat.le_refl _
  | succ k ih =>
    rcases Nat.lt_or_ge m (k + 1) with g | g
    · exact Nat.le_trans (ih (by omega)) (Nat.le_add_right _ _)
    · rw [show m = k + 1 by omega]; exact Nat.le_refl _
theorem abs_mul_le (a b : Int) (T : Nat) (h : a.natAbs ≤ T) : (a * b).natAbs ≤ T * b.natAbs := by
  rw [Int.natAbs_mul]
  exact Nat.mul_le_mul_right _ h
theorem threes (M : Nat) : ∀ i, i ≤ 4 → nsum (fun j => 3 ^ j * M) i ≤ 40 * M := by
  intro i hi
  have h : nsum (fun j => 3 ^ j * M) 4 = 40 * M := by
    show 0 + 3 ^ 0 * M + 3 ^ 1 * M + 3 ^ 2 * M + 3 ^ 3 * M = 40 * M
    omega
  exact h ▸ nsum_mono _ i 4 hi
/-- The magnitudes of the upper triangle's rows, together. -/
theorem rows_sum (aR X : Nat → Nat) (M L SX i n : Nat) (hi : i < n) (hn : n ≤ 4) (hSX : nsum X n = SX) (hR : ∀ j, j < n → aR j ≤ 3 ^ j * M * SX + L * X j) : nsum aR (i + 1) ≤ 40 * M * SX + L * SX := by
  have h1 := nsum_le aR (fun j => 3 ^ j * M * SX + L * X j) (i + 1) (fun j hj => hR j (by omega))
  rw [← nsum_add (fun j => 3 ^ j * M * SX) (fun j => L * X j)] at h1
  have h2 : nsum (fun j => 3 ^ j * M * SX) (i + 1) ≤ 40 * M * SX := by
    rw [← nsum_mul (fun j => 3 ^ j * M) SX]
    exact Nat.mul_le_mul_right SX (threes M (i + 1) (by omega))
  have h3 : nsum (fun j => L * X j) (i + 1) ≤ L * SX := by
    have e := nsum_mul X L (i + 1)
    have e2 : nsum (fun j => L * X j) (i + 1) = nsum X (i + 1) * L := by
      rw [e]
      congr 1
      funext k
      exact Nat.mul_comm _ _
    rw [e2, Nat.mul_comm L SX]
    exact Nat.mul_le_mul_right L (hSX ▸ nsum_mono X (i + 1) n hi)
  omega
theorem fine_Y (U y a T : Nat) (hU : 1000 ≤ U) (h : y * U ≤ (U + 10) * a) : y * 100 ≤ 101 * a := by
  have h1 : (U + 10) * 100 ≤ 101 * U := by omega
  have h2 := Nat.mul_le_mul_right 100 h
  have h3 := Nat.mul_le_mul_right a h1
  have e1 : y * U * 100 = y * 100 * U := by rw [Nat.mul_right_comm]
  have e2 : (U + 10) * a * 100 = (U + 10) * 100 * a := by rw [Nat.mul_right_comm]
  have e3 : 101 * U * a = 101 * a * U := by rw [Nat.mul_right_comm]
  rw [e1, e2] at h2
  rw [e3] at h3
  exact Nat.le_of_mul_le_mul_right (Nat.le_trans h2 h3) (by omega)
theorem last_add (S1 S2 S3 S4 : Int) (U a b c P W SX M T L SR : Nat) (hU : 1000 ≤ U) (h1 : (S1 - S2).natAbs * U ≤ (160 * M * T + 2 * L * T * U) * SX) (h2 : (S2 - S3).natAbs * U ≤ 10 * (T * SR)) (h3 : (S3 - S4).natAbs * U ≤ P) (hP : P * 100 ≤ 1010 * (T * SR)) (hSR : SR ≤ 40 * M * SX + L * SX) :
    (S1 - S4).natAbs * U ≤ (1000 * M * T + 4 * L * T * U) * SX := by
  have h4 := tri_add U _ _ _ _ _ (tri_add U _ _ _ _ _ h1 h2) h3
  have h5 := Nat.mul_le_mul_left T hSR
  rw [Nat.mul_add] at h5
  have e1 : (160 * M * T + 2 * L * T * U) * SX = 160 * (M * T * SX) + 2 * (L * T * SX * U) := by
    rw [Nat.add_mul]
    congr 1
    · simp only [Nat.mul_assoc]
    · simp only [Nat.mul_assoc, Nat.mul_comm U SX]
  have e2 : (1000 * M * T + 4 * L * T * U) * SX = 1000 * (M * T * SX) + 4 * (L * T * SX * U) := by
    rw [Nat.add_mul]
    congr 1
    · simp only [Nat.mul_assoc]
    · simp only [Nat.mul_assoc, Nat.mul_comm U SX]
  have e3 : T * (40 * M * SX) = 40 * (M * T * SX) := by simp only [Nat.mul_assoc, Nat.mul_left_comm T]
  have e4 : T * (L * SX) = L * T * SX := by simp only [Nat.mul_assoc, Nat.mul_left_comm T]
  have h6 : 1000 * (L * T * SX) ≤ L * T * SX * U := by rw [Nat.mul_comm 1000]; exact Nat.mul_le_mul_left _ hU
  rw [e1] at h4
  rw [e2]
  rw [e3, e4] at h5
  generalize L * T * SX * U = q1 at *
  generalize L * T * SX = q2 at *
  generalize M * T * SX = q3 at *
  generalize T * SR = q4 at *
  omega
/-- Row by row: the answer of both triangles, held against the system itself. -/
theorem piv_row (V O : Nat → Nat → Int) (X Y Bv : Nat → Int) (n T M L U : Nat) (hn : n ≤ 4) (hU : 1000 ≤ U)
    (hL : ∀ i j, j < i → i < n → (V i j).natAbs ≤ T)
    (hR : ∀ j, j < n → fabs (rowU V X n j) n ≤ 3 ^ j * M * fabs X n + L * (X j).natAbs)
    (hE : ∀ i k, i < n → k < n → (O i k - recS V T n i k).natAbs * U ≤ 160 * M * T + 2 * L * T * U)
    (hX : ∀ j, j < n → (fsum (rowU V X n j) n - Y j * T).natAbs * U ≤ 10 * fabs (rowU V X n j) n)
    (hY : ∀ i, i < n → (fsum (fun j => V i j * Y j) i + Y i * T - Bv i * T).natAbs * U ≤ 10 * (fabs (fun j => V i j * Y j) i + (Y i * T).natAbs)) (i : Nat) (hi : i < n) :
    (fsum (fun k => O i k * X k) n - Bv i * T * T).natAbs * U ≤ (1000 * M * T + 4 * L * T * U) * fabs X n := by
  have s1 : (fsum (fun k => O i k * X k) n - fsum (fun k => recS V T n i k * X k) n).natAbs * U ≤ (160 * M * T + 2 * L * T * U) * fabs X n := by
    refine Nat.le_trans (sum_near _ _ U (fun k => (X k).natAbs * (160 * M * T + 2 * L * T * U)) n (fun k hk => ?_)) ?_
    · rw [← Int.sub_mul, Int.natAbs_mul, Nat.mul_right_comm, Nat.mul_comm]
      exact Nat.mul_le_mul_left _ (hE i k hi hk)
    · rw [← nsum_mul, ← fabs_nsum, Nat.mul_comm]
      exact Nat.le_refl _
  rw [rec_row V X T n i hi] at s1
  obtain ⟨aR, haR⟩ : ∃ f : Nat → Nat, f = fun j => fabs (rowU V X n j) n := ⟨_, rfl⟩
  have hX' : ∀ j, j < n → (fsum (rowU V X n j) n - Y j * T).natAbs * U ≤ 10 * aR j := fun j hj => by rw [haR]; exact hX j hj
  have hR' : ∀ j, j < n → aR j ≤ 3 ^ j * M * fabs X n + L * (X j).natAbs := fun j hj => by rw [haR]; exact hR j hj
  have hA : ∀ j, j < n → (fsum (rowU V X n j) n).natAbs ≤ aR j := fun j hj => by rw [haR]; exact fabs_tri _ n
  have s2 : (fsum (fun j => V i j * fsum (rowU V X n j) n) i + fsum (rowU V X n i) n * T - (fsum (fun j => V i j * (Y j * T)) i + Y i * T * T)).natAbs * U ≤ 10 * (T * nsum aR (i + 1)) := by
    have a1 := sum_near (fun j => V i j * fsum (rowU V X n j) n) (fun j => V i j * (Y j * T)) U (fun j => aR j * (10 * T)) i (fun j hj => by
      show (V i j * fsum (rowU V X n j) n - V i j * (Y j * T)).natAbs * U ≤ _
      rw [← Int.mul_sub]
      have b1 := Nat.mul_le_mul_right U (abs_mul_le (V i j) (fsum (rowU V X n j) n - Y j * T) T (hL i j hj hi))
      have b2 := Nat.mul_le_mul_left T (hX' j (by omega))
      rw [← Nat.mul_assoc] at b2
      refine Nat.le_trans b1 (Nat.le_trans b2 ?_)
      rw [Nat.mul_comm (aR j), Nat.mul_left_comm, ← Nat.mul_assoc 10]
      exact Nat.le_refl _)
    rw [← nsum_mul] at a1
    have a2 := Nat.mul_le_mul_right T (hX' i hi)
    have e : (fsum (rowU V X n i) n - Y i * T).natAbs * U * T = (fsum (rowU V X n i) n * T - Y i * T * T).natAbs * U := by
      rw [← Int.sub_mul, Int.natAbs_mul, Int.natAbs_natCast, Nat.mul_right_comm]
    rw [e] at a2
    have h : (fsum (fun j => V i j * fsum (rowU V X n j) n) i + fsum (rowU V X n i) n * T - (fsum (fun j => V i j * (Y j * T)) i + Y i * T * T)).natAbs ≤ (fsum (fun j => V i j * fsum (rowU V X n j) n) i - fsum (fun j => V i j * (Y j * T)) i).natAbs + (fsum (rowU V X n i) n * T - Y i * T * T).natAbs := by omega
    have h2 := Nat.mul_le_mul_right U h
    rw [Nat.add_mul] at h2
    have e2 : 10 * (T * nsum aR (i + 1)) = nsum aR i * (10 * T) + 10 * aR i * T := by
      show 10 * (T * (nsum aR i + aR i)) = _
      rw [Nat.mul_add, Nat.mul_add, Nat.mul_comm (nsum aR i), Nat.mul_assoc 10 T, Nat.mul_assoc 10 (aR i), Nat.mul_comm T (aR i)]
    rw [e2]
    omega
  have s3 : (fsum (fun j => V i j * (Y j * T)) i + Y i * T * T - Bv i * T * T).natAbs * U ≤ 10 * (fabs (fun j => V i j * Y j) i + (Y i * T).natAbs) * T := by
    have a := Nat.mul_le_mul_right T (hY i hi)
    have e : (fsum (fun j => V i j * Y j) i + Y i * T - Bv i * T) * T = fsum (fun j => V i j * (Y j * T)) i + Y i * T * T - Bv i * T * T := by
      rw [Int.sub_mul, Int.add_mul, fsum_mul]
      congr 2
      apply fsum_eq
      intro j hj
      rw [Int.mul_assoc]
    rw [← e, Int.natAbs_mul, Int.natAbs_natCast, Nat.mul_right_comm]
    exact a
  have hYa : ∀ j, j < n → (Y j * T).natAbs * 100 ≤ 101 * aR j := fun j hj => by
    refine fine_Y U _ _ T hU ?_
    have a := hX' j hj
    have b := hA j hj
    have c : (Y j * T).natAbs ≤ (fsum (rowU V X n j) n).natAbs + (fsum (rowU V X n j) n - Y j * T).natAbs := by omega
    have d := Nat.mul_le_mul_right U c
    have e := Nat.mul_le_mul_right U b
    rw [Nat.add_mul] at d
    rw [Nat.add_mul, Nat.mul_comm U]
    omega
  have hP : 10 * (fabs (fun j => V i j * Y j) i + (Y i * T).natAbs) * T * 100 ≤ 1010 * (T * nsum aR (i + 1)) := by
    have a1 : fabs (fun j => V i j * Y j) i * 100 ≤ nsum (fun j => 101 * aR j) i := by
      rw [fabs_nsum, nsum_mul]
      refine nsum_le _ _ i (fun j hj => ?_)
      have b := abs_mul_le (V i j) (Y j) T (hL i j hj hi)
      have c := hYa j (by omega)
      rw [Int.natAbs_mul, Int.natAbs_natCast, Nat.mul_comm (Y j).natAbs] at c
      exact Nat.le_trans (Nat.mul_le_mul_right 100 b) c
    have a2 := hYa i hi
    have e : nsum (fun j => 101 * aR j) i = 101 * nsum aR i := by
      rw [Nat.mul_comm, nsum_mul]
      congr 1
      funext j
      exact Nat.mul_comm _ _
    rw [e] at a1
    have a3 : (fabs (fun j => V i j * Y j) i + (Y i * T).natAbs) * 100 ≤ 101 * nsum aR (i + 1) := by
      show _ ≤ 101 * (nsum aR i + aR i)
      omega
    have a4 := Nat.mul_le_mul_left (10 * T) a3
    have e1 : 10 * (fabs (fun j => V i j * Y j) i + (Y i * T).natAbs) * T * 100 = 10 * T * ((fabs (fun j => V i j * Y j) i + (Y i * T).natAbs) * 100) := by
      rw [Nat.mul_right_comm 10 _ T, Nat.mul_assoc]
    have e2 : 10 * T * (101 * nsum aR (i + 1)) = 1010 * (T * nsum aR (i + 1)) := by
      rw [Nat.mul_assoc 10 T, Nat.mul_left_comm T, ← Nat.mul_assoc 10]
    rw [e1, ← e2]
    exact a4
  exact last_add _ _ _ _ U 0 0 0 _ 0 (fabs X n) M T L (nsum aR (i + 1)) hU s1 s2 s3 hP (rows_sum aR (fun j => (X j).natAbs) M L (fabs X n) i n hi hn (fabs_nsum X n).symm hR')
end Go.Proofs.YtpakpgjbgehhjaaGreat

/-
  The mathematics of SolvePivots, step by step: what two triangles tell of a system's matrix behind s steps; rows and columns changed; least put in; a row taken away. No conditions but that each step is near.
-/
namespace Go.Proofs.YtpakpgjbgehhjaaGreat
set_option linter.unusedVariables false
set_option linter.unusedSimpArgs false

/-- Places a and b changed. -/
def sw (a b k : Nat) : Nat := if k = a then b else if k = b then a else k
theorem sw_low (a b s k : Nat) (ha : s ≤ a) (hb : s ≤ b) (hk : k < s) : sw a b k = k := by
  unfold sw
  rw [if_neg (by omega), if_neg (by omega)]
theorem sw_high (a b s k : Nat) (ha : s ≤ a) (hb : s ≤ b) (hk : s ≤ k) : s ≤ sw a b k := by
  unfold sw
  split
  · exact hb
  · split
    · exact ha
    · exact hk
theorem sw_lt (a b n k : Nat) (ha : a < n) (hb : b < n) (hk : k < n) : sw a b k < n := by
  unfold sw
  split
  · exact hb
  · split
    · exact ha
    · exact hk
theorem fsum_one (g : Nat → Int) (a b : Nat) (hab : a ≠ b) : ∀ n, fsum (fun k => g (sw a b k)) n = fsum g n + (if a < n then g b - g a else 0) + (if b < n then g a - g b else 0)
  | 0 => by show (0 : Int) = 0 + _ + _; rw [if_neg (Nat.not_lt_zero _), if_neg (Nat.not_lt_zero _)]; rfl
  | n + 1 => by
    have ih := fsum_one g a b hab n
    show fsum (fun k => g (sw a b k)) n + g (sw a b n) = fsum g n + g n + _ + _
    rw [ih]
    unfold sw
    by_cases e1 : n = a
    · subst e1
      rw [if_pos rfl, if_neg (Nat.lt_irrefl _), if_pos (Nat.lt_succ_self _)]
      by_cases e2 : b < n
      · rw [if_pos e2, if_pos (by omega)]; omega
      · rw [if_neg e2, if_neg (by omega)]; omega
    · rw [if_neg e1]
      by_cases e2 : n = b
      · subst e2
        rw [if_pos rfl, if_neg (Nat.lt_irrefl _), if_pos (Nat.lt_succ_self _)]
        by_cases e3 : a < n
        · rw [if_pos e3, if_pos (by omega)]; omega
        · rw [if_neg e3, if_neg (by omega)]; omega
      · rw [if_neg e2]
        by_cases e3 : a < n <;> by_cases e4 : b < n
        · rw [if_pos e3, if_pos e4, if_pos (by omega), if_pos (by omega)]; omega
        · rw [if_pos e3, if_neg e4, if_pos (by omega), if_neg (by omega)]; omega
        · rw [if_neg e3, if_pos e4, if_neg (by omega), if_pos (by omega)]; omega
        · rw [if_neg e3, if_neg e4, if_neg (by omega), if_neg (by omega)]; omega
/-- A sum does not hang on two places changed. -/
theorem fsum_sw (g : Nat → Int) (a b n : Nat) (ha : a < n) (hb : b < n) : fsum (fun k => g (sw a b k)) n = fsum g n := by
  by_cases hab : a = b
  · subst hab
    apply fsum_eq
    intro k hk
    unfold sw
    split
    · rename_i e; rw [e]
    · rfl
  · rw [fsum_one g a b hab n, if_pos ha, if_pos hb]
    omega
theorem rec_sw (V : Nat → Nat → Int) (T : Int) (s a b c d i k : Nat) (ha : s ≤ a) (hb : s ≤ b) (hc : s ≤ c) (hd : s ≤ d) : recS (fun i k => V (sw a b i) (sw c d k)) T s i k = recS V T s (sw a b i) (sw c d k) := by
  have hm : min (sw a b i) s = min i s := by
    rcases Nat.lt_or_ge i s with g | g
    · rw [sw_low a b s i ha hb g]
    · have := sw_high a b s i ha hb g; omega
  unfold recS
  rw [hm]
  congr 1
  · apply fsum_eq
    intro j hj
    have hjs : j < s := by omega
    show (if j ≤ k then V (sw a b i) (sw c d j) * V (sw a b j) (sw c d k) else 0) = _
    rw [sw_low c d s j hc hd hjs, sw_low a b s j ha hb hjs]
    rcases Nat.lt_or_ge k s with g | g
    · rw [sw_low c d s k hc hd g]
    · have := sw_high c d s k hc hd g
      rw [if_pos (by omega), if_pos (by omega)]
  · show (if k < i ∧ k < s then 0 else V (sw a b i) (sw c d k) * T) = _
    have h : (k < i ∧ k < s) ↔ (sw c d k < sw a b i ∧ sw c d k < s) := by
      rcases Nat.lt_or_ge k s with g | g
      · rw [sw_low c d s k hc hd g]
        rcases Nat.lt_or_ge i s with f | f
        · rw [sw_low a b s i ha hb f]
        · have := sw_high a b s i ha hb f
          omega
      · have := sw_high c d s k hc hd g
        omega
    by_cases h1 : k < i ∧ k < s
    · rw [if_pos h1, if_pos (h.1 h1)]
    · rw [if_neg h1, if_neg (fun g => h1 (h.2 g))]
/-- Behind s steps. -/
structure PivI (V O : Nat → Nat → Int) (n s M L T U : Nat) : Prop where
  low : ∀ i j, j < i → i < n → j < s → (V i j).natAbs ≤ T
  up : ∀ j k, j < s → j < k → k < n → (V j k).natAbs ≤ 3 ^ j * M
  dia : ∀ j, j < s → (V j j).natAbs ≤ 3 ^ j * M + L
  rest : ∀ i k, s ≤ i → i < n → s ≤ k → k < n → (V i k).natAbs ≤ 3 ^ s * M
  err : ∀ i k, i < n → k < n → (O i k - recS V T s i k).natAbs * U ≤ 4 * nsum (fun j => 3 ^ j) s * M * T + (if i = k ∧ i < s then 2 * L * T * U else 0)
theorem PivI.start (V O : Nat → Nat → Int) (n M L T U : Nat) (hO : ∀ i k, i < n → k < n → O i k = V i k * T) (hV : ∀ i k, i < n → k < n → (V i k).natAbs ≤ M) : PivI V O n 0 M L T U where
  low := fun i j _ _ h => absurd h (Nat.not_lt_zero _)
  up := fun j k h _ _ => absurd h (Nat.not_lt_zero _)
  dia := fun j h => absurd h (Nat.not_lt_zero _)
  rest := fun i k _ hi _ hk => by rw [Nat.pow_zero, Nat.one_mul]; exact hV i k hi hk
  err := fun i k hi hk => by
    have : recS V T 0 i k = V i k * T := by
      unfold recS
      rw [Nat.min_zero, if_neg (fun h => Nat.not_lt_zero _ h.2)]
      show 0 + _ = _
      omega
    rw [this, hO i k hi hk, Int.sub_self]
    simp
/-- Two rows and two columns changed, of those that are left. -/
theorem PivI.swap {V O : Nat → Nat → Int} {n s M L T U : Nat} (h : PivI V O n s M L T U) (a b c d : Nat) (ha : s ≤ a) (hb : s ≤ b) (hc : s ≤ c) (hd : s ≤ d) (ha2 : a < n) (hb2 : b < n) (hc2 : c < n) (hd2 : d < n) : PivI (fun i k => V (sw a b i) (sw c d k)) (fun i k => O (sw a b i) (sw c d k)) n s M L T U where
  low := fun i j hji hi hj => by
    show (V (sw a b i) (sw c d j)).natAbs ≤ T
    rw [sw_low c d s j hc hd hj]
    refine h.low _ _ ?_ (sw_lt a b n i ha2 hb2 hi) hj
    rcases Nat.lt_or_ge i s with f | f
    · rw [sw_low a b s i ha hb f]; exact hji
    · have := sw_high a b s i ha hb f; omega
  up := fun j k hj hjk hk => by
    show (V (sw a b j) (sw c d k)).natAbs ≤ _
    rw [sw_low a b s j ha hb hj]
    refine h.up _ _ hj ?_ (sw_lt c d n k hc2 hd2 hk)
    rcases Nat.lt_or_ge k s with f | f
    · rw [sw_low c d s k hc hd f]; exact hjk
    · have := sw_high c d s k hc hd f; omega
  dia := fun j hj => by
    show (V (sw a b j) (sw c d j)).natAbs ≤ _
    rw [sw_low a b s j ha hb hj, sw_low c d s j hc hd hj]
    exact h.dia j hj
  rest := fun i k hi hi2 hk hk2 => h.rest _ _ (sw_high a b s i ha hb hi) (sw_lt a b n i ha2 hb2 hi2) (sw_high c d s k hc hd hk) (sw_lt c d n k hc2 hd2 hk2)
  err := fun i k hi hk => by
    rw [rec_sw V T s a b c d i k ha hb hc hd]
    have e := h.err (sw a b i) (sw c d k) (sw_lt a b n i ha2 hb2 hi) (sw_lt c d n k hc2 hd2 hk)
    have hh : (i = k ∧ i < s) ↔ (sw a b i = sw c d k ∧ sw a b i < s) := by
      rcases Nat.lt_or_ge i s with f | f
      · rw [sw_low a b s i ha hb f]
        rcases Nat.lt_or_ge k s with g | g
        · rw [sw_low c d s k hc hd g]
        · have := sw_high c d s k hc hd g
          omega
      · have := sw_high a b s i ha hb f
        omega
    by_cases h1 : i = k ∧ i < s
    · rw [if_pos (hh.1 h1)] at e; rw [if_pos h1]; exact e
    · rw [if_neg (fun g => h1 (hh.2 g))] at e; rw [if_neg h1]; exact e
/-- A number from which a product is taken away: how great it is, and how near. -/
theorem elim_near (a f u q v : Int) (T U G : Nat) (hT : 0 < T) (hU : 4 ≤ U) (hq : (q * T - f * u).natAbs * U ≤ (f * u).natAbs) (hv : (v * T - (a * T - q * T)).natAbs * U ≤ (a * T - q * T).natAbs) (hf : f.natAbs ≤ T) (ha : a.natAbs ≤ G) (hu : u.natAbs ≤ G) :
    v.natAbs ≤ 3 * G ∧ (a * T - (f * u + v * T)).natAbs * U ≤ 4 * G * T := by
  have hfu : (f * u).natAbs ≤ T * G := by rw [Int.natAbs_mul]; exact Nat.mul_le_mul hf hu
  have haT : (a * T).natAbs ≤ T * G := by rw [Int.natAbs_mul, Int.natAbs_natCast, Nat.mul_comm]; exact Nat.mul_le_mul_left T ha
  have hvT : (v * T).natAbs = T * v.natAbs := by rw [Int.natAbs_mul, Int.natAbs_natCast, Nat.mul_comm]
  generalize hF : f * u = F at *
  generalize hA : a * (T : Int) = A at *
  generalize hQ : q * (T : Int) = Q at *
  generalize hW : v * (T : Int) = W at *
  obtain ⟨K, hK⟩ : ∃ K, T * G = K := ⟨_, rfl⟩
  rw [hK] at hfu haT
  have e1 : 4 * G * T = 4 * K := by rw [← hK, Nat.mul_assoc, Nat.mul_comm G]
  rw [e1]
  have d1 : (Q - F).natAbs * 4 ≤ (Q - F).natAbs * U := Nat.mul_le_mul_left _ hU
  have d2 : (W - (A - Q)).natAbs * 4 ≤ (W - (A - Q)).natAbs * U := Nat.mul_le_mul_left _ hU
  have q1 : 4 * (Q - F).natAbs ≤ K := by omega
  have q2 : 4 * Q.natAbs ≤ 5 * K := by omega
  have q3 : 4 * (A - Q).natAbs ≤ 9 * K := by omega
  refine ⟨?_, ?_⟩
  · have w1 : 16 * W.natAbs ≤ 45 * K := by omega
    rw [hvT, ← hK] at w1
    refine Nat.le_of_mul_le_mul_left ?_ hT
    have : T * (3 * G) = 3 * (T * G) := Nat.mul_left_comm _ _ _
    omega
  · have h : (A - (F + W)).natAbs ≤ (Q - F).natAbs + (W - (A - Q)).natAbs := by omega
    have h2 := Nat.mul_le_mul_right U h
    rw [Nat.add_mul] at h2
    omega
/-- Row s has been taken away from those beneath. -/
structure TakeI (V V' q : Nat → Nat → Int) (n s L T U : Nat) : Prop where
  low : ∀ i k, k < s → V' i k = V i k
  top : ∀ i k, i < s → V' i k = V i k
  row : ∀ k, k ≠ s → V' s k = V s k
  lead : V' s s = V s s ∨ ((V s s).natAbs ≤ L ∧ (V' s s).natAbs ≤ L)
  fac : ∀ i, s < i → i < n → (V' i s).natAbs ≤ T
  div : ∀ i, s < i → i < n → (V' i s * V' s s - V i s * T).natAbs * U ≤ 2 * (V i s * T).natAbs
  mul : ∀ i k, s < i → i < n → s < k → k < n → (q i k * T - V' i s * V s k).natAbs * U ≤ (V' i s * V s k).natAbs
  sub : ∀ i k, s < i → i < n → s < k → k < n → (V' i k * T - (V i k * T - q i k * T)).natAbs * U ≤ (V i k * T - q i k * T).natAbs
theorem rec_top (V V' q : Nat → Nat → Int) (n s L T U : Nat) (h : TakeI V V' q n s L T U) (i k : Nat) (hi : i ≤ s) : recS V' T (s + 1) i k = recS V T s i k + if i = s ∧ k = s then (V' s s - V s s) * T else 0 := by
  unfold recS
  rw [Nat.min_eq_left (show i ≤ s + 1 by omega), Nat.min_eq_left hi]
  have e1 : fsum (fun j => if j ≤ k then V' i j * V' j k else 0) i = fsum (fun j => if j ≤ k then V i j * V j k else 0) i := by
    apply fsum_eq
    intro j hj
    show (if j ≤ k then V' i j * V' j k else 0) = _
    rw [h.low i j (by omega), h.top j k (by omega)]
  rw [e1]
  have c : (k < i ∧ k < s + 1) ↔ (k < i ∧ k < s) := by omega
  by_cases h1 : k < i ∧ k < s
  · rw [if_pos (c.2 h1), if_pos h1, if_neg (by omega)]
    omega
  · rw [if_neg (fun g => h1 (c.1 g)), if_neg h1]
    by_cases h2 : i = s ∧ k = s
    · obtain ⟨e2, e3⟩ := h2
      subst e2 e3
      rw [if_pos ⟨rfl, rfl⟩, Int.sub_mul]
      omega
    · rw [if_neg h2]
      have e4 : V' i k = V i k := by
        rcases Nat.lt_or_ge i s with g | g
        · exact h.top i k g
        · have e5 : i = s := by omega
          subst e5
          exact h.row k (fun e => h2 ⟨rfl, e⟩)
      rw [e4]
      omega
theorem rec_low (V V' q : Nat → Nat → Int) (n s L T U : Nat) (h : TakeI V V' q n s L T U) (i k : Nat) (hi : s < i) : recS V' T (s + 1) i k = if k < s then recS V T s i k else if k = s then recS V T s i k - V i s * T + V' i s * V' s s else recS V T s i k - V i k * T + (V' i s * V s k + V' i k * T) := by
  unfold recS
  rw [Nat.min_eq_right (show s + 1 ≤ i by omega), Nat.min_eq_right (show s ≤ i by omega)]
  have e1 : fsum (fun j => if j ≤ k then V' i j * V' j k else 0) s = fsum (fun j => if j ≤ k then V i j * V j k else 0) s := by
    apply fsum_eq
    intro j hj
    show (if j ≤ k then V' i j * V' j k else 0) = _
    rw [h.low i j hj, h.top j k hj]
  show fsum (fun j => if j ≤ k then V' i j * V' j k else 0) s + (if s ≤ k then V' i s * V' s k else 0) + _ = _
  rw [e1]
  by_cases h1 : k < s
  · rw [if_pos h1, if_neg (by omega), if_pos ⟨by omega, by omega⟩, if_pos ⟨by omega, h1⟩]
    omega
  · rw [if_neg h1, if_pos (by omega), if_neg (show ¬ (k < i ∧ k < s) by omega)]
    by_cases h2 : k = s
    · subst h2
      rw [if_pos rfl, if_pos ⟨hi, Nat.lt_succ_self _⟩]
      omega
    · rw [if_neg h2, if_neg (show ¬ (k < i ∧ k < s + 1) by omega), h.row k h2]
      omega
theorem PivI.take {V V' q O : Nat → Nat → Int} {n s M L T U : Nat} (h : PivI V O n s M L T U) (t : TakeI V V' q n s L T U) (hs : s < n) (hT : 0 < T) (hU : 4 ≤ U) : PivI V' O n (s + 1) M L T U := by
  have hG : ∀ j, 3 ^ (j + 1) * M = 3 * (3 ^ j * M) := fun j => by rw [Nat.pow_succ, Nat.mul_comm (3 ^ j), Nat.mul_assoc]
  have el : ∀ i k, s < i → i < n → s < k → k < n → (V' i k).natAbs ≤ 3 * (3 ^ s * M) ∧ (V i k * T - (V' i s * V s k + V' i k * T)).natAbs * U ≤ 4 * (3 ^ s * M) * T := fun i k hi hi2 hk hk2 =>
    elim_near (V i k) (V' i s) (V s k) (q i k) (V' i k) T U (3 ^ s * M) hT hU (t.mul i k hi hi2 hk hk2) (t.sub i k hi hi2 hk hk2) (t.fac i hi hi2) (h.rest i k (by omega) hi2 (by omega) hk2) (h.rest s k (Nat.le_refl _) hs (by omega) hk2)
  have he : 4 * nsum (fun j => 3 ^ j) (s + 1) * M * T = 4 * nsum (fun j => 3 ^ j) s * M * T + 4 * (3 ^ s * M) * T := by
    show 4 * (nsum (fun j => 3 ^ j) s + 3 ^ s) * M * T = _
    rw [Nat.mul_add, Nat.add_mul, Nat.add_mul, Nat.mul_assoc 4 (3 ^ s) M]
  refine ⟨fun i j hji hi hj => ?_, fun j k hj hjk hk => ?_, fun j hj => ?_, fun i k hi hi2 hk hk2 => ?_, fun i k hi hk => ?_⟩
  · rcases Nat.lt_or_ge j s with g | g
    · rw [t.low i j g]; exact h.low i j hji hi g
    · obtain rfl : j = s := by omega
      exact t.fac i hji hi
  · rcases Nat.lt_or_ge j s with g | g
    · rw [t.top j k g]; exact h.up j k g hjk hk
    · obtain rfl : j = s := by omega
      rw [t.row k (by omega)]
      exact h.rest j k (Nat.le_refl _) hs (by omega) hk
  · rcases Nat.lt_or_ge j s with g | g
    · rw [t.top j j g]; exact h.dia j g
    · obtain rfl : j = s := by omega
      have := h.rest j j (Nat.le_refl _) hs (Nat.le_refl _) hs
      rcases t.lead with e | ⟨_, e⟩
      · rw [e]; omega
      · omega
  · rw [hG]
    exact (el i k hi hi2 hk hk2).1
  · have e0 := h.err i k hi hk
    rcases Nat.lt_or_ge s i with g | g
    · rw [rec_low V V' q n s L T U t i k g, he]
      rw [if_neg (show ¬ (i = k ∧ i < s) by omega)] at e0
      rw [if_neg (show ¬ (i = k ∧ i < s + 1) by omega)]
      by_cases h1 : k < s
      · rw [if_pos h1]; omega
      · rw [if_neg h1]
        by_cases h2 : k = s
        · subst h2
          rw [if_pos rfl]
          have d := t.div i g hi
          have b := h.rest i k (by omega) hi (Nat.le_refl _) hk
          have b2 : (V i k * T).natAbs ≤ 3 ^ k * M * T := by rw [Int.natAbs_mul, Int.natAbs_natCast]; exact Nat.mul_le_mul_right T b
          have x := tri_add U _ _ (O i k) (recS V T k i k) (recS V T k i k - V i k * T + V' i k * V' k k) e0 (by
            have e : (recS V T k i k - (recS V T k i k - V i k * T + V' i k * V' k k)).natAbs = (V' i k * V' k k - V i k * T).natAbs := by omega
            rw [e]; exact d)
          have m4 : 4 * (3 ^ k * M) * T = 4 * (3 ^ k * M * T) := Nat.mul_assoc _ _ _
          rw [m4]
          omega
        · rw [if_neg h2]
          have d := (el i k g hi (by omega) hk).2
          have x := tri_add U _ _ (O i k) (recS V T s i k) (recS V T s i k - V i k * T + (V' i s * V s k + V' i k * T)) e0 (by
            have e : (recS V T s i k - (recS V T s i k - V i k * T + (V' i s * V s k + V' i k * T))).natAbs = (V i k * T - (V' i s * V s k + V' i k * T)).natAbs := by omega
            rw [e]; exact d)
          omega
    · rw [rec_top V V' q n s L T U t i k g, he]
      by_cases h2 : i = s ∧ k = s
      · obtain ⟨e2, e3⟩ := h2
        subst e2 e3
        rw [if_pos ⟨rfl, rfl⟩, if_pos ⟨rfl, Nat.lt_succ_self _⟩]
        rw [if_neg (show ¬ (k = k ∧ k < k) by omega)] at e0
        have d : ((V' k k - V k k) * T).natAbs * U ≤ 2 * L * T * U := by
          refine Nat.mul_le_mul_right U ?_
          rw [Int.natAbs_mul, Int.natAbs_natCast]
          refine Nat.mul_le_mul_right T ?_
          rcases t.lead with e | ⟨e, f⟩
          · rw [e]; omega
          · omega
        have x := tri_add U _ _ (O k k) (recS V T k k k) (recS V T k k k + (V' k k - V k k) * T) e0 (by
          have e : (recS V T k k k - (recS V T k k k + (V' k k - V k k) * T)).natAbs = ((V' k k - V k k) * T).natAbs := by omega
          rw [e]; exact d)
        omega
      · rw [if_neg h2, Int.add_zero]
        have e4 : (if i = k ∧ i < s then 2 * L * T * U else 0) ≤ (if i = k ∧ i < s + 1 then 2 * L * T * U else 0) := by
          split
          · rename_i e; rw [if_pos ⟨e.1, by omega⟩]; exact Nat.le_refl _
          · exact Nat.zero_le _
        omega
end Go.Proofs.YtpakpgjbgehhjaaGreat

/-
  A quotient of a number by one that isn't less in magnitude is at most one. No conditions.
-/
namespace Go.Proofs.YtpakpgjbgehhjaaGreat
set_option linter.unusedVariables false

theorem quo_one (x y : Nat) (hx : x ≤ y) (hy : 0 < y) : quoN x y ≤ 4607182418800017408 := by
  have h1 : x * 2 ^ jj / y * 2 ^ 2 + (decide (x * 2 ^ jj % y ≠ 0)).toNat ≤ 2 ^ jj * 2 ^ 2 := by
    have hle : x * 2 ^ jj ≤ 2 ^ jj * y := by rw [Nat.mul_comm]; exact Nat.mul_le_mul_left _ hx
    have hd : x * 2 ^ jj / y ≤ 2 ^ jj := Nat.div_le_of_le_mul (by rw [Nat.mul_comm y]; exact hle)
    rcases Nat.lt_or_ge (x * 2 ^ jj / y) (2 ^ jj) with g | g
    · have hb : (decide (x * 2 ^ jj % y ≠ 0)).toNat ≤ 1 := by cases decide (x * 2 ^ jj % y ≠ 0) <;> decide
      have h4 : (x * 2 ^ jj / y + 1) * 2 ^ 2 ≤ 2 ^ jj * 2 ^ 2 := Nat.mul_le_mul_right _ g
      rw [Nat.add_mul] at h4
      omega
    · have he : x * 2 ^ jj / y = 2 ^ jj := Nat.le_antisymm hd g
      have hm := Nat.div_add_mod (x * 2 ^ jj) y
      rw [he, Nat.mul_comm y] at hm
      have hz : x * 2 ^ jj % y = 0 := by omega
      rw [he, hz]
      simp
  unfold quoN numM
  refine Nat.le_trans (numP_mono _ _ _ h1) ?_
  rw [← Nat.pow_add]
  have h2 := numP_scale 1 (-(jj : Int) - (2 : Nat)) (jj + 2)
  rw [Nat.one_mul] at h2
  rw [h2, show -(jj : Int) - ((2 : Nat) : Int) + ((jj + 2 : Nat) : Int) = 0 by omega]
  have h3 := numP_scale 1 (-52) 52
  rw [Nat.one_mul] at h3
  have h4 := patP_exact 4503599627370496 (-52) (by decide) (by decide) (by decide) (.inl (by decide))
  have h5 : numP 1 0 = 4607182418800017408 := by
    rw [show (0 : Int) = -52 + ((52 : Nat) : Int) by decide, ← h3, show 2 ^ 52 = 4503599627370496 by decide]
    unfold numP
    rw [h4]
    decide
  rw [h5]
  exact Nat.le_refl _
/-- In magnitude at most one: what stands for it is at most 2^1074. -/
theorem div_one_le (a b : Int) (ha : mag a < 9218868437227405312) (hb : mag b < 9218868437227405312) (hz : mag b ≠ 0) (h : mag a ≤ mag b) : (sv (divS a b).1).natAbs ≤ 2 ^ uu := by
  have h1 : V 4607182418800017408 = 2 ^ uu := by rw [V_one, one_is 1022 uu (by decide +kernel)]
  rw [divS_fin a b ha hb hz, sv_abs]
  by_cases hza : isZ a = true
  · rw [if_pos hza]
    have hs := (sgn_mag (sgn a != sgn b) 0 (by decide)).1
    rw [show ((0 : Nat) : Int) = 0 from rfl, Int.add_zero] at hs
    show V (mag (sgnB (sgn a != sgn b))) ≤ _
    rw [hs, V_zero]
    exact Nat.zero_le _
  · rw [if_neg hza]
    have hq := quo_one (V (mag a)) (V (mag b)) (V_mono _ _ h) (V_pos _ (by omega))
    show V (mag (sgnB (sgn a != sgn b) + ((quoN (V (mag a)) (V (mag b)) : Nat) : Int))) ≤ _
    rw [(sgn_mag _ _ (Nat.lt_of_le_of_lt hq (by decide))).1, ← h1]
    exact V_mono _ _ hq
end Go.Proofs.YtpakpgjbgehhjaaGreat
