/-
  Texts put together: ErrD TriM LikeM.
-/
import Derived.Test.YtpakpgjbgehhjaaGreatProg
import Derived.Test.YtpakpgjbgehhjaaGreatGrB
import Derived.Test.YtpakpgjbgehhjaaGreatGrE
/-
  How far a quotient lies from the exact one; how far the answer of a triangle's row lies. Conditions: finite numbers; neither too great nor too small.
-/
namespace Go.Proofs.YtpakpgjbgehhjaaGreat
set_option linter.unusedVariables false
set_option linter.unusedSimpArgs false

def qj : Nat := 1928
theorem qj_is : (qj : Int) = 1928 := rfl
theorem quo_up (A t U X y N : Nat) (g1 : A * t * U ≤ X * U + X) (h1 : X * y ≤ N + y) (hy : y * (U + 1) ≤ N) : A * t * y * U ≤ N * U + 2 * N := by
  have k1 := Nat.mul_le_mul_right y g1
  rw [Nat.add_mul] at k1
  have k2 := Nat.mul_le_mul_right U h1
  rw [Nat.add_mul] at k2
  rw [Nat.mul_add, Nat.mul_one] at hy
  rw [show A * t * y * U = A * t * U * y by simp only [Nat.mul_comm, Nat.mul_left_comm, Nat.mul_assoc]]
  rw [show X * U * y = X * y * U by simp only [Nat.mul_comm, Nat.mul_left_comm, Nat.mul_assoc]] at k1
  generalize A * t * U * y = a at *
  generalize X * y * U = b at *
  generalize X * y = c at *
  generalize N * U = d at *
  generalize y * U = f at *
  omega
theorem quo_low (A t U X y N : Nat) (g2 : X * U ≤ A * t * U + X) (h1 : X * y ≤ N + y) (h2 : N ≤ X * y + 4 * y) (hy : y * (4 * U + 1) ≤ N) : N * U ≤ A * t * y * U + 2 * N := by
  have k1 := Nat.mul_le_mul_right y g2
  rw [Nat.add_mul] at k1
  have k2 := Nat.mul_le_mul_right U h2
  rw [Nat.add_mul] at k2
  rw [Nat.mul_add, Nat.mul_one, show y * (4 * U) = 4 * y * U by simp only [Nat.mul_comm, Nat.mul_left_comm, Nat.mul_assoc]] at hy
  rw [show A * t * y * U = A * t * U * y by simp only [Nat.mul_comm, Nat.mul_left_comm, Nat.mul_assoc]]
  rw [show X * U * y = X * y * U by simp only [Nat.mul_comm, Nat.mul_left_comm, Nat.mul_assoc]] at k1
  generalize A * t * U * y = a at *
  generalize X * y * U = b at *
  generalize X * y = c at *
  generalize N * U = d at *
  generalize 4 * y * U = f at *
  omega
theorem quo_X (N y : Nat) (hy : 0 < y) (b : Bool) (hb : b = decide (N % y ≠ 0)) : (N / y * 2 ^ 2 + b.toNat) * y ≤ N * 4 + y ∧ N * 4 ≤ (N / y * 2 ^ 2 + b.toNat) * y + 4 * y := by
  have h1 := Nat.div_add_mod N y
  have h2 := Nat.mod_lt N hy
  rw [Nat.add_mul, show N / y * 2 ^ 2 * y = 4 * (y * (N / y)) by rw [show (2 : Nat) ^ 2 = 4 from rfl]; simp only [Nat.mul_comm, Nat.mul_left_comm, Nat.mul_assoc]]
  by_cases g : N % y = 0
  · rw [hb, decide_eq_false (by simpa using g)]
    generalize y * (N / y) = q at *
    show 4 * q + 0 * y ≤ _ ∧ _ ≤ 4 * q + 0 * y + _
    omega
  · rw [hb, decide_eq_true g]
    generalize y * (N / y) = q at *
    show 4 * q + 1 * y ≤ _ ∧ _ ≤ 4 * q + 1 * y + _
    omega
/-- A quotient of magnitudes. -/
theorem quo_err (x y : Nat) (hx : 0 < x) (hy : 0 < y) (hyb : y ≤ 2 ^ (52 + ii)) (hf : quoF x y ≤ 1) :
    quoN x y < 9218868437227405312 ∧ V (quoN x y) * y * 9007199254740992 ≤ x * 2 ^ uu * 9007199254740992 + 2 * (x * 2 ^ uu) ∧ x * 2 ^ uu * 9007199254740992 ≤ V (quoN x y) * y * 9007199254740992 + 2 * (x * 2 ^ uu) := by
  have hu := uu_is
  have hq := qj_is
  have hjj := jj_is
  have hii := ii_is
  unfold quoN quoF numM flagM at *
  generalize hb : decide (x * 2 ^ jj % y ≠ 0) = b at *
  obtain ⟨g0, g1, g2⟩ := err_num _ qj (-(jj : Int) - (2 : Nat)) (by omega) hf
  obtain ⟨h1, h2⟩ := quo_X (x * 2 ^ jj) y hy b hb.symm
  generalize x * 2 ^ jj / y * 2 ^ 2 + b.toNat = X at *
  generalize V (numP X (-(jj : Int) - (2 : Nat))) = A at *
  have hN : x * 2 ^ jj * 4 = x * 2 ^ uu * 2 ^ qj := by
    rw [show (4 : Nat) = 2 ^ 2 from rfl, Nat.mul_assoc, Nat.mul_assoc, ← Nat.pow_add, ← Nat.pow_add, show jj + 2 = uu + qj by omega]
  have hyN : y * (4 * 9007199254740992 + 1) ≤ x * 2 ^ jj * 4 := by
    have c1 : y * (4 * 9007199254740992 + 1) ≤ 2 ^ (52 + ii) * 2 ^ 56 := Nat.mul_le_mul hyb (by decide)
    rw [← Nat.pow_add] at c1
    refine Nat.le_trans c1 ?_
    have c2 : 2 ^ (52 + ii + 56) ≤ 2 ^ jj := Nat.pow_le_pow_right (by decide) (by omega)
    refine Nat.le_trans c2 ?_
    rw [Nat.mul_comm x, Nat.mul_assoc]
    exact Nat.le_mul_of_pos_right _ (by omega)
  have hyN' : y * (9007199254740992 + 1) ≤ x * 2 ^ jj * 4 := Nat.le_trans (Nat.mul_le_mul_left y (by decide)) hyN
  have e1 := quo_up A (2 ^ qj) 9007199254740992 X y _ g1 h1 hyN'
  have e2 := quo_low A (2 ^ qj) 9007199254740992 X y _ g2 h1 h2 hyN
  rw [hN] at e1 e2
  have s1 : A * 2 ^ qj * y * 9007199254740992 = A * y * 9007199254740992 * 2 ^ qj := by simp only [Nat.mul_comm, Nat.mul_left_comm, Nat.mul_assoc]
  have s2 : x * 2 ^ uu * 2 ^ qj * 9007199254740992 = x * 2 ^ uu * 9007199254740992 * 2 ^ qj := by simp only [Nat.mul_comm, Nat.mul_left_comm, Nat.mul_assoc]
  rw [s1, s2, ← Nat.mul_assoc 2, ← Nat.add_mul] at e1 e2
  exact ⟨g0, Nat.le_of_mul_le_mul_right e1 (Nat.two_pow_pos qj), Nat.le_of_mul_le_mul_right e2 (Nat.two_pow_pos qj)⟩
theorem divS_fin (a b : Int) (ha : mag a < 9218868437227405312) (hb : mag b < 9218868437227405312) (hz : mag b ≠ 0) : divS a b = if isZ a then (sgnB (sgn a != sgn b), 0) else (sgnB (sgn a != sgn b) + ((quoN (V (mag a)) (V (mag b)) : Nat) : Int), ((quoF (V (mag a)) (V (mag b)) : Nat) : Int)) := by
  obtain ⟨a1, a2⟩ := fin_facts a ha
  obtain ⟨b1, b2⟩ := fin_facts b hb
  have b3 : isZ b = false := (z_not b).2 hz
  unfold divS
  rw [a1, a2, b1, b2, b3]
  cases isZ a <;> rfl
/-- A quotient: the quotient times what it was divided by is near. -/
theorem div_err (a b : Int) (ha : mag a < 9218868437227405312) (hb : mag b < 9218868437227405312) (hz : mag b ≠ 0) (h : (divS a b).2 ≤ 1) :
    mag (divS a b).1 < 9218868437227405312 ∧ (sv (divS a b).1 * sv b - sv a * ((2 ^ uu : Nat) : Int)).natAbs * 9007199254740992 ≤ 2 * (sv a * ((2 ^ uu : Nat) : Int)).natAbs := by
  rw [divS_fin a b ha hb hz] at *
  by_cases hza : isZ a = true
  · rw [if_pos hza]
    have hm := (z_iff a).1 hza
    have hs := (sgn_mag (sgn a != sgn b) 0 (by decide)).1
    rw [show ((0 : Nat) : Int) = 0 from rfl, Int.add_zero] at hs
    refine ⟨by show mag (sgnB (sgn a != sgn b)) < _; rw [hs]; decide, ?_⟩
    show (sv (sgnB (sgn a != sgn b)) * _ - _).natAbs * _ ≤ _
    rw [sv_zero a hm, sv_zero _ hs, Int.zero_mul, Int.zero_mul]
    decide
  · rw [if_neg hza] at *
    have hma : mag a ≠ 0 := fun g => hza ((z_iff a).2 g)
    have h' : ((quoF (V (mag a)) (V (mag b)) : Nat) : Int) ≤ 1 := h
    have hyb : V (mag b) ≤ 2 ^ (52 + ii) := by rw [← V_inf]; exact Nat.le_of_lt (V_lt _ _ hb)
    obtain ⟨g0, g1, g2⟩ := quo_err (V (mag a)) (V (mag b)) (V_pos _ (by omega)) (V_pos _ (by omega)) hyb (by omega)
    show mag (sgnB (sgn a != sgn b) + ((quoN (V (mag a)) (V (mag b)) : Nat) : Int)) < _ ∧ (sv (sgnB (sgn a != sgn b) + ((quoN (V (mag a)) (V (mag b)) : Nat) : Int)) * _ - _).natAbs * _ ≤ _
    rw [(sgn_mag _ _ (by omega)).1]
    refine ⟨g0, ?_⟩
    rw [sv_of _ _ (by omega)]
    generalize V (quoN (V (mag a)) (V (mag b))) = r at *
    have := err_sgn 9007199254740992 (sgn a) _ _ _ g1 g2
    have e1 : (if (sgn a != sgn b) = true then -((r : Nat) : Int) else ((r : Nat) : Int)) * sv b = if sgn a = true then -((r * V (mag b) : Nat) : Int) else ((r * V (mag b) : Nat) : Int) := by
      unfold sv
      push_cast
      cases sgn a <;> cases sgn b <;> simp [Int.neg_mul, Int.mul_neg]
    have e2 : sv a * ((2 ^ uu : Nat) : Int) = if sgn a = true then -((V (mag a) * 2 ^ uu : Nat) : Int) else ((V (mag a) * 2 ^ uu : Nat) : Int) := by
      unfold sv
      generalize 2 ^ uu = t
      push_cast
      cases sgn a <;> simp [Int.neg_mul]
    have e3 : (sv a * ((2 ^ uu : Nat) : Int)).natAbs = V (mag a) * 2 ^ uu := by rw [Int.natAbs_mul, Int.natAbs_natCast, sv_abs]
    rw [e3, e1, e2]
    exact this
end Go.Proofs.YtpakpgjbgehhjaaGreat

/-
  A row of a triangle's answer (P12.2): the products are taken away one behind the other, then it is divided: how far the row's sum lies from what it began with. Conditions: each step is near.
-/
namespace Go.Proofs.YtpakpgjbgehhjaaGreat
set_option linter.unusedVariables false
set_option linter.unusedSimpArgs false

def fsum (P : Nat → Int) : Nat → Int
  | 0 => 0
  | m + 1 => fsum P m + P m
def fabs (P : Nat → Int) : Nat → Nat
  | 0 => 0
  | m + 1 => fabs P m + (P m).natAbs
theorem fsum_front (P : Nat → Int) (m : Nat) : fsum P (m + 1) = P 0 + fsum (fun k => P (k + 1)) m := by
  induction m with
  | zero => simp [fsum]
  | succ m ih =>
    rw [show fsum P (m + 1 + 1) = fsum P (m + 1) + P (m + 1) from rfl, ih, show fsum (fun k => P (k + 1)) (m + 1) = fsum (fun k => P (k + 1)) m + P (m + 1) from rfl]
    omega
theorem fabs_front (P : Nat → Int) (m : Nat) : fabs P (m + 1) = (P 0).natAbs + fabs (fun k => P (k + 1)) m := by
  induction m with
  | zero => simp [fabs]
  | succ m ih =>
    rw [show fabs P (m + 1 + 1) = fabs P (m + 1) + (P (m + 1)).natAbs from rfl, ih, show fabs (fun k => P (k + 1)) (m + 1) = fabs (fun k => P (k + 1)) m + (P (m + 1)).natAbs from rfl]
    omega
theorem cut_le (U a M c : Nat) (h : a * U ≤ (U + c) * M) (hc : c ≤ U) (hU : 0 < U) : a ≤ 2 * M := by
  refine Nat.le_of_mul_le_mul_right (Nat.le_trans h ?_) hU
  rw [Nat.mul_assoc 2 M U, Nat.mul_comm M U, ← Nat.mul_assoc]
  exact Nat.mul_le_mul_right M (by omega)
theorem tri_step (U c r : Nat) (w0 w1 q P R : Int) (M : Nat) (hU : c + 8 ≤ U) (h1 : w1.natAbs * U ≤ (U + c) * M) (h2 : (w1 - R).natAbs * U ≤ r * M) (hq : (q - P).natAbs * U ≤ P.natAbs) (hw : (w1 - (w0 - q)).natAbs * U ≤ (w0 - q).natAbs) :
    w0.natAbs * U ≤ (U + (c + 4)) * (P.natAbs + M) ∧ (w0 - (P + R)).natAbs * U ≤ (r + 2) * (P.natAbs + M) := by
  obtain ⟨a, ha⟩ : ∃ a, (w0 - q).natAbs = a := ⟨_, rfl⟩
  rw [ha] at hw
  have a1 : a ≤ w1.natAbs + (w1 - (w0 - q)).natAbs := by omega
  have a2 := Nat.mul_le_mul_right U a1
  rw [Nat.add_mul] at a2
  have a3 : a * U ≤ w1.natAbs * U + a := by omega
  have a4 : a ≤ 2 * w1.natAbs := by
    refine Nat.le_of_not_lt fun g => ?_
    have g1 : (2 * w1.natAbs + 1) * U ≤ a * U := Nat.mul_le_mul_right U g
    rw [Nat.add_mul, Nat.mul_assoc, Nat.one_mul] at g1
    have g2 : a * 2 ≤ a * U := Nat.mul_le_mul_left a (by omega)
    generalize w1.natAbs * U = x at *
    generalize a * U = y at *
    omega
  have a5 := cut_le U _ M c h1 (by omega) (by omega)
  have e1 : (U + (c + 4)) * M = (U + c) * M + 4 * M := by rw [← Nat.add_assoc, Nat.add_mul]
  have a6 : a * U ≤ (U + (c + 4)) * M := by
    rw [e1]
    generalize a * U = x at *
    generalize w1.natAbs * U = y at *
    generalize (U + c) * M = z at *
    omega
  have a7 := cut_le U a M (c + 4) a6 (by omega) (by omega)
  refine ⟨?_, ?_⟩
  · have b1 : w0.natAbs ≤ P.natAbs + (q - P).natAbs + a := by omega
    have b2 := Nat.mul_le_mul_right U b1
    rw [Nat.add_mul, Nat.add_mul] at b2
    have e2 : (U + (c + 4)) * P.natAbs = P.natAbs * U + (c + 4) * P.natAbs := by rw [Nat.add_mul, Nat.mul_comm U]
    have e3 : P.natAbs ≤ (c + 4) * P.natAbs := Nat.le_mul_of_pos_left _ (by omega)
    rw [Nat.mul_add, e2]
    generalize w0.natAbs * U = x at *
    generalize P.natAbs * U = y at *
    generalize (q - P).natAbs * U = z at *
    generalize a * U = t at *
    generalize (U + (c + 4)) * M = s at *
    generalize (c + 4) * P.natAbs = v at *
    omega
  · have b1 : (w0 - (P + R)).natAbs ≤ (w1 - (w0 - q)).natAbs + (q - P).natAbs + (w1 - R).natAbs := by omega
    have b2 := Nat.mul_le_mul_right U b1
    rw [Nat.add_mul, Nat.add_mul] at b2
    have e2 : (r + 2) * (P.natAbs + M) = (r + 2) * P.natAbs + (r * M + 2 * M) := by rw [Nat.mul_add, Nat.add_mul r 2 M]
    have e3 : P.natAbs ≤ (r + 2) * P.natAbs := Nat.le_mul_of_pos_left _ (by omega)
    rw [e2]
    generalize (w0 - (P + R)).natAbs * U = x at *
    generalize (w1 - (w0 - q)).natAbs * U = y at *
    generalize (q - P).natAbs * U = z at *
    generalize (w1 - R).natAbs * U = t at *
    generalize r * M = s at *
    generalize (r + 2) * P.natAbs = v at *
    omega
/-- The row: D is the answer's number times the diagonal's. -/
theorem tri_row (U : Nat) (D : Int) : ∀ (m : Nat) (P q w : Nat → Int), 4 * m + 12 ≤ U → (∀ k, k < m → (q k - P k).natAbs * U ≤ (P k).natAbs) → (∀ k, k < m → (w (k + 1) - (w k - q k)).natAbs * U ≤ (w k - q k).natAbs) → (D - w m).natAbs * U ≤ 2 * (w m).natAbs →
    (w 0).natAbs * U ≤ (U + (4 * m + 4)) * (fabs P m + D.natAbs) ∧ (w 0 - (fsum P m + D)).natAbs * U ≤ (2 * m + 4) * (fabs P m + D.natAbs)
  | 0, P, q, w, hU, _, _, hD => by
    have a1 : (w 0).natAbs ≤ 2 * D.natAbs := by
      refine Nat.le_of_not_lt fun g => ?_
      have g0 : (w 0).natAbs ≤ D.natAbs + (D - w 0).natAbs := by omega
      have g1 := Nat.mul_le_mul_right U g0
      rw [Nat.add_mul] at g1
      have g2 : (2 * D.natAbs + 1) * U ≤ (w 0).natAbs * U := Nat.mul_le_mul_right U g
      rw [Nat.add_mul, Nat.mul_assoc, Nat.one_mul] at g2
      have g3 : (w 0).natAbs * 4 ≤ (w 0).natAbs * U := Nat.mul_le_mul_left _ (by omega)
      generalize (w 0).natAbs * U = x at *
      generalize D.natAbs * U = y at *
      generalize (D - w 0).natAbs * U = z at *
      omega
    have g0 : (w 0).natAbs ≤ D.natAbs + (D - w 0).natAbs := by omega
    have g1 := Nat.mul_le_mul_right U g0
    rw [Nat.add_mul] at g1
    have e1 : (U + (4 * 0 + 4)) * (fabs P 0 + D.natAbs) = D.natAbs * U + 4 * D.natAbs := by
      rw [show fabs P 0 = 0 from rfl, Nat.zero_add D.natAbs, show 4 * 0 + 4 = 4 from rfl, Nat.add_mul, Nat.mul_comm U]
    have e2 : (w 0 - (fsum P 0 + D)).natAbs = (D - w 0).natAbs := by rw [show fsum P 0 = 0 from rfl]; omega
    rw [e1, e2, show fabs P 0 = 0 from rfl, Nat.zero_add]
    generalize (w 0).natAbs * U = x at *
    generalize D.natAbs * U = y at *
    generalize (D - w 0).natAbs * U = z at *
    omega
  | m + 1, P, q, w, hU, hq, hw, hD => by
    obtain ⟨i1, i2⟩ := tri_row U D m (fun k => P (k + 1)) (fun k => q (k + 1)) (fun k => w (k + 1)) (by omega) (fun k hk => hq (k + 1) (by omega)) (fun k hk => hw (k + 1) (by omega)) hD
    have := tri_step U (4 * m + 4) (2 * m + 4) (w 0) (w (0 + 1)) (q 0) (P 0) (fsum (fun k => P (k + 1)) m + D) _ (by omega) i1 i2 (hq 0 (by omega)) (hw 0 (by omega))
    rw [fsum_front, fabs_front, Int.add_assoc, Nat.add_assoc]
    rw [show 4 * (m + 1) + 4 = 4 * m + 4 + 4 by omega, show 2 * (m + 1) + 4 = 2 * m + 4 + 2 by omega]
    exact this
end Go.Proofs.YtpakpgjbgehhjaaGreat

/-
  Patterns that are alike but for a zero's sign; a diagonal as it is filled; sums of products with the identity. No conditions.
-/
namespace Go.Proofs.YtpakpgjbgehhjaaGreat
set_option linter.unusedVariables false
set_option linter.unusedSimpArgs false

/-- The same pattern, or zeros both. -/
def Like (f g : Int) : Prop := g = f ∨ (mag f = 0 ∧ mag g = 0 ∧ 0 ≤ g ∧ g < 18446744073709551616)
theorem Like.trans {f g h : Int} (a : Like f g) (b : Like g h) : Like f h := by
  rcases a with rfl | ⟨a1, a2, a3, a4⟩
  · exact b
  · rcases b with rfl | ⟨b1, b2, b3, b4⟩
    · exact .inr ⟨a1, a2, a3, a4⟩
    · exact .inr ⟨a1, b2, b3, b4⟩
theorem Like.rng {f g : Int} (h : Like f g) (h0 : 0 ≤ f) (h1 : f < 18446744073709551616) : 0 ≤ g ∧ g < 18446744073709551616 := by
  rcases h with rfl | ⟨_, _, a, b⟩
  · exact ⟨h0, h1⟩
  · exact ⟨a, b⟩
/-- The first n rows of a diagonal stand in xs. -/
def DgI (xs : List Int) (D : Nat → Int) (N n : Nat) : Prop := xs.length = N * N ∧ InW xs ∧ ∀ i k, i < N → k < N → xs[i * N + k]?.getD 0 = if i = k ∧ i < n then D i else 0
theorem place_lt {i k N : Nat} (hi : i < N) (hk : k < N) : i * N + k < N * N := by
  have : (i + 1) * N ≤ N * N := Nat.mul_le_mul_right N hi
  rw [Nat.add_mul, Nat.one_mul] at this
  omega
theorem place_eq {i k j l N : Nat} (hk : k < N) (hl : l < N) (h : i * N + k = j * N + l) : i = j ∧ k = l := by
  have hp : 0 < N := by omega
  have h1 : (i * N + k) / N = (j * N + l) / N := by rw [h]
  have h2 : (i * N + k) % N = (j * N + l) % N := by rw [h]
  rw [Nat.mul_comm i, Nat.mul_comm j, Nat.mul_add_div hp, Nat.mul_add_div hp, Nat.div_eq_of_lt hk, Nat.div_eq_of_lt hl] at h1
  rw [Nat.mul_comm i, Nat.mul_comm j, Nat.mul_add_mod, Nat.mul_add_mod, Nat.mod_eq_of_lt hk, Nat.mod_eq_of_lt hl] at h2
  omega
theorem DgI.set {xs : List Int} {D : Nat → Int} {N n : Nat} (h : DgI xs D N n) (hn : n < N) (x : Int) (hx : x = D n) (x0 : 0 ≤ x) (x1 : x < 18446744073709551616) : DgI (xs.set (n * N + n) x) D N (n + 1) := by
  obtain ⟨h1, h2, h3⟩ := h
  refine ⟨by rw [List.length_set]; exact h1, h2.set _ _ x0 x1, fun i k hi hk => ?_⟩
  rw [List.getElem?_set]
  by_cases e : n * N + n = i * N + k
  · obtain ⟨e1, e2⟩ := place_eq hn hk e
    subst e1 e2
    rw [if_pos rfl, if_pos (by rw [h1]; exact place_lt hn hn), if_pos ⟨rfl, Nat.lt_succ_self _⟩, hx]
    rfl
  · rw [if_neg e, h3 i k hi hk]
    by_cases g : i = k ∧ i < n
    · rw [if_pos g, if_pos ⟨g.1, by omega⟩]
    · rw [if_neg g]
      by_cases g2 : i = k ∧ i < n + 1
      · exfalso
        obtain ⟨g3, g4⟩ := g2
        subst g3
        have : i = n := by
          rcases Nat.lt_or_ge i n with a | a
          · exact absurd ⟨rfl, a⟩ g
          · omega
        subst this
        exact e rfl
      · rw [if_neg g2]
end Go.Proofs.YtpakpgjbgehhjaaGreat
