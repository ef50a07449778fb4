/-
  The mathematics of layer 5 (plain, no program in sight): roots rounded down, and that a root with more bits is rounded alike; powers of two; whole parts; a product and a sum as whole numbers.
-/
import Derived.Test.YtokgfeeaoioegaaLawM
namespace Go.Proofs.Ytokgfeeaoioegaa
set_option linter.unusedVariables false

/-- The root, rounded down. -/
def isq : Nat → Nat
  | 0 => 0
  | n + 1 => if (isq n + 1) * (isq n + 1) ≤ n + 1 then isq n + 1 else isq n
theorem isq_succ (n : Nat) : isq (n + 1) = if (isq n + 1) * (isq n + 1) ≤ n + 1 then isq n + 1 else isq n := rfl
theorem isq_spec (n : Nat) : isq n * isq n ≤ n ∧ n < (isq n + 1) * (isq n + 1) := by
  induction n with
  | zero => exact ⟨Nat.le_refl _, by decide⟩
  | succ n ih =>
    obtain ⟨h1, h2⟩ := ih
    rw [isq_succ]
    generalize isq n = r at *
    by_cases h : (r + 1) * (r + 1) ≤ n + 1
    · rw [if_pos h]
      refine ⟨h, ?_⟩
      have : (r + 1 + 1) * (r + 1 + 1) = (r + 1) * (r + 1) + 2 * (r + 1) + 1 := by grind
      omega
    · rw [if_neg h]
      exact ⟨by omega, by omega⟩
theorem isq_uniq (n r : Nat) (h1 : r * r ≤ n) (h2 : n < (r + 1) * (r + 1)) : isq n = r := by
  obtain ⟨g1, g2⟩ := isq_spec n
  generalize isq n = q at *
  rcases Nat.lt_trichotomy q r with h | h | h
  · have := Nat.mul_le_mul (show q + 1 ≤ r by omega) (show q + 1 ≤ r by omega); omega
  · exact h
  · have := Nat.mul_le_mul (show r + 1 ≤ q by omega) (show r + 1 ≤ q by omega); omega
theorem isq_le (n r : Nat) (h : r * r ≤ n) : r ≤ isq n := by
  obtain ⟨g1, g2⟩ := isq_spec n
  generalize isq n = q at *
  rcases Nat.lt_or_ge q r with h' | h'
  · have := Nat.mul_le_mul (show q + 1 ≤ r by omega) (show q + 1 ≤ r by omega); omega
  · exact h'
theorem even_sq (x M : Nat) (h : x * x = M * 4) : ∃ y, x = 2 * y ∧ y * y = M := by
  refine ⟨x / 2, ?_, ?_⟩
  · rcases Nat.mod_two_eq_zero_or_one x with g | g
    · omega
    · exfalso
      have e : x = 2 * (x / 2) + 1 := by omega
      generalize x / 2 = y at e
      subst e
      have : (2 * y + 1) * (2 * y + 1) = 4 * (y * y + y) + 1 := by grind
      omega
  · rcases Nat.mod_two_eq_zero_or_one x with g | g
    · have e : x = 2 * (x / 2) := by omega
      generalize x / 2 = y at e ⊢
      subst e
      have : (2 * y) * (2 * y) = y * y * 4 := by grind
      omega
    · exfalso
      have e : x = 2 * (x / 2) + 1 := by omega
      generalize x / 2 = y at e
      subst e
      have : (2 * y + 1) * (2 * y + 1) = 4 * (y * y + y) + 1 := by grind
      omega
theorem sq_pow (j x N : Nat) (h : x * x = N * 4 ^ j) : ∃ y, y * y = N := by
  induction j generalizing x with
  | zero => exact ⟨x, by rw [h, Nat.pow_zero, Nat.mul_one]⟩
  | succ j ih =>
    rw [Nat.pow_succ, ← Nat.mul_assoc] at h
    obtain ⟨y, _, hy⟩ := even_sq x _ h
    exact ih y hy
theorem four_two (j : Nat) : 4 ^ j = 2 ^ j * 2 ^ j := by rw [← Nat.mul_pow]
/-- With more bits a root is rounded alike. -/
theorem root_lay (N j : Nat) (e : Int) (hb : 18014398509481984 ≤ isq N) :
    numM (isq N) e (decide (isq N * isq N ≠ N)) = numM (isq (N * 4 ^ j)) (e - j) (decide (isq (N * 4 ^ j) * isq (N * 4 ^ j) ≠ N * 4 ^ j))
    ∧ flagM (isq N) e (decide (isq N * isq N ≠ N)) = flagM (isq (N * 4 ^ j)) (e - j) (decide (isq (N * 4 ^ j) * isq (N * 4 ^ j) ≠ N * 4 ^ j)) := by
  obtain ⟨h1, h2⟩ := isq_spec N
  have hp := Nat.two_pow_pos j
  by_cases g : isq N * isq N = N
  · have e1 : isq (N * 4 ^ j) = isq N * 2 ^ j := by
      refine isq_uniq _ _ ?_ ?_
      · rw [four_two]
        have : isq N * 2 ^ j * (isq N * 2 ^ j) = isq N * isq N * (2 ^ j * 2 ^ j) := by grind
        rw [this, g]
        exact Nat.le_refl _
      · rw [four_two]
        have : isq N * 2 ^ j * (isq N * 2 ^ j) = isq N * isq N * (2 ^ j * 2 ^ j) := by grind
        rw [g] at this
        rw [← this]
        exact Nat.mul_lt_mul'' (Nat.lt_succ_self _) (Nat.lt_succ_self _)
    have e2 : isq N * 2 ^ j * (isq N * 2 ^ j) = N * 4 ^ j := by
      rw [four_two]
      have : isq N * 2 ^ j * (isq N * 2 ^ j) = isq N * isq N * (2 ^ j * 2 ^ j) := by grind
      rw [this, g]
    rw [e1, e2, g, show decide (N ≠ N) = false by simp, show decide (N * 4 ^ j ≠ N * 4 ^ j) = false by simp, numM_false, flagM_false, numM_false, flagM_false, numP_scale, flagP_scale, Int.sub_add_cancel]
    exact ⟨rfl, rfl⟩
  · obtain ⟨k1, k2⟩ := isq_spec (N * 4 ^ j)
    have g2 : isq (N * 4 ^ j) * isq (N * 4 ^ j) ≠ N * 4 ^ j := by
      intro h
      obtain ⟨y, hy⟩ := sq_pow j _ N h
      have : isq N = y := isq_uniq N y (by omega) (by rw [← hy]; exact Nat.mul_lt_mul'' (Nat.lt_succ_self _) (Nat.lt_succ_self _))
      rw [this] at g
      exact g hy
    generalize hr : isq N = r at *
    generalize hq : isq (N * 4 ^ j) = q at *
    rw [four_two] at k1 k2 g2
    have lo : r * 2 ^ j ≤ q := by
      rcases Nat.lt_or_ge q (r * 2 ^ j) with h | h
      · exfalso
        have a := Nat.mul_le_mul (show q + 1 ≤ r * 2 ^ j by omega) (show q + 1 ≤ r * 2 ^ j by omega)
        have b : r * 2 ^ j * (r * 2 ^ j) = r * r * (2 ^ j * 2 ^ j) := by grind
        have c : r * r * (2 ^ j * 2 ^ j) ≤ N * (2 ^ j * 2 ^ j) := Nat.mul_le_mul_right _ h1
        omega
      · exact h
    have hi : q < (r + 1) * 2 ^ j := by
      rcases Nat.lt_or_ge q ((r + 1) * 2 ^ j) with h | h
      · exact h
      · exfalso
        have a := Nat.mul_le_mul h h
        have b : (r + 1) * 2 ^ j * ((r + 1) * 2 ^ j) = (r + 1) * (r + 1) * (2 ^ j * 2 ^ j) := by grind
        have c : N * (2 ^ j * 2 ^ j) < (r + 1) * (r + 1) * (2 ^ j * 2 ^ j) := Nat.mul_lt_mul_of_pos_right h2 (Nat.mul_pos hp hp)
        omega
    obtain ⟨t, ht⟩ : ∃ t, q = r * 2 ^ j + t := ⟨q - r * 2 ^ j, by omega⟩
    have htl : t < 2 ^ j := by rw [Nat.add_mul, Nat.one_mul] at hi; omega
    have hlen : 54 < (bl r).length := (bl_length_lt _ 54).2 hb
    have hd : e < lastP r e := by unfold lastP; omega
    rw [four_two, show decide (r * r ≠ N) = true from decide_eq_true g, show decide (q * q ≠ N * (2 ^ j * 2 ^ j)) = true from decide_eq_true g2, ht]
    unfold numM flagM
    rw [Bool.toNat_true]
    have hk : (r * 2 ^ j + t) * 2 ^ 2 + 1 = r * 2 ^ (j + 2) + (t * 4 + 1) := by rw [Nat.pow_add]; grind
    have hlt : t * 4 + 1 < 2 ^ (j + 2) := by rw [Nat.pow_add]; omega
    have a := sticky_all r 1 2 (t * 4 + 1) (j + 2) e (by omega) hd (by omega) (by decide) (by omega) hlt
    have b := sticky_flag r 1 2 (t * 4 + 1) (j + 2) e (by omega) hd (by omega) (by decide) (by omega) hlt
    rw [show e - ((j + 2 : Nat) : Int) = e - (j : Int) - ((2 : Nat) : Int) by push_cast; omega] at a b
    unfold numP
    rw [hk, a, b]
    exact ⟨rfl, rfl⟩
def ww : Nat := 200
theorem ww_is : (ww : Int) = 200 := rfl
def uu : Nat := 1074
theorem uu_is : (uu : Int) = 1074 := rfl
theorem uu_nat : uu = 1074 := rfl
/-- The root of v 2^-1074, rounded. -/
def rootN (v : Nat) : Nat := numM (isq (v * 2 ^ ww)) (-637) (decide (isq (v * 2 ^ ww) * isq (v * 2 ^ ww) ≠ v * 2 ^ ww))
def rootF (v : Nat) : Nat := flagM (isq (v * 2 ^ ww)) (-637) (decide (isq (v * 2 ^ ww) * isq (v * 2 ^ ww) ≠ v * 2 ^ ww))
theorem root_at (m n : Nat) (e h : Int) (he : -1074 ≤ e) (hn : n ≤ 130) (hh : e - n = 2 * h) (hb : 18014398509481984 ≤ isq (m * 2 ^ n)) :
    numM (isq (m * 2 ^ n)) h (decide (isq (m * 2 ^ n) * isq (m * 2 ^ n) ≠ m * 2 ^ n)) = rootN (m * 2 ^ (e + 1074).toNat) ∧ flagM (isq (m * 2 ^ n)) h (decide (isq (m * 2 ^ n) * isq (m * 2 ^ n) ≠ m * 2 ^ n)) = rootF (m * 2 ^ (e + 1074).toNat) := by
  have hw := ww_is
  obtain ⟨j, hj⟩ : ∃ j : Nat, (j : Int) = h + 637 := ⟨(h + 637).toNat, by omega⟩
  have hN : m * 2 ^ n * 4 ^ j = m * 2 ^ (e + 1074).toNat * 2 ^ ww := by
    rw [four_two, ← Nat.pow_add, Nat.mul_assoc, ← Nat.pow_add, Nat.mul_assoc, ← Nat.pow_add, show n + (j + j) = (e + 1074).toNat + ww by omega]
  have := root_lay (m * 2 ^ n) j h hb
  unfold rootN rootF
  rw [hN, show h - (j : Int) = -637 by omega] at this
  exact this
theorem isq_big (m n : Nat) (hm : 0 < m) (hn : 108 ≤ n) : 18014398509481984 ≤ isq (m * 2 ^ n) := by
  refine isq_le _ _ ?_
  have h1 : 2 ^ 108 ≤ 2 ^ n := Nat.pow_le_pow_right (by decide) hn
  have h2 : 1 * 2 ^ n ≤ m * 2 ^ n := Nat.mul_le_mul_right _ hm
  have h3 : 18014398509481984 * 18014398509481984 = 2 ^ 108 := by decide
  omega
/-- The document's root of a pattern. -/
def sqrtS (a : Int) : Int × Int :=
  if isNan a then (9221120237041090560, nanF a a)
  else if isZ a then (a, 0)
  else if a = 9218868437227405312 then (a, 0)
  else if sgn a then (9221120237041090560, 16)
  else (((rootN (V (mag a)) : Nat) : Int), ((rootF (V (mag a)) : Nat) : Int))
theorem rootN_le (v : Nat) : rootN v ≤ 9218868437227405312 := numM_le _ _ _
theorem rootF_le (v : Nat) : rootF v ≤ 5 := flagM_le _ _ _
theorem sqrtS_bd (a : Int) (h0 : 0 ≤ a) (h1 : a < 18446744073709551616) : 0 ≤ (sqrtS a).1 ∧ (sqrtS a).1 < 18446744073709551616 ∧ 0 ≤ (sqrtS a).2 ∧ (sqrtS a).2 ≤ 31 := by
  have h2 := rootN_le (V (mag a))
  have h3 := rootF_le (V (mag a))
  have h4 := nanF_cases a a
  unfold sqrtS
  generalize rootN (V (mag a)) = x at *
  generalize rootF (V (mag a)) = y at *
  repeat' split
  all_goals (simp only; omega)

/-! Powers of two. -/
theorem num_high (x : Nat) (E : Int) (hx : 0 < x) (hE : 1024 ≤ E) : numP x E = 9218868437227405312 ∧ flagP x E = 5 := by
  have h0 : 0 < (bl x).length := (bl_length_lt x 0).2 (by rw [Nat.pow_zero]; exact hx)
  have hl : 972 ≤ lastP x E := by unfold lastP; omega
  have hk := keptP_ge x E hx (by omega)
  have hp : 9218868437227405312 ≤ patP x E := by
    unfold patP
    rw [if_neg (by omega)]
    have : 2046 ≤ (lastP x E + 1074).toNat := by omega
    generalize (lastP x E + 1074).toNat = t at *
    omega
  unfold numP flagP
  rw [if_pos hp]
  exact ⟨by omega, rfl⟩
theorem num_low (x n : Nat) (E : Int) (hx : 0 < x) (hn : x < 2 ^ n) (hE : E + n ≤ -1075) : numP x E = 0 ∧ flagP x E = 3 := by
  have h0 : 0 < (bl x).length := (bl_length_lt x 0).2 (by rw [Nat.pow_zero]; exact hx)
  have h1 : (bl x).length ≤ n := (bl_length_le x n).2 hn
  have hl : lastP x E = -1074 := by unfold lastP; omega
  obtain ⟨d, hd⟩ : ∃ d : Nat, lastP x E - E = d := ⟨(-1074 - E).toNat, by omega⟩
  have hdn : n + 1 ≤ d := by omega
  have hp : 2 ^ (n + 1) ≤ 2 ^ d := Nat.pow_le_pow_right (by decide) hdn
  rw [Nat.pow_succ] at hp
  have hlt : x < 2 ^ d := by omega
  have hk : keptP x E = 0 := by
    unfold keptP rneI rne
    rw [hd, if_pos (by omega), Int.toNat_natCast, Nat.mod_eq_of_lt hlt, Nat.div_eq_of_lt hlt, if_neg (by omega)]
  have hpat : patP x E = 0 := by
    unfold patP
    rw [if_neg (by omega), hk, hl]
    rfl
  have hlost : lostP x E = true := by
    unfold lostP lostI
    rw [hd, Int.toNat_natCast, Nat.mod_eq_of_lt hlt]
    exact decide_eq_true ⟨by omega, by omega⟩
  have hsm : smallP x E = true := by unfold smallP; exact decide_eq_true (by omega)
  unfold numP flagP
  rw [hpat, hlost, hsm, if_neg (by decide), if_pos ⟨by omega, rfl⟩, if_pos rfl]
  exact ⟨rfl, rfl⟩
theorem num_clamp (x : Nat) (p n c : Int) (hx : 0 < x) (hx2 : x < 9007199254740992) (h0 : -1074 ≤ p) (h1 : p ≤ 971) (hc : 5000 ≤ c) :
    numP x (p + min (max n (-c)) c) = numP x (p + n) ∧ flagP x (p + min (max n (-c)) c) = flagP x (p + n) := by
  by_cases g1 : c < n
  · rw [(num_high x (p + n) hx (by omega)).1, (num_high x (p + n) hx (by omega)).2, (num_high x _ hx (by omega)).1, (num_high x _ hx (by omega)).2]
    exact ⟨rfl, rfl⟩
  · by_cases g2 : n < -c
    · rw [(num_low x 53 (p + n) hx hx2 (by omega)).1, (num_low x 53 (p + n) hx hx2 (by omega)).2, (num_low x 53 _ hx hx2 (by omega)).1, (num_low x 53 _ hx hx2 (by omega)).2]
      exact ⟨rfl, rfl⟩
    · rw [show min (max n (-c)) c = n by omega]
      exact ⟨rfl, rfl⟩
/-- A pattern times 2^n. -/
def scaleS (a n : Int) : Int × Int :=
  if isNan a then (9221120237041090560, nanF a a)
  else if isInf a || isZ a then (a, 0)
  else (sgnB (sgn a) + ((numP (V (mag a)) (n - 1074) : Nat) : Int), ((flagP (V (mag a)) (n - 1074) : Nat) : Int))
theorem scaleS_bd (a n : Int) (h0 : 0 ≤ a) (h1 : a < 18446744073709551616) : 0 ≤ (scaleS a n).1 ∧ (scaleS a n).1 < 18446744073709551616 ∧ 0 ≤ (scaleS a n).2 ∧ (scaleS a n).2 ≤ 31 := by
  have h2 := numP_le (V (mag a)) (n - 1074)
  have h3 := flagP_le (V (mag a)) (n - 1074)
  have h4 := nanF_cases a a
  have h5 := sgnB_le (sgn a)
  unfold scaleS
  generalize numP (V (mag a)) (n - 1074) = x at *
  generalize flagP (V (mag a)) (n - 1074) = y at *
  repeat' split
  all_goals (simp only; omega)
theorem scale_parts (a n : Int) (hf : mag a < 9218868437227405312) : numP (V (mag a)) (n - 1074) = numP (wMant a).toNat (wPow a + n) ∧ flagP (V (mag a)) (n - 1074) = flagP (wMant a).toNat (wPow a + n) := by
  obtain ⟨p1, p2, p3, p4⟩ := parts_bd a
  rw [parts_V a hf, numP_scale, flagP_scale, show n - 1074 + ((wPow a + 1074).toNat : Int) = wPow a + n by omega]
  exact ⟨rfl, rfl⟩
theorem mant_pos (a : Int) (hf : mag a < 9218868437227405312) (hz : mag a ≠ 0) : 0 < (wMant a).toNat := by
  obtain ⟨p1, p2, p3, p4⟩ := parts_bd a
  have := mant_zero a hf
  omega
/-- A whole number. -/
def fromS (n : Int) : Int × Int := (sgnB (decide (n < 0)) + ((numP n.natAbs 0 : Nat) : Int), ((flagP n.natAbs 0 : Nat) : Int))
/-- A number's whole part. -/
def toS (a : Int) : Int × Int :=
  if 9218868437227405312 ≤ mag a then (0, 16)
  else if (if sgn a then 9223372036854775808 else 9223372036854775807) < V (mag a) / 2 ^ uu then (0, 16)
  else (if sgn a then -((V (mag a) / 2 ^ uu : Nat) : Int) else ((V (mag a) / 2 ^ uu : Nat) : Int), if V (mag a) % 2 ^ uu ≠ 0 then 1 else 0)
theorem whole_up (m : Nat) (e : Int) (h0 : 0 ≤ e) : m * 2 ^ (e + 1074).toNat / 2 ^ uu = m * 2 ^ e.toNat ∧ m * 2 ^ (e + 1074).toNat % 2 ^ uu = 0 := by
  have hu := uu_is
  have e1 : m * 2 ^ (e + 1074).toNat = m * 2 ^ e.toNat * 2 ^ uu := by rw [Nat.mul_assoc, ← Nat.pow_add, show e.toNat + uu = (e + 1074).toNat by omega]
  rw [e1]
  exact ⟨Nat.mul_div_cancel _ (Nat.two_pow_pos _), Nat.mul_mod_left _ _⟩
theorem whole_down (m : Nat) (e : Int) (h0 : e ≤ 0) (h1 : -1074 ≤ e) : m * 2 ^ (e + 1074).toNat / 2 ^ uu = m / 2 ^ (-e).toNat ∧ (m * 2 ^ (e + 1074).toNat % 2 ^ uu ≠ 0 ↔ m % 2 ^ (-e).toNat ≠ 0) := by
  have hu := uu_is
  have e1 : 2 ^ uu = 2 ^ (-e).toNat * 2 ^ (e + 1074).toNat := by rw [← Nat.pow_add, show (-e).toNat + (e + 1074).toNat = uu by omega]
  have hp := Nat.two_pow_pos (e + 1074).toNat
  rw [e1]
  refine ⟨Nat.mul_div_mul_right _ _ hp, ?_⟩
  rw [Nat.mul_mod_mul_right]
  rw [ne_eq, Nat.mul_eq_zero]
  omega

/-! A product and a sum. -/
def rnd2 (s : Int) : Int × Int := (sgnB (decide (s < 0)) + ((numP s.natAbs (-2148) : Nat) : Int), ((flagP s.natAbs (-2148) : Nat) : Int))
def pv (a b : Int) : Int := if sgn a != sgn b then -((V (mag a) * V (mag b) : Nat) : Int) else ((V (mag a) * V (mag b) : Nat) : Int)
def nanF3 (a b c : Int) : Int := if sigs a || sigs b || sigs c then 16 else 0
def fmaS (a b c : Int) : Int × Int :=
  if (isInf a && isZ b) || (isZ a && isInf b) then (9221120237041090560, 16)
  else if isNan a || isNan b || isNan c then (9221120237041090560, nanF3 a b c)
  else if isInf a || isInf b then addS (sgnB (sgn a != sgn b) + 9218868437227405312) c
  else if isInf c then (c, 0)
  else if (isZ a || isZ b) && isZ c then addS (sgnB (sgn a != sgn b)) c
  else rnd2 (pv a b + sv c * ((2 ^ uu : Nat) : Int))
theorem rnd2_bd (s : Int) : 0 ≤ (rnd2 s).1 ∧ (rnd2 s).1 < 18446744073709551616 ∧ 0 ≤ (rnd2 s).2 ∧ (rnd2 s).2 ≤ 31 := by
  have h1 := numP_le s.natAbs (-2148)
  have h2 := flagP_le s.natAbs (-2148)
  have h3 := sgnB_le (decide (s < 0))
  unfold rnd2
  generalize numP s.natAbs (-2148) = x at *
  generalize flagP s.natAbs (-2148) = y at *
  simp only
  omega
theorem nanF3_cases (a b c : Int) : nanF3 a b c = 0 ∨ nanF3 a b c = 16 := by unfold nanF3; split <;> omega
theorem fmaS_bd (a b c : Int) (h0 : 0 ≤ a) (h1 : a < 18446744073709551616) (g0 : 0 ≤ b) (g1 : b < 18446744073709551616) (k0 : 0 ≤ c) (k1 : c < 18446744073709551616) : 0 ≤ (fmaS a b c).1 ∧ (fmaS a b c).1 < 18446744073709551616 ∧ 0 ≤ (fmaS a b c).2 ∧ (fmaS a b c).2 ≤ 31 := by
  have hs := sgnB_le (sgn a != sgn b)
  have r := rnd2_bd (pv a b + sv c * ((2 ^ uu : Nat) : Int))
  have s1 := addS_bd (sgnB (sgn a != sgn b) + 9218868437227405312) c (by omega) (by omega) k0 k1
  have s2 := addS_bd (sgnB (sgn a != sgn b)) c (by omega) (by omega) k0 k1
  have n := nanF3_cases a b c
  unfold fmaS
  generalize rnd2 (pv a b + sv c * ((2 ^ uu : Nat) : Int)) = x at *
  repeat' split
  · simp only; omega
  · simp only; omega
  · exact s1
  · simp only; omega
  · exact s2
  · exact r
theorem fadd_lay (G S d : Nat) (es eg : Int) (hd : eg = es + d) (hG : 18014398509481984 ≤ G) :
    numR (G + S / 2 ^ d) eg (decide (S % 2 ^ d ≠ 0)) = numP (G * 2 ^ d + S) es ∧ flagR (G + S / 2 ^ d) eg (decide (S % 2 ^ d ≠ 0)) = flagP (G * 2 ^ d + S) es := by
  have hp := Nat.two_pow_pos d
  have hN : G * 2 ^ d + S = S + 2 ^ d * G := by rw [Nat.mul_comm, Nat.add_comm]
  have q1 : (G * 2 ^ d + S) / 2 ^ d = G + S / 2 ^ d := by rw [hN, Nat.add_mul_div_left _ _ hp, Nat.add_comm]
  have q2 : (G * 2 ^ d + S) % 2 ^ d = S % 2 ^ d := by rw [hN, Nat.add_mul_mod_self_left]
  have s := shift_num (G * 2 ^ d + S) d eg (by intro _; rw [q1]; exact Nat.le_trans hG (Nat.le_add_right _ _))
  rw [q1, q2, show eg - (d : Int) = es by omega] at s
  exact s
theorem lost_20 (S d : Nat) (hz : S % 1048576 = 0) (h : S % 2 ^ d ≠ 0) : 20 < d := by
  rcases Nat.lt_or_ge 20 d with g | g
  · exact g
  · exfalso
    apply h
    obtain ⟨k, hk⟩ : ∃ k, 20 = d + k := ⟨20 - d, by omega⟩
    have e : S = 2 ^ 20 * (S / 1048576) := by omega
    rw [e, hk, Nat.pow_add, Nat.mul_assoc]
    exact Nat.mul_mod_right _ _
theorem fsub_lay (G S d : Nat) (es eg : Int) (hd : eg = es + d) (hle : S ≤ G * 2 ^ d) (hG : 42535295865117307932921825928971026432 ≤ G) (hS : S < 85070591730234615865843651857942052864) (hz : S % 1048576 = 0) :
    (S / 2 ^ d + (decide (S % 2 ^ d ≠ 0)).toNat ≤ G) ∧ (G - (S / 2 ^ d + (decide (S % 2 ^ d ≠ 0)).toNat) = 0 ↔ G * 2 ^ d = S)
    ∧ numR (G - (S / 2 ^ d + (decide (S % 2 ^ d ≠ 0)).toNat)) eg (decide (S % 2 ^ d ≠ 0)) = numP (G * 2 ^ d - S) es
    ∧ flagR (G - (S / 2 ^ d + (decide (S % 2 ^ d ≠ 0)).toNat)) eg (decide (S % 2 ^ d ≠ 0)) = flagP (G * 2 ^ d - S) es := by
  have hp := Nat.two_pow_pos d
  obtain ⟨f1, f2⟩ := sub_floor G S d hle
  have low : S % 2 ^ d ≠ 0 → S / 2 ^ d < 85070591730234615865843651857942 := by
    intro hl
    have h20 := lost_20 S d hz hl
    have : 2 ^ 21 ≤ 2 ^ d := Nat.pow_le_pow_right (by decide) h20
    rw [Nat.div_lt_iff_lt_mul hp]
    have : 85070591730234615865843651857942 * 2 ^ 21 ≤ 85070591730234615865843651857942 * 2 ^ d := Nat.mul_le_mul_left _ this
    rw [show 85070591730234615865843651857942 * 2 ^ 21 = 178405961588244985132285746181186781184 by decide] at this
    omega
  have hb : S / 2 ^ d + (decide (S % 2 ^ d ≠ 0)).toNat ≤ G := by
    by_cases hl : S % 2 ^ d = 0
    · rw [decide_eq_false (fun k => k hl), show (false : Bool).toNat = 0 from rfl, Nat.add_zero]
      exact Nat.div_le_of_le_mul (by rw [Nat.mul_comm (2 ^ d)]; exact hle)
    · have := low hl
      have t : (decide (S % 2 ^ d ≠ 0)).toNat ≤ 1 := Bool.toNat_le _
      omega
  have hx : G - (S / 2 ^ d + (decide (S % 2 ^ d ≠ 0)).toNat) = (G * 2 ^ d - S) / 2 ^ d := by rw [f1, Nat.sub_sub]
  have hdec : decide (S % 2 ^ d ≠ 0) = decide ((G * 2 ^ d - S) % 2 ^ d ≠ 0) := by rw [decide_eq_decide]; exact f2.symm
  have big : (G * 2 ^ d - S) % 2 ^ d ≠ 0 → 18014398509481984 ≤ (G * 2 ^ d - S) / 2 ^ d := by
    intro hl
    have := low (f2.1 hl)
    have t : (decide (S % 2 ^ d ≠ 0)).toNat ≤ 1 := Bool.toNat_le _
    rw [f1]
    omega
  have s := shift_num (G * 2 ^ d - S) d eg big
  rw [show eg - (d : Int) = es by omega] at s
  refine ⟨hb, ?_, ?_, ?_⟩
  · rw [hx]
    constructor
    · intro h0
      by_cases hl : (G * 2 ^ d - S) % 2 ^ d = 0
      · have := Nat.div_add_mod (G * 2 ^ d - S) (2 ^ d)
        rw [h0, hl, Nat.mul_zero, Nat.add_zero] at this
        omega
      · have := big hl; omega
    · intro h0
      rw [h0, Nat.sub_self, Nat.zero_div]
  · rw [hx, hdec, s.1]
  · rw [hx, hdec, s.2]
def tt : Nat := 2300
theorem tt_is : (tt : Int) = 2300 := rfl
/-- A term's number, times 2^2300. -/
def tv (n : Bool) (W : Nat) (e : Int) : Int := if n then -((W * 2 ^ (e + 2300).toNat : Nat) : Int) else ((W * 2 ^ (e + 2300).toNat : Nat) : Int)
def rnd3 (s : Int) : Int × Int := (sgnB (decide (s < 0)) + ((numP s.natAbs (-2300) : Nat) : Int), ((flagP s.natAbs (-2300) : Nat) : Int))
theorem rnd3_scale (s : Int) : rnd3 (s * ((2 ^ 152 : Nat) : Int)) = rnd2 s := by
  unfold rnd3 rnd2
  have hp := Nat.two_pow_pos 152
  rw [Int.natAbs_mul, Int.natAbs_natCast]
  generalize hq : 2 ^ 152 = q at *
  have e : decide (s * (q : Int) < 0) = decide (s < 0) := by
    rw [decide_eq_decide]
    constructor
    · intro h
      rcases Int.lt_or_le s 0 with g | g
      · exact g
      · have := Int.mul_nonneg g (show (0 : Int) ≤ (q : Int) by omega); omega
    · intro h
      exact Int.mul_neg_of_neg_of_pos h (by omega)
  rw [e, ← hq, numP_scale, flagP_scale]
  rfl
theorem tv_add (n : Bool) (G S : Nat) (eg es : Int) (h : 0 < G) : rnd3 (tv n G eg + tv n S es) = (sgnB n + ((numP (G * 2 ^ (eg + 2300).toNat + S * 2 ^ (es + 2300).toNat) (-2300) : Nat) : Int), ((flagP (G * 2 ^ (eg + 2300).toNat + S * 2 ^ (es + 2300).toNat) (-2300) : Nat) : Int)) := by
  have hp : 0 < G * 2 ^ (eg + 2300).toNat := Nat.mul_pos h (Nat.two_pow_pos _)
  unfold rnd3 tv
  generalize G * 2 ^ (eg + 2300).toNat = X at *
  generalize S * 2 ^ (es + 2300).toNat = Y at *
  cases n
  · have e1 : ((if false = true then -((X : Nat) : Int) else ((X : Nat) : Int)) + (if false = true then -((Y : Nat) : Int) else ((Y : Nat) : Int))) = ((X + Y : Nat) : Int) := by simp
    rw [e1, Int.natAbs_natCast, decide_eq_false (by omega)]
  · have e1 : ((if true = true then -((X : Nat) : Int) else ((X : Nat) : Int)) + (if true = true then -((Y : Nat) : Int) else ((Y : Nat) : Int))) = -((X + Y : Nat) : Int) := by simp; omega
    rw [e1, Int.natAbs_neg, Int.natAbs_natCast, decide_eq_true (by omega)]
theorem tv_sub (n m : Bool) (G S : Nat) (eg es : Int) (hnm : n ≠ m) (h : S * 2 ^ (es + 2300).toNat ≤ G * 2 ^ (eg + 2300).toNat) : rnd3 (tv n G eg + tv m S es) = (sgnB (n && decide (G * 2 ^ (eg + 2300).toNat ≠ S * 2 ^ (es + 2300).toNat)) + ((numP (G * 2 ^ (eg + 2300).toNat - S * 2 ^ (es + 2300).toNat) (-2300) : Nat) : Int), ((flagP (G * 2 ^ (eg + 2300).toNat - S * 2 ^ (es + 2300).toNat) (-2300) : Nat) : Int)) := by
  have hm : m = !n := by revert hnm; cases n <;> cases m <;> simp
  subst hm
  unfold rnd3 tv
  generalize G * 2 ^ (eg + 2300).toNat = X at *
  generalize S * 2 ^ (es + 2300).toNat = Y at *
  cases n
  · have e1 : ((if false = true then -((X : Nat) : Int) else ((X : Nat) : Int)) + (if (!false) = true then -((Y : Nat) : Int) else ((Y : Nat) : Int))) = ((X - Y : Nat) : Int) := by simp; omega
    rw [e1, Int.natAbs_natCast, decide_eq_false (by omega)]
    rfl
  · have e1 : ((if true = true then -((X : Nat) : Int) else ((X : Nat) : Int)) + (if (!true) = true then -((Y : Nat) : Int) else ((Y : Nat) : Int))) = -((X - Y : Nat) : Int) := by simp; omega
    rw [e1, Int.natAbs_neg, Int.natAbs_natCast, Bool.true_and, show decide (-((X - Y : Nat) : Int) < 0) = decide (X ≠ Y) by rw [decide_eq_decide]; omega]
theorem tv_comm (n m : Bool) (G S : Nat) (eg es : Int) : rnd3 (tv n G eg + tv m S es) = rnd3 (tv m S es + tv n G eg) := by rw [Int.add_comm]
/-- Two terms of one length stand in the order of their powers. -/
theorem term_lay (G S : Nat) (eg es : Int) (h0 : -2300 ≤ es) (h : es ≤ eg) : G * 2 ^ (eg + 2300).toNat = G * 2 ^ (eg - es).toNat * 2 ^ (es + 2300).toNat := by
  rw [Nat.mul_assoc, ← Nat.pow_add, show (eg - es).toNat + (es + 2300).toNat = (eg + 2300).toNat by omega]
theorem num_unit (X : Nat) (es : Int) (h0 : -2300 ≤ es) : numP (X * 2 ^ (es + 2300).toNat) (-2300) = numP X es ∧ flagP (X * 2 ^ (es + 2300).toNat) (-2300) = flagP X es := by
  rw [numP_scale, flagP_scale, show (-2300 : Int) + ((es + 2300).toNat : Int) = es by omega]
  exact ⟨rfl, rfl⟩
theorem term_add (n : Bool) (G S : Nat) (eg es : Int) (h0 : -2300 ≤ es) (h : es ≤ eg) (hG : 42535295865117307932921825928971026432 ≤ G) :
    rnd3 (tv n G eg + tv n S es) = (sgnB n + ((numR (G + S / 2 ^ (eg - es).toNat) eg (decide (S % 2 ^ (eg - es).toNat ≠ 0)) : Nat) : Int), ((flagR (G + S / 2 ^ (eg - es).toNat) eg (decide (S % 2 ^ (eg - es).toNat ≠ 0)) : Nat) : Int)) := by
  have s := fadd_lay G S (eg - es).toNat es eg (by omega) (by omega)
  rw [tv_add n G S eg es (by omega), term_lay G S eg es h0 h, ← Nat.add_mul, (num_unit _ es h0).1, (num_unit _ es h0).2, s.1, s.2]
theorem term_sub (n m : Bool) (G S : Nat) (eg es : Int) (hnm : n ≠ m) (h0 : -2300 ≤ es) (h : es ≤ eg) (hle : S ≤ G * 2 ^ (eg - es).toNat) (hG : 42535295865117307932921825928971026432 ≤ G) (hS : S < 85070591730234615865843651857942052864) (hz : S % 1048576 = 0) :
    S / 2 ^ (eg - es).toNat + (decide (S % 2 ^ (eg - es).toNat ≠ 0)).toNat ≤ G ∧
    rnd3 (tv n G eg + tv m S es) = (sgnB (n && !decide (G - (S / 2 ^ (eg - es).toNat + (decide (S % 2 ^ (eg - es).toNat ≠ 0)).toNat) = 0)) + ((numR (G - (S / 2 ^ (eg - es).toNat + (decide (S % 2 ^ (eg - es).toNat ≠ 0)).toNat)) eg (decide (S % 2 ^ (eg - es).toNat ≠ 0)) : Nat) : Int), ((flagR (G - (S / 2 ^ (eg - es).toNat + (decide (S % 2 ^ (eg - es).toNat ≠ 0)).toNat)) eg (decide (S % 2 ^ (eg - es).toNat ≠ 0)) : Nat) : Int)) := by
  obtain ⟨s1, s2, s3, s4⟩ := fsub_lay G S (eg - es).toNat es eg (by omega) hle hG hS hz
  have hp := Nat.two_pow_pos (es + 2300).toNat
  refine ⟨s1, ?_⟩
  rw [tv_sub n m G S eg es hnm (by rw [term_lay G S eg es h0 h]; exact Nat.mul_le_mul_right _ hle), term_lay G S eg es h0 h, ← Nat.sub_mul, (num_unit _ es h0).1, (num_unit _ es h0).2, s3, s4]
  have e : decide (G * 2 ^ (eg - es).toNat * 2 ^ (es + 2300).toNat ≠ S * 2 ^ (es + 2300).toNat) = !decide (G - (S / 2 ^ (eg - es).toNat + (decide (S % 2 ^ (eg - es).toNat ≠ 0)).toNat) = 0) := by
    rw [Bool.eq_iff_iff]
    simp only [decide_eq_true_eq, Bool.not_eq_true', decide_eq_false_iff_not]
    rw [s2]
    constructor
    · intro g k; exact g (by rw [k])
    · intro g k; exact g (Nat.eq_of_mul_eq_mul_right hp k)
  rw [e]
end Go.Proofs.Ytokgfeeaoioegaa
