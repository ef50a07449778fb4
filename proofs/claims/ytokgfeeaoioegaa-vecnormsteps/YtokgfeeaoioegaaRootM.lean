/-
  The mathematics of roots: the root of a rounded square is the number; a root lies between its neighbours; powers of two one behind the other.
-/
import Derived.Test.YtokgfeeaoioegaaMoreM
namespace Go.Proofs.Ytokgfeeaoioegaa
set_option linter.unusedVariables false

/-- What is told without a loss, whatever its power. -/
theorem told_any (X : Nat) (E : Int) (hX : 0 < X) (hl : lostP X E = false) : ∃ i j : Nat, V (patP X E) * 2 ^ j = X * 2 ^ i ∧ (i : Int) - j = E + 1074 := by
  by_cases hE : -1074 ≤ E
  · obtain ⟨i, hi⟩ : ∃ i : Nat, (i : Int) = E + 1074 := ⟨(E + 1074).toNat, by omega⟩
    refine ⟨i, 0, ?_, by omega⟩
    have h1 := lostP_scale X (-1074) i hX
    rw [show (-1074 : Int) + (i : Int) = E by omega, hl] at h1
    have h2 := V_exact _ h1
    rw [patP_scale, show (-1074 : Int) + (i : Int) = E by omega] at h2
    rw [h2, Nat.pow_zero, Nat.mul_one]
  · obtain ⟨k, hk⟩ : ∃ k : Nat, (k : Int) = -1074 - E := ⟨(-1074 - E).toNat, by omega⟩
    refine ⟨0, k, ?_, by omega⟩
    have hlast : -1074 ≤ lastP X E := by unfold lastP; omega
    obtain ⟨d, hd⟩ : ∃ d : Nat, (d : Int) = lastP X E - E := ⟨(lastP X E - E).toNat, by omega⟩
    have hm : X % 2 ^ d = 0 := by
      unfold lostP lostI at hl
      rw [← hd, decide_eq_false_iff_not, Int.toNat_natCast] at hl
      omega
    have hm2 : X % 2 ^ k = 0 := by
      have : 2 ^ d = 2 ^ k * 2 ^ (d - k) := by rw [← Nat.pow_add]; congr 1; omega
      rw [this] at hm
      exact Nat.mod_eq_zero_of_dvd (Nat.dvd_trans (Nat.dvd_mul_right _ _) (Nat.dvd_of_mod_eq_zero hm))
    obtain ⟨Y, hY⟩ : ∃ Y, X = Y * 2 ^ k := ⟨X / 2 ^ k, by have := Nat.div_add_mod X (2 ^ k); rw [hm2, Nat.add_zero, Nat.mul_comm] at this; exact this.symm⟩
    have hY0 : 0 < Y := by
      rcases Nat.eq_zero_or_pos Y with h | h
      · rw [h, Nat.zero_mul] at hY; omega
      · exact h
    have h1 := lostP_scale Y E k hY0
    rw [← hY, hl, show E + (k : Int) = -1074 by omega] at h1
    have h2 := V_exact Y h1.symm
    have h3 := patP_scale Y E k
    rw [← hY, show E + (k : Int) = -1074 by omega] at h3
    rw [h3, h2, Nat.pow_zero, Nat.mul_one, hY]
theorem flag_zero (X : Nat) (E : Int) (hX : 0 < X) (hf : flagP X E = 0) : lostP X E = false ∧ patP X E < 9218868437227405312 := by
  unfold flagP at hf
  by_cases h1 : 9218868437227405312 ≤ patP X E
  · rw [if_pos h1] at hf; omega
  · rw [if_neg h1] at hf
    cases hl : lostP X E
    · exact ⟨rfl, by omega⟩
    · rw [hl, if_pos ⟨by omega, rfl⟩] at hf
      split at hf <;> omega
theorem nanF_quiet : nanF 9221120237041090560 9221120237041090560 = 0 := by decide +kernel
theorem scale_quiet (n : Int) : scaleS 9221120237041090560 n = (9221120237041090560, 0) := by
  unfold scaleS
  rw [show isNan 9221120237041090560 = true by decide +kernel, if_pos rfl, nanF_quiet]
/-- Powers of two, one behind the other, where nothing is lost at the first. -/
theorem scale_twice (a m n : Int) (h0 : 0 ≤ a) (h1 : a < 18446744073709551616) (hf : (scaleS a m).2 = 0) : scaleS (scaleS a m).1 n = scaleS a (m + n) := by
  by_cases hn : isNan a = true
  · have e : ∀ k, scaleS a k = (9221120237041090560, nanF a a) := by intro k; unfold scaleS; rw [if_pos hn]
    rw [e] at hf ⊢
    rw [e, scale_quiet]
    simp only at hf
    rw [hf]
  · by_cases hz : (isInf a || isZ a) = true
    · have e : ∀ k, scaleS a k = (a, 0) := by intro k; unfold scaleS; rw [if_neg hn, if_pos hz]
      rw [e, e, e]
    · have e : ∀ k, scaleS a k = (sgnB (sgn a) + ((numP (V (mag a)) (k - 1074) : Nat) : Int), ((flagP (V (mag a)) (k - 1074) : Nat) : Int)) := by intro k; unfold scaleS; rw [if_neg hn, if_neg hz]
      have hza : mag a ≠ 0 := by
        intro h
        rw [(z_iff a).2 h, Bool.or_true] at hz
        exact hz rfl
      have hX := V_pos (mag a) (by omega)
      rw [e m] at hf
      simp only at hf
      obtain ⟨hl, hp⟩ := flag_zero (V (mag a)) (m - 1074) hX (by omega)
      have hnum : numP (V (mag a)) (m - 1074) = patP (V (mag a)) (m - 1074) := by unfold numP; omega
      obtain ⟨i, j, hij, hd⟩ := told_any _ _ hX hl
      have hb : scaleS (scaleS a m).1 n = (sgnB (sgn a) + ((numP (V (patP (V (mag a)) (m - 1074))) (n - 1074) : Nat) : Int), ((flagP (V (patP (V (mag a)) (m - 1074))) (n - 1074) : Nat) : Int)) := by
        rw [e m]
        simp only
        rw [hnum]
        generalize hP : patP (V (mag a)) (m - 1074) = P at *
        obtain ⟨s1, s2, s3, s4⟩ := sgn_mag (sgn a) P (by omega)
        have hP0 : P ≠ 0 := by
          intro h
          rw [h, V_zero, Nat.zero_mul] at hij
          have := Nat.mul_pos hX (Nat.two_pow_pos i)
          omega
        unfold scaleS
        rw [(fin_facts _ (by omega)).1, (fin_facts _ (by omega)).2, (z_not _).2 (by omega), if_neg (by simp), if_neg (by simp), s1, s2]
      rw [hb, e (m + n)]
      have k1 := numP_scale (V (patP (V (mag a)) (m - 1074))) (n - 1074 - j) j
      have k2 := numP_scale (V (mag a)) (n - 1074 - j) i
      have k3 := flagP_scale (V (patP (V (mag a)) (m - 1074))) (n - 1074 - j) j
      have k4 := flagP_scale (V (mag a)) (n - 1074 - j) i
      rw [hij, k2, show n - 1074 - (j : Int) + (i : Int) = m + n - 1074 by omega, show n - 1074 - (j : Int) + (j : Int) = n - 1074 by omega] at k1
      rw [hij, k4, show n - 1074 - (j : Int) + (i : Int) = m + n - 1074 by omega, show n - 1074 - (j : Int) + (j : Int) = n - 1074 by omega] at k3
      rw [k1, k3]
/-- A root that lies less than half a unit from M 2^j is rounded to it. -/
theorem root_mid (M j N : Nat) (hM : 4503599627370496 < M) (hM2 : M < 9007199254740992) (hlo : (2 * M - 1) * 2 ^ j * ((2 * M - 1) * 2 ^ j) < N) (hhi : N < (2 * M + 1) * 2 ^ j * ((2 * M + 1) * 2 ^ j)) :
    numM (isq N) (-1075) (decide (isq N * isq N ≠ N)) = min (M + j * 4503599627370496) 9218868437227405312 := by
  obtain ⟨s1, s2⟩ := isq_spec N
  have hL := isq_le N _ (Nat.le_of_lt hlo)
  have hH : isq N < (2 * M + 1) * 2 ^ j := by
    rcases Nat.lt_or_ge (isq N) ((2 * M + 1) * 2 ^ j) with h | h
    · exact h
    · have := Nat.mul_le_mul h h; omega
  have hp := Nat.two_pow_pos j
  generalize hR : isq N = R at *
  obtain ⟨T, hT⟩ : ∃ T, R * 2 ^ 2 + (decide (R * R ≠ N)).toNat = T := ⟨_, rfl⟩
  have ht1 : (decide (R * R ≠ N)).toNat ≤ 1 := Bool.toNat_le _
  have hTl : (2 * M - 1) * 2 ^ j * 4 < T := by
    rcases Nat.lt_or_ge ((2 * M - 1) * 2 ^ j) R with h | h
    · omega
    · have e : R = (2 * M - 1) * 2 ^ j := by omega
      have : decide (R * R ≠ N) = true := decide_eq_true (by rw [e]; omega)
      rw [this, show (true : Bool).toNat = 1 from rfl] at hT
      omega
  have hTh : T < (2 * M + 1) * 2 ^ j * 4 := by omega
  have e3 : 2 ^ (j + 3) = 2 ^ j * 8 := by rw [Nat.pow_add]
  have hlen : (bl T).length = j + 56 := by
    have a1 : (bl T).length ≤ j + 56 := by
      rw [bl_length_le, Nat.pow_add]
      have := Nat.mul_le_mul_right (2 ^ j * 4) (show 2 * M + 1 ≤ 18014398509481984 by omega)
      rw [show (2 : Nat) ^ 56 = 72057594037927936 by decide]
      have e1 : (2 * M + 1) * (2 ^ j * 4) = (2 * M + 1) * 2 ^ j * 4 := by rw [Nat.mul_assoc]
      have e2 : 18014398509481984 * (2 ^ j * 4) = 2 ^ j * 72057594037927936 := by omega
      omega
    have a2 : j + 55 < (bl T).length := by
      rw [bl_length_lt, Nat.pow_add]
      have := Nat.mul_le_mul_right (2 ^ j * 4) (show 9007199254740992 ≤ 2 * M - 1 by omega)
      rw [show (2 : Nat) ^ 55 = 36028797018963968 by decide]
      have e1 : (2 * M - 1) * (2 ^ j * 4) = (2 * M - 1) * 2 ^ j * 4 := by rw [Nat.mul_assoc]
      have e2 : 9007199254740992 * (2 ^ j * 4) = 2 ^ j * 36028797018963968 := by omega
      omega
    omega
  have hT0 : T ≠ 0 := by omega
  have hlast : lastP T (-1077) = (j : Int) - 1074 := by unfold lastP; rw [hlen]; omega
  have hkept : keptP T (-1077) = M := by
    unfold keptP rneI
    rw [hlast, if_pos (by omega), show ((j : Int) - 1074 - -1077).toNat = j + 3 by omega]
    obtain ⟨n1, n2⟩ := rne_near T (j + 3)
    rw [e3] at n1 n2
    generalize rne T (j + 3) = k at *
    have f1 : (2 * M + 1) * 2 ^ j * 4 = M * (2 ^ j * 8) + 2 ^ j * 4 := by grind
    have f2 : (2 * M - 1) * 2 ^ j * 4 + 2 ^ j * 4 = M * (2 ^ j * 8) := by
      obtain ⟨m, rfl⟩ : ∃ m, M = m + 1 := ⟨M - 1, by omega⟩
      rw [show 2 * (m + 1) - 1 = 2 * m + 1 by omega]
      grind
    rw [f1] at hTh
    have hle : k ≤ M := by
      rcases Nat.lt_or_ge M k with h | h
      · exfalso
        have := Nat.mul_le_mul_right (2 ^ j * 8) (show M + 1 ≤ k from h)
        rw [Nat.add_mul, Nat.one_mul] at this
        omega
      · exact h
    have hge : M ≤ k := by
      rcases Nat.lt_or_ge k M with h | h
      · exfalso
        have := Nat.mul_le_mul_right (2 ^ j * 8) (show k + 1 ≤ M from h)
        rw [Nat.add_mul, Nat.one_mul] at this
        omega
      · exact h
    omega
  unfold numM numP
  rw [hT, show (-1075 : Int) - ((2 : Nat) : Int) = -1077 by decide]
  unfold patP
  rw [if_neg hT0, hkept, hlast, show ((j : Int) - 1074 + 1074).toNat = j by omega]
theorem root_with (v j : Nat) (hv : 0 < v) : rootN v = numM (isq (v * 2 ^ ww * 4 ^ j)) (-637 - j) (decide (isq (v * 2 ^ ww * 4 ^ j) * isq (v * 2 ^ ww * 4 ^ j) ≠ v * 2 ^ ww * 4 ^ j)) := by
  have hw := ww_is
  exact (root_lay (v * 2 ^ ww) j (-637) (isq_big v ww hv (by omega))).1
def s437 : Nat := 437
theorem s437_is : s437 = 437 := rfl
theorem lift_437 (v : Nat) : v * 2 ^ ww * 4 ^ s437 = v * 2 ^ uu := by
  have hw := ww_is
  have hu := uu_is
  have hs := s437_is
  rw [four_two, ← Nat.pow_add, Nat.mul_assoc, ← Nat.pow_add, show ww + (s437 + s437) = uu by omega]
theorem pow_join (x k t : Nat) (h : t ≤ k) : x * 2 ^ (k - t) * 2 ^ t = x * 2 ^ k := by rw [Nat.mul_assoc, ← Nat.pow_add, Nat.sub_add_cancel h]
theorem lift_438 (v : Nat) : v * 2 ^ ww * 4 ^ (s437 + 1) = v * 2 ^ uu * 4 := by rw [Nat.pow_succ, ← Nat.mul_assoc, lift_437]
theorem isq_sq' (A : Nat) : isq (A * A) = A := isq_uniq _ _ (Nat.le_refl _) (Nat.mul_lt_mul'' (Nat.lt_succ_self _) (Nat.lt_succ_self _))
theorem sq_around (M j Y u q : Nat) (hq : q = 2 ^ j * 2 ^ j) (hM : 4503599627370496 < M) (hu : u ≤ 9007199254740992) (h1 : 2 * Y ≤ 2 * (M * M * q) + u * q) (h2 : 2 * (M * M * q) ≤ 2 * Y + u * q) :
    (2 * M - 1) * 2 ^ j * ((2 * M - 1) * 2 ^ j) < Y * 4 ∧ Y * 4 < (2 * M + 1) * 2 ^ j * ((2 * M + 1) * 2 ^ j) := by
  have hp : 0 < q := by rw [hq]; exact Nat.mul_pos (Nat.two_pow_pos _) (Nat.two_pow_pos _)
  have e1 : (2 * M + 1) * 2 ^ j * ((2 * M + 1) * 2 ^ j) = 4 * (M * M * q) + 4 * (M * q) + q := by rw [hq]; grind
  have e2 : (2 * M - 1) * 2 ^ j * ((2 * M - 1) * 2 ^ j) + 4 * (M * q) = 4 * (M * M * q) + q := by
    obtain ⟨m, rfl⟩ : ∃ m, M = m + 1 := ⟨M - 1, by omega⟩
    rw [show 2 * (m + 1) - 1 = 2 * m + 1 by omega, hq]
    grind
  have e3 : (u + 1) * q ≤ 2 * M * q := Nat.mul_le_mul_right q (by omega)
  rw [Nat.add_mul, Nat.one_mul, Nat.mul_assoc] at e3
  rw [e1]
  generalize M * M * q = A at *
  generalize M * q = B at *
  generalize u * q = U at *
  generalize (2 * M - 1) * 2 ^ j * ((2 * M - 1) * 2 ^ j) = C at *
  omega
/-- The root of a rounded square is the number. -/
theorem root_square (p P : Nat) (hp0 : 0 < p) (hp : p < 9218868437227405312) (hP : numP (V p * V p) (-2148) = P) (hPi : P < 9218868437227405312) (hf : flagP (V p * V p) (-2148) = 0 ∨ flagP (V p * V p) (-2148) = 1) : rootN (V P) = p := by
  have hv := V_pos p hp0
  have hX := Nat.mul_pos hv hv
  have hpat : patP (V p * V p) (-2148) = P := by unfold numP at hP; omega
  have hs := s437_is
  have hu := uu_is
  cases hl : lostP (V p * V p) (-2148)
  · obtain ⟨i, j, hij, hd⟩ := told_any _ _ hX hl
    rw [hpat, show j = uu + i by omega, Nat.pow_add, ← Nat.mul_assoc] at hij
    have e := Nat.eq_of_mul_eq_mul_right (Nat.two_pow_pos i) hij
    have hVP : 0 < V P := by
      rcases Nat.eq_zero_or_pos (V P) with h | h
      · rw [h, Nat.zero_mul] at e; omega
      · exact h
    rw [root_with (V P) s437 hVP, lift_437, e, isq_sq', show decide (V p * V p ≠ V p * V p) = false by simp, numM_false, show (-637 : Int) - (s437 : Int) = -1074 by omega]
    exact (num_V p hp).1
  · have hsm : smallP (V p * V p) (-2148) = false := by
      cases h : smallP (V p * V p) (-2148)
      · rfl
      · exfalso
        unfold flagP at hf
        rw [if_neg (by omega), hl, h, if_pos ⟨by omega, rfl⟩, if_pos rfl] at hf
        omega
    obtain ⟨M, j, hpf, hVf, hM2, hMj⟩ := V_form p
    have hXf : V p * V p = M * M * 2 ^ (j + j) := by rw [hVf, Nat.pow_add]; grind
    have hM0 : 0 < M := by
      rcases Nat.eq_zero_or_pos M with h | h
      · rw [h, Nat.zero_mul] at hVf; omega
      · exact h
    have hlen := len_scale (M * M) (j + j) (Nat.mul_pos hM0 hM0)
    rw [← hXf] at hlen
    have hlm : (bl (M * M)).length ≤ 106 := by
      rw [bl_length_le, show 106 = 53 + 53 from rfl, Nat.pow_add]
      exact Nat.mul_lt_mul'' hM2 hM2
    unfold smallP at hsm
    rw [decide_eq_false_iff_not] at hsm
    have hM1 : 4503599627370496 ≤ M := by omega
    obtain ⟨c, hc⟩ : ∃ c : Nat, (bl (M * M)).length = c + 53 := ⟨(bl (M * M)).length - 53, by
      have : 103 < (bl (M * M)).length := by
        rw [bl_length_lt, show (2 : Nat) ^ 103 = 10141204801825835211973625643008 by decide]
        have := Nat.mul_le_mul hM1 hM1
        omega
      omega⟩
    have hlast : lastP (V p * V p) (-2148) = -2148 + ((c + (j + j) : Nat) : Int) := by unfold lastP; rw [hlen, hc]; omega
    have h1074 : uu ≤ c + (j + j) := by
      rw [hlen, hc] at hsm
      omega
    have hkept : keptP (V p * V p) (-2148) = rne (V p * V p) (c + (j + j)) := by
      unfold keptP rneI
      rw [hlast]
      rw [show -2148 + ((c + (j + j) : Nat) : Int) - -2148 = ((c + (j + j) : Nat) : Int) by omega]
      by_cases h : 0 < ((c + (j + j) : Nat) : Int)
      · rw [if_pos h, Int.toNat_natCast]
      · have hz : c + (j + j) = 0 := by omega
        rw [if_neg h, hz, rne_zero]
        simp
    have hMne : M ≠ 4503599627370496 := by
      intro h
      rw [h] at hc hXf
      have : c = 52 := by
        have a1 : (bl (4503599627370496 * 4503599627370496)).length ≤ 105 := (bl_length_le _ 105).2 (by decide)
        have a2 : 104 < (bl (4503599627370496 * 4503599627370496)).length := (bl_length_lt _ 104).2 (by decide)
        omega
      unfold lostP lostI at hl
      rw [decide_eq_true_eq, hlast, this, show (-2148 + ((52 + (j + j) : Nat) : Int) - -2148).toNat = 52 + (j + j) by omega, hXf, show 2 ^ (52 + (j + j)) = 4503599627370496 * 2 ^ (j + j) from Nat.pow_add _ _ _] at hl
      apply hl.2
      rw [Nat.mul_mod_mul_right, Nat.mul_mod_right, Nat.zero_mul]
    have hk1 := keptP_le (V p * V p) (-2148)
    have hk2 : 4503599627370496 ≤ keptP (V p * V p) (-2148) ∨ c + (j + j) - 1074 = 0 := by
      by_cases h : -1074 < lastP (V p * V p) (-2148)
      · exact Or.inl (keptP_ge _ _ hX h)
      · right; omega
    have hVP : V P = keptP (V p * V p) (-2148) * 2 ^ (c + (j + j) - 1074) := by
      rw [← hpat]
      unfold patP
      rw [if_neg (by omega), hlast, show (-2148 + ((c + (j + j) : Nat) : Int) + 1074).toNat = c + (j + j) - 1074 by omega]
      exact V_split _ _ hk1 hk2
    have hY : V P * 2 ^ uu = rne (V p * V p) (c + (j + j)) * 2 ^ (c + (j + j)) := by
      rw [hVP, hkept, show c + (j + j) - 1074 = c + (j + j) - uu from rfl]
      exact pow_join _ _ _ h1074
    obtain ⟨n1, n2⟩ := rne_near (V p * V p) (c + (j + j))
    rw [← hY] at n1 n2
    rw [hXf] at n1 n2
    have hu2 : 2 ^ c ≤ 9007199254740992 := by
      have : 2 ^ c ≤ 2 ^ 53 := Nat.pow_le_pow_right (by decide) (by omega)
      exact this
    rw [show 2 ^ (c + (j + j)) = 2 ^ c * 2 ^ (j + j) from Nat.pow_add _ _ _] at n1 n2
    obtain ⟨b1, b2⟩ := sq_around M j (V P * 2 ^ uu) (2 ^ c) (2 ^ (j + j)) (Nat.pow_add _ _ _) (by omega) hu2 n1 n2
    have hVP0 : 0 < V P := by
      rcases Nat.eq_zero_or_pos (V P) with h | h
      · rw [h, Nat.zero_mul] at b1; omega
      · exact h
    rw [root_with (V P) (s437 + 1) hVP0, lift_438, show (-637 : Int) - ((s437 + 1 : Nat) : Int) = -1075 by omega, root_mid M j _ (by omega) hM2 b1 b2, ← hpf]
    exact Nat.min_eq_left (Nat.le_of_lt hp)
end Go.Proofs.Ytokgfeeaoioegaa
