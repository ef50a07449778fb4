/-
  The highest bits of a number, and whether there is more: the mathematics. No conditions.
-/
import Derived.Test.YtgpgmnmifhkmbaaDyadM
import Derived.Test.YtgpgmnmifhkmbaaNumM
import Derived.Test.YtgpgmnmifhkmbaaSoftM
import Derived.Test.YtgpgmnmifhkmbaaWideM
import Derived.Test.YtgpgmnmifhkmbaaShiftM
namespace Go.Proofs.Ytgpgmnmifhkmbaa
set_option linter.unusedVariables false

theorem lead_math (N P Q S U W T R : Nat) (hP : 0 < P) (hQ : 0 < Q) (hS : 0 < S) (hU : 0 < U) (hSU : S * U = P) (h : N * (P * P * P) = (W * P + T) * Q + R) (hR : R < Q) :
    N * (P * P * S) / Q = W * S + T / U ∧ (N * (P * P * S) % Q ≠ 0 ↔ (T % U ≠ 0 ∨ R ≠ 0)) := by
  have hT := Nat.div_add_mod T U
  have ht := Nat.mod_lt T hU
  generalize T / U = q at *
  generalize T % U = t at *
  have e : N * (P * P * S) * P = (W * S + q) * (P * Q) + (t * S * Q + R * S) := by
    have e1 : N * (P * P * S) * P = N * (P * P * P) * S := by grind
    rw [e1, h, ← hT, ← hSU]
    grind
  have hE : t * S * Q + R * S < P * Q := by
    have a : (t + 1) * (S * Q) ≤ U * (S * Q) := Nat.mul_le_mul_right _ ht
    have b : R * S < Q * S := Nat.mul_lt_mul_of_pos_right hR hS
    have c : U * (S * Q) = P * Q := by rw [← hSU]; grind
    have d : (t + 1) * (S * Q) = t * S * Q + Q * S := by grind
    omega
  generalize N * (P * P * S) = A at *
  generalize W * S + q = D at *
  generalize hG : t * S * Q + R * S = G at *
  have h1 : D * Q ≤ A := by
    refine Nat.le_of_mul_le_mul_right (c := P) ?_ hP
    have : D * Q * P = D * (P * Q) := by grind
    omega
  have h2 : A < (D + 1) * Q := by
    refine Nat.lt_of_mul_lt_mul_right (a := P) ?_
    have : (D + 1) * Q * P = D * (P * Q) + P * Q := by grind
    omega
  have hdiv : A / Q = D := by
    refine Nat.div_eq_of_lt_le ?_ ?_
    · exact h1
    · exact h2
  refine ⟨hdiv, ?_⟩
  have hm := Nat.div_add_mod A Q
  rw [hdiv] at hm
  have hGz : A % Q = 0 ↔ G = 0 := by
    generalize A % Q = r at *
    have e2 : r * P = G := by
      have : A * P = D * (P * Q) + r * P := by rw [← hm]; grind
      omega
    constructor
    · intro h; rw [← e2, h, Nat.zero_mul]
    · intro h
      rw [h] at e2
      rcases Nat.mul_eq_zero.1 e2 with h | h
      · exact h
      · omega
  have hz : G = 0 ↔ (t = 0 ∧ R = 0) := by
    rw [← hG]
    constructor
    · intro h
      have a : t * S * Q = 0 := by omega
      have b : R * S = 0 := by omega
      constructor
      · rcases Nat.mul_eq_zero.1 a with a | a
        · rcases Nat.mul_eq_zero.1 a with a | a <;> omega
        · omega
      · rcases Nat.mul_eq_zero.1 b with b | b <;> omega
    · rintro ⟨rfl, rfl⟩; simp
  constructor
  · intro h
    rcases Nat.eq_zero_or_pos t with a | a
    · right; intro b; exact h (hGz.2 (hz.2 ⟨a, b⟩))
    · left; omega
  · intro h g
    have := hz.1 (hGz.1 g)
    omega
/-- A word from the top. -/
def topW (ws : List Int) (j : Nat) : Int := if (ws.length : Int) - j < 0 then 0 else ws[((ws.length : Int) - j).toNat]?.getD 0
theorem topW_in (ws : List Int) (h : InW ws) (j : Nat) : 0 ≤ topW ws j ∧ topW ws j < 18446744073709551616 := by
  unfold topW
  split
  · omega
  · exact h.get _
theorem top_get (ws : List Int) (j : Nat) (hj : j ≤ 3) (h1 : 1 ≤ j) : (List.replicate 3 (0 : Int) ++ ws)[ws.length + 3 - j]?.getD 0 = topW ws j := by
  unfold topW
  rw [List.getElem?_append, List.length_replicate]
  by_cases g : (ws.length : Int) - j < 0
  · rw [if_pos g, if_pos (by omega), List.getElem?_replicate, if_pos (by omega)]; rfl
  · rw [if_neg g, if_neg (by omega), show ws.length + 3 - j - 3 = ((ws.length : Int) - j).toNat by omega]
theorem top_split (ws : List Int) (h : InW ws) : ∃ R : Int, 0 ≤ R ∧ R < pw ws.length ∧ pw 3 * dv ws = R + pw ws.length * (topW ws 3 + 18446744073709551616 * (topW ws 2 + 18446744073709551616 * topW ws 1)) ∧ (ws.length ≤ 3 → R = 0) ∧ (3 < ws.length → ws[0]?.getD 0 ≠ 0 → R ≠ 0) := by
  have hI : InW (List.replicate 3 (0 : Int) ++ ws) := (InW.zeros 3).append h
  have hl : (List.replicate 3 (0 : Int) ++ ws).length = ws.length + 3 := by rw [List.length_append, List.length_replicate, Nat.add_comm]
  have e := dv_split (List.replicate 3 (0 : Int) ++ ws) ws.length (by omega)
  have e0 : dv (List.replicate 3 (0 : Int) ++ ws) = pw 3 * dv ws := by rw [dv_append, dv_zeros, List.length_replicate, Int.zero_add]
  have d3 : (List.replicate 3 (0 : Int) ++ ws).drop ws.length = [topW ws 3, topW ws 2, topW ws 1] := by
    rw [drop_cons_get _ _ (by omega), drop_cons_get _ _ (by omega), drop_cons_get _ _ (by omega), List.drop_of_length_le (by omega)]
    rw [← top_get ws 3 (by omega) (by omega), ← top_get ws 2 (by omega) (by omega), ← top_get ws 1 (by omega) (by omega)]
    congr 2
  refine ⟨dv ((List.replicate 3 (0 : Int) ++ ws).take ws.length), dv_nonneg (hI.take _), ?_, ?_, ?_, ?_⟩
  · have := dv_lt (hI.take ws.length)
    rw [List.length_take, Nat.min_eq_left (by omega)] at this
    exact this
  · rw [← e0, e, d3, dv_cons, dv_cons, dv_cons, dv_nil]
    grind
  · intro hn
    rw [List.take_append_of_le_length (by simp; omega), List.take_replicate]
    exact dv_zeros _
  · intro hn h0
    have g : ((List.replicate 3 (0 : Int) ++ ws).take ws.length)[3]?.getD 0 = ws[0]?.getD 0 := by
      rw [List.getElem?_take, if_pos hn, List.getElem?_append, List.length_replicate, if_neg (by omega)]
    have := dv_low _ (hI.take ws.length) 3 (by rw [List.length_take]; omega) (by rw [g]; exact h0)
    have := pw_pos 3
    omega
theorem pw_nat (k : Nat) : pw k = (((18446744073709551616 : Nat) ^ k : Nat) : Int) := by unfold pw; rw [Int.natCast_pow]; rfl
theorem p64 (k : Nat) : (18446744073709551616 : Nat) ^ k = 2 ^ (64 * k) := by rw [Nat.pow_mul]
theorem lead_all (ws : List Int) (h : Norm ws) (hn : ws ≠ []) (s : Nat) (hs : s ≤ 63) :
    (dv ws).toNat * 2 ^ (128 + s) / 2 ^ (64 * ws.length) = wid (topW ws 1) (topW ws 2) * 2 ^ s + (topW ws 3).toNat / 2 ^ (64 - s) ∧ ((dv ws).toNat * 2 ^ (128 + s) % 2 ^ (64 * ws.length) ≠ 0 ↔ ((topW ws 3).toNat % 2 ^ (64 - s) ≠ 0 ∨ 3 < ws.length)) := by
  obtain ⟨R, r0, r1, e, z1, z2⟩ := top_split ws h.1
  have t1 := topW_in ws h.1 1
  have t2 := topW_in ws h.1 2
  have t3 := topW_in ws h.1 3
  obtain ⟨A, hA⟩ := Int.eq_ofNat_of_zero_le t1.1
  obtain ⟨B, hB⟩ := Int.eq_ofNat_of_zero_le t2.1
  obtain ⟨T, hT⟩ := Int.eq_ofNat_of_zero_le t3.1
  obtain ⟨N, hN⟩ := Int.eq_ofNat_of_zero_le (dv_nonneg h.1)
  obtain ⟨r, rfl⟩ := Int.eq_ofNat_of_zero_le r0
  rw [hA, hB, hT, hN, pw_nat, pw_nat] at e
  rw [pw_nat] at r1
  rw [hA, hB, hT, hN, Int.toNat_natCast, Int.toNat_natCast, wid_nat]
  have e' : N * (18446744073709551616 * 18446744073709551616 * 18446744073709551616) = ((A * 18446744073709551616 + B) * 18446744073709551616 + T) * 18446744073709551616 ^ ws.length + r := by
    have : (18446744073709551616 : Nat) ^ 3 = 18446744073709551616 * 18446744073709551616 * 18446744073709551616 := by decide
    rw [← this]
    generalize (18446744073709551616 : Nat) ^ ws.length = Q at *
    generalize (18446744073709551616 : Nat) ^ 3 = C at *
    have : ((C * N : Nat) : Int) = ((r + Q * (T + 18446744073709551616 * (B + 18446744073709551616 * A)) : Nat) : Int) := by
      rw [Int.natCast_mul, e, Int.natCast_add, Int.natCast_mul, Int.natCast_add, Int.natCast_mul, Int.natCast_add, Int.natCast_mul]; rfl
    have := Int.ofNat.inj this
    grind
  have hr : r < 18446744073709551616 ^ ws.length := by omega
  have m := lead_math N 18446744073709551616 (18446744073709551616 ^ ws.length) (2 ^ s) (2 ^ (64 - s)) _ T r (by decide) (Nat.pow_pos (by decide)) (Nat.two_pow_pos _) (Nat.two_pow_pos _) (pow_split s (by omega)) e' hr
  rw [p64, show (18446744073709551616 : Nat) * 18446744073709551616 * 2 ^ s = 2 ^ (128 + s) by rw [Nat.pow_add]] at m
  refine ⟨m.1, m.2.trans ?_⟩
  have : (r ≠ 0 ↔ 3 < ws.length) := by
    constructor
    · intro g
      rcases Nat.lt_or_ge 3 ws.length with a | a
      · exact a
      · exact absurd (z1 a) (by omega)
    · intro g
      have := z2 g (h.2 hn).1
      omega
  rw [this]
theorem top_first (ws : List Int) (h : Norm ws) (hn : ws ≠ []) : 1 ≤ topW ws 1 := by
  have a := (topW_in ws h.1 1).1
  have : topW ws 1 ≠ 0 := by
    unfold topW
    have hl : 0 < ws.length := List.length_pos_iff.2 hn
    rw [if_neg (by omega), show ((ws.length : Int) - (1 : Nat)).toNat = ws.length - 1 by omega]
    exact (h.2 hn).2
  omega
/-- How far the highest words are moved up. -/
def evenS (L : Nat) : Nat := (128 - L) / 2 * 2
theorem lead_big (W L s : Nat) (hL : (bl W).length = L) (h1 : 65 ≤ L) (h2 : L ≤ 128) (hs : s = evenS L) : W * 2 ^ s < 2 ^ 128 ∧ 2 ^ 126 ≤ W * 2 ^ s ∧ s ≤ 63 := by
  unfold evenS at hs
  have a : W < 2 ^ L := (bl_length_le W L).1 (by omega)
  have b : 2 ^ (L - 1) ≤ W := (bl_length_lt W (L - 1)).1 (by omega)
  have p := Nat.two_pow_pos s
  refine ⟨?_, ?_, by omega⟩
  · have c := Nat.mul_lt_mul_of_pos_right a p
    rw [← Nat.pow_add] at c
    exact Nat.lt_of_lt_of_le c (Nat.pow_le_pow_right (by decide) (by omega))
  · have c := Nat.mul_le_mul_right (2 ^ s) b
    rw [← Nat.pow_add] at c
    exact Nat.le_trans (Nat.pow_le_pow_right (by decide) (by omega)) c
theorem shl_low (T s : Nat) (hs : s ≤ 63) : (T * 2 ^ s % 18446744073709551616 = 0) ↔ T % 2 ^ (64 - s) = 0 := by
  rw [← pow_split s (by omega), Nat.mul_comm T, Nat.mul_mod_mul_left]
  have := Nat.two_pow_pos s
  constructor
  · intro h
    rcases Nat.mul_eq_zero.1 h with h | h <;> omega
  · intro h; rw [h, Nat.mul_zero]
end Go.Proofs.Ytgpgmnmifhkmbaa
