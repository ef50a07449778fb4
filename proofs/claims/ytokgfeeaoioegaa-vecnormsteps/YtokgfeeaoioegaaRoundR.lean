/-
  What the program's way of rounding comes to (plain mathematics, no program in sight): a whole number shifted down by n bits, to the nearest, half to even, with a little more; and that it is the rounding of RoundM at 202 bits more.
-/
import Derived.Test.YtokgfeeaoioegaaRoundS
namespace Go.Proofs.Ytokgfeeaoioegaa
set_option linter.unusedVariables false

def kk : Nat := 202
theorem kk_is : kk = 202 := rfl
theorem one_kk : 1 < 2 ^ kk := by decide +kernel
/-- What is rounded to, and the flags; a little more is told 202 bits beneath. -/
def numR (x : Nat) (e : Int) (more : Bool) : Nat := if x = 0 then 0 else numP (x * 2 ^ kk + more.toNat) (e - (kk : Nat))
def flagR (x : Nat) (e : Int) (more : Bool) : Nat := if x = 0 then (if more then 3 else 0) else flagP (x * 2 ^ kk + more.toNat) (e - (kk : Nat))
theorem numR_ref (x : Nat) (e : Int) (more : Bool) (hx : x ≠ 0) : numR x e more = numM (x * 2 ^ 200) (e - 200) more ∧ flagR x e more = flagM (x * 2 ^ 200) (e - 200) more := by
  unfold numR flagR numM flagM
  rw [if_neg hx, if_neg hx, Nat.mul_assoc, ← Nat.pow_add, show e - 200 - ((2 : Nat) : Int) = e - ((kk : Nat) : Int) by rw [kk_is]; omega, show 200 + 2 = kk from rfl]
  exact ⟨rfl, rfl⟩
theorem numR_false (x : Nat) (e : Int) : numR x e false = numP x e ∧ flagR x e false = flagP x e := by
  unfold numR flagR
  by_cases hx : x = 0
  · subst hx
    rw [if_pos rfl, if_pos rfl]
    unfold numP flagP patP
    simp
  · rw [if_neg hx, if_neg hx, Bool.toNat_false, Nat.add_zero, numP_scale, flagP_scale, Int.sub_add_cancel]
    exact ⟨rfl, rfl⟩
/-- Where at least one bit falls out, a little more may be told at any place beneath. -/
theorem numR_more (x : Nat) (e : Int) (more : Bool) (hx : 0 < x) (hd : e < lastP x e) : numR x e more = numM x e more ∧ flagR x e more = flagM x e more := by
  cases more
  · rw [(numR_false x e).1, (numR_false x e).2, numM_false, flagM_false]
    exact ⟨rfl, rfl⟩
  · unfold numR flagR numM flagM numP
    rw [if_neg (by omega), if_neg (by omega), Bool.toNat_true, sticky_all x 1 kk 1 2 e hx hd (by omega) one_kk (by omega) (by decide), sticky_flag x 1 kk 1 2 e hx hd (by omega) one_kk (by omega) (by decide)]
    exact ⟨rfl, rfl⟩
/-- The nearest whole number to x by 2^n, as the program finds it. -/
def nearN (x : Nat) (n : Int) (more : Bool) : Nat :=
  if n ≤ 0 then x * 2 ^ (-n).toNat
  else x / 2 ^ n.toNat + (if x / 2 ^ (n.toNat - 1) % 2 = 1 ∧ (x % 2 ^ (n.toNat - 1) ≠ 0 ∨ more = true ∨ x / 2 ^ n.toNat % 2 = 1) then 1 else 0)
def inexN (x : Nat) (n : Int) (more : Bool) : Bool :=
  if n ≤ 0 then more else decide (x / 2 ^ (n.toNat - 1) % 2 = 1 ∨ x % 2 ^ (n.toNat - 1) ≠ 0 ∨ more = true)
theorem bit_split (x c : Nat) : x / 2 ^ (c + 1) = x / 2 ^ c / 2 ∧ x % 2 ^ (c + 1) = x % 2 ^ c + 2 ^ c * (x / 2 ^ c % 2) := by
  refine ⟨?_, ?_⟩
  · rw [Nat.pow_succ, Nat.div_div_eq_div_mul]
  · rw [Nat.pow_succ, Nat.mod_mul]
theorem hk0 : (kk : Int) = 202 := rfl
theorem near_rne (x : Nat) (n : Int) (more : Bool) (hn : -200 < n) : nearN x n more = rne (x * 2 ^ kk + more.toNat) (n + kk).toNat := by
  have hkk := hk0
  unfold nearN
  by_cases h : n ≤ 0
  · rw [if_pos h]
    obtain ⟨m, hm⟩ : ∃ m, (n + kk).toNat = m + 2 := ⟨(n + kk).toNat - 2, by omega⟩
    have e : x * 2 ^ kk = x * 2 ^ (-n).toNat * 2 ^ (m + 2) := by
      rw [Nat.mul_assoc, ← Nat.pow_add]
      congr 2
      omega
    rw [e, hm]
    have hp := Nat.two_pow_pos m
    have h4 : 2 ^ (m + 2) = 4 * 2 ^ m := by rw [Nat.pow_add]; omega
    have ht : more.toNat ≤ 1 := Bool.toNat_le more
    generalize x * 2 ^ (-n).toNat = z
    unfold rne
    have hlt : more.toNat < 2 ^ (m + 2) := by omega
    rw [show z * 2 ^ (m + 2) + more.toNat = more.toNat + 2 ^ (m + 2) * z by rw [Nat.mul_comm]; omega, Nat.add_mul_mod_self_left, Nat.mod_eq_of_lt hlt, Nat.add_mul_div_left _ _ (by omega), Nat.div_eq_of_lt hlt, if_neg (by omega), Nat.zero_add]
  · rw [if_neg h]
    obtain ⟨c, hc⟩ : ∃ c, n.toNat = c + 1 := ⟨n.toNat - 1, by omega⟩
    rw [show (n + kk).toNat = n.toNat + kk by omega, hc, Nat.add_sub_cancel]
    obtain ⟨b1, b2⟩ := bit_split x c
    have hp := Nat.two_pow_pos c
    have hm := Nat.mod_lt x hp
    have hc2 : 2 ^ (c + 1) = 2 * 2 ^ c := by rw [Nat.pow_succ, Nat.mul_comm]
    have hbit : x / 2 ^ c % 2 = 0 ∨ x / 2 ^ c % 2 = 1 := by omega
    cases more
    · rw [show (false : Bool).toNat = 0 from rfl, Nat.add_zero (x * 2 ^ kk), rne_scale]
      unfold rne
      rw [b2]
      generalize x / 2 ^ (c + 1) = q at *
      generalize x % 2 ^ c = r at *
      rw [hc2]
      rcases hbit with hb | hb
      · rw [hb, if_neg (by omega), if_neg (by omega), Nat.add_zero]
      · rw [hb]
        by_cases g : r ≠ 0 ∨ false = true ∨ q % 2 = 1
        · rw [if_pos ⟨rfl, g⟩, if_pos ?_]
          rcases g with g | g | g
          · left; omega
          · cases g
          · by_cases g2 : r = 0
            · right; omega
            · left; omega
        · rw [if_neg (fun k => g k.2), if_neg ?_, Nat.add_zero]
          intro k
          apply g
          rcases k with k | k
          · left; omega
          · right; right; exact k.2
    · rw [Bool.toNat_true, rne_sticky x 1 (c + 1) kk (by omega) (by omega) one_kk, b2, hc2]
      rcases hbit with hb | hb
      · rw [hb, if_neg (by omega), if_neg (by omega)]
      · rw [hb, if_pos ⟨rfl, Or.inr (Or.inl rfl)⟩, if_pos (by omega)]
theorem inex_lost (x : Nat) (n : Int) (more : Bool) (hn : -200 < n) : inexN x n more = lostI (x * 2 ^ kk + more.toNat) (n + kk) := by
  have hkk := hk0
  unfold inexN lostI
  by_cases h : n ≤ 0
  · rw [if_pos h]
    obtain ⟨m, hm⟩ : ∃ m, (n + kk).toNat = m + 2 := ⟨(n + kk).toNat - 2, by omega⟩
    have e : x * 2 ^ kk = 2 ^ (m + 2) * (x * 2 ^ (-n).toNat) := by
      rw [Nat.mul_comm (2 ^ (m + 2)), Nat.mul_assoc, ← Nat.pow_add]
      congr 2
      omega
    have hp := Nat.two_pow_pos m
    have h4 : 2 ^ (m + 2) = 4 * 2 ^ m := by rw [Nat.pow_add]; omega
    have ht : more.toNat ≤ 1 := Bool.toNat_le more
    have hlt : more.toNat < 2 ^ (m + 2) := by omega
    rw [hm, e, Nat.add_comm, Nat.add_mul_mod_self_left, Nat.mod_eq_of_lt hlt]
    cases more <;> simp <;> omega
  · rw [if_neg h]
    obtain ⟨c, hc⟩ : ∃ c, n.toNat = c + 1 := ⟨n.toNat - 1, by omega⟩
    rw [show (n + kk).toNat = kk + n.toNat by omega, hc, Nat.add_sub_cancel, decide_eq_decide]
    obtain ⟨b1, b2⟩ := bit_split x c
    have hp := Nat.two_pow_pos c
    have hbit : x / 2 ^ c % 2 = 0 ∨ x / 2 ^ c % 2 = 1 := by omega
    have key : (x * 2 ^ kk + more.toNat) % 2 ^ (kk + (c + 1)) = more.toNat + 2 ^ kk * (x % 2 ^ (c + 1)) := by
      have ht : more.toNat < 2 ^ kk := Nat.lt_of_le_of_lt (Bool.toNat_le more) one_kk
      rw [Nat.add_comm (x * 2 ^ kk), Nat.mul_comm x, Nat.pow_add, Nat.mod_mul, Nat.add_mul_mod_self_left, Nat.mod_eq_of_lt ht, Nat.add_mul_div_left _ _ (Nat.two_pow_pos _), Nat.div_eq_of_lt ht, Nat.zero_add]
    rw [key, b2]
    have hbig := Nat.two_pow_pos kk
    generalize x % 2 ^ c = r at *
    constructor
    · intro g
      refine ⟨by omega, ?_⟩
      rcases g with g | g | g
      · rw [g]
        have : 0 < 2 ^ kk * (r + 2 ^ c * 1) := Nat.mul_pos hbig (by omega)
        omega
      · have : 0 < 2 ^ kk * (r + 2 ^ c * (x / 2 ^ c % 2)) := Nat.mul_pos hbig (by omega)
        omega
      · rw [g, Bool.toNat_true]; omega
    · intro g
      rcases hbit with hb | hb
      · by_cases hr : r = 0
        · right; right
          cases more
          · exfalso
            apply g.2
            rw [hr, hb]
            simp
          · rfl
        · right; left; exact hr
      · left; exact hb
/-- What Round keeps, where its last bit stands, and what is lost, all of x and e alone. -/
theorem round_parts (x : Nat) (e : Int) (more : Bool) (hx : 0 < x) :
    lastP (x * 2 ^ kk + more.toNat) (e - (kk : Nat)) = lastP x e ∧ keptP (x * 2 ^ kk + more.toNat) (e - (kk : Nat)) = nearN x (lastP x e - e) more
    ∧ lostP (x * 2 ^ kk + more.toNat) (e - (kk : Nat)) = inexN x (lastP x e - e) more ∧ smallP (x * 2 ^ kk + more.toNat) (e - (kk : Nat)) = decide (e + ((bl x).length : Int) ≤ -1022) := by
  have ht : more.toNat < 2 ^ kk := Nat.lt_of_le_of_lt (Bool.toNat_le more) one_kk
  have hl := len_sticky x more.toNat kk hx ht
  have h0 : 0 < (bl x).length := (bl_length_lt x 0).2 (by rw [Nat.pow_zero]; exact hx)
  have hL : lastP (x * 2 ^ kk + more.toNat) (e - (kk : Nat)) = lastP x e := by
    unfold lastP
    rw [hl]
    push_cast
    omega
  have hkk := hk0
  have hn : -200 < lastP x e - e := by unfold lastP; omega
  refine ⟨hL, ?_, ?_, ?_⟩
  · unfold keptP rneI
    rw [hL, if_pos (by omega), near_rne x _ more hn, show lastP x e - (e - ((kk : Nat) : Int)) = lastP x e - e + kk by omega]
  · unfold lostP
    rw [hL, inex_lost x _ more hn, show lastP x e - (e - ((kk : Nat) : Int)) = lastP x e - e + kk by omega]
  · unfold smallP
    rw [hl, decide_eq_decide]
    push_cast
    omega
theorem round_num (x : Nat) (e : Int) (more : Bool) (hx : 0 < x) :
    numR x e more = min (nearN x (lastP x e - e) more + (lastP x e + 1074).toNat * 4503599627370496) 9218868437227405312
    ∧ flagR x e more = (if 9218868437227405312 ≤ nearN x (lastP x e - e) more + (lastP x e + 1074).toNat * 4503599627370496 then 5 else if inexN x (lastP x e - e) more then (if e + ((bl x).length : Int) ≤ -1022 then 3 else 1) else 0) := by
  obtain ⟨a, b, c, d⟩ := round_parts x e more hx
  have hne : x * 2 ^ kk + more.toNat ≠ 0 := by
    have : 0 < x * 2 ^ kk := Nat.mul_pos hx (Nat.two_pow_pos kk)
    omega
  unfold numR flagR numP flagP patP
  rw [if_neg (by omega : ¬ x = 0), if_neg (by omega : ¬ x = 0), if_neg hne, a, b, c, d]
  refine ⟨rfl, ?_⟩
  simp only [ne_eq, hne, not_false_eq_true, true_and, decide_eq_true_eq]
theorem near_bd (x : Nat) (e : Int) (more : Bool) (hx : 0 < x) : nearN x (lastP x e - e) more ≤ 9007199254740992 ∧ (4503599627370496 ≤ nearN x (lastP x e - e) more ∨ lastP x e = -1074) := by
  obtain ⟨a, b, c, d⟩ := round_parts x e more hx
  rw [← b]
  refine ⟨keptP_le _ _, ?_⟩
  have hlm : -1074 ≤ lastP x e := by unfold lastP; omega
  by_cases h : lastP x e = -1074
  · exact Or.inr h
  · left
    refine keptP_ge _ _ ?_ (by rw [a]; omega)
    have : 0 < x * 2 ^ kk := Nat.mul_pos hx (Nat.two_pow_pos kk)
    omega
end Go.Proofs.Ytokgfeeaoioegaa
