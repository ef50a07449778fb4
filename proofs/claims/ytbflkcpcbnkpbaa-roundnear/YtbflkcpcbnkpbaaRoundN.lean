/-
  What the helpers of the law RoundNear return: a pattern's number times 2^1200 as a list of bits; how far a list is from the one that was kept. And the mathematics of the nearest.
-/
import Derived.Test.YtbflkcpcbnkpbaaRoundL
import Derived.Test.YtbflkcpcbnkpbaaPartM
namespace Go.Proofs.Ytbflkcpcbnkpbaa
open Go.RowKit
set_option linter.unusedVariables false

def far (a x : Nat) : Nat := if a < x then x - a else a - x
theorem at_V (b : Int) (hf : mag b < 9218868437227405312) : 2 ^ (wPow b + 1200).toNat * (wMant b).toNat = V (mag b) * 2 ^ 126 := by
  obtain ⟨p1, p2, p3, p4⟩ := parts_bd b
  rw [parts_V b hf, Nat.mul_assoc, ← Nat.pow_add, Nat.mul_comm, show (wPow b + 1074).toNat + 126 = (wPow b + 1200).toNat by omega]
theorem nAt (b : Int) (w : World) (h0 : 0 ≤ b) (h1 : b < 18446744073709551616) (hf : mag b < 9218868437227405312) :
    Calls Try.prog 29 #[.int .u64 b] w fun e w' => ∃ v, e = .returned v ∧ Own w' w.heap.size v (bl (V (mag b) * 2 ^ 126)) ∧ Below w.heap.size w w' := by
  obtain ⟨p1, p2, p3, p4⟩ := parts_bd b
  have A : Hid (_ = _) := at_V b hf
  have hl : (bl (wMant b).toNat).length ≤ 53 := (bl_length_le _ 53).2 (by omega)
  go_enter Try.func29, Try.ntmps29
  go_wp2_with fail
  refine (parts_any _ _ h0 h1).mono ?_
  rintro e w1 ⟨rfl, rfl⟩
  go_wp2_with fail
  refine (rOf _ _ p1 (by omega)).mono ?_
  rintro e w2 ⟨v2, rfl, own2, hb2⟩
  go_wp2_with fail
  refine (rUp _ _ _ _ own2.sees (bl_bin _) (by omega) (by omega)).mono ?_
  rintro e w3 ⟨v3, rfl, own3, hb3⟩
  rw [val_bl, A.out] at own3
  have OW : Hid (Own _ _ _ _) := own3
  clear own2 own3
  go_wp2
  go_ret
  exact ⟨_, rfl, OW.out.base hb2.size, bstep hb2 hb3⟩
theorem nFar (k : Nat) (v u : Value) (a x : Nat) (w : World) (hv : Sees w v (bl a)) (hu : Sees w u (bl x)) (la : (bl a).length ≤ 100000) (lx : (bl x).length ≤ 100000) (c : w.cell? ⟨k, 0, none⟩ = some u) (hk : k < w.heap.size) :
    Calls Try.prog 31 #[v, .pointer (some ⟨k, 0, none⟩)] w fun e w' => ∃ r, e = .returned r ∧ Own w' w.heap.size r (bl (far a x)) ∧ Below w.heap.size w w' := by
  obtain ⟨b1, o1, c1, rfl, hb1, hc1, hm1, hcell1⟩ := hu
  have hu : Sees w (.slice (some ⟨b1, o1, none⟩) (bl x).length c1) (bl x) := ⟨b1, o1, c1, rfl, hb1, hc1, hm1, hcell1⟩
  have HU : Hid (Sees _ _ _) := hu
  have HV : Hid (Sees _ _ _) := hv
  clear hu hv hcell1
  by_cases hlt : a < x
  · have hc : cmpI a x = -1 := by unfold cmpI; rw [if_pos hlt]
    have F : Hid (far a x = x - a) := by show _ = _; unfold far; rw [if_pos hlt]
    have LE : Hid (a ≤ x) := Nat.le_of_lt hlt
    clear hlt
    have HC : Hid (_ = _) := hc
    clear hc
    go_enter Try.func31, Try.ntmps31
    go_wp2_with fail
    refine (rCmp _ _ _ _ _ HV.out HU.out (bl_bin _) (bl_bin _) la lx).mono ?_
    rintro e w2 ⟨rfl, hb2⟩
    rw [val_bl, val_bl, HC.out]
    have c2 := cell_later hb2 c
    go_wp2_with fail
    refine (rSub _ _ _ _ _ (HU.out.below hb2) (HV.out.below hb2) (bl_bin _) (bl_bin _) lx la (by rw [val_bl, val_bl]; exact LE.out)).mono ?_
    rintro e w3 ⟨v3, rfl, own3, hb3⟩
    rw [val_bl, val_bl, ← F.out] at own3
    have OW : Hid (Own _ _ _ _) := own3
    clear own3
    go_wp2
    go_ret
    exact ⟨_, rfl, OW.out.base hb2.size, bstep hb2 hb3⟩
  · have hc : ¬ cmpI a x < 0 := by unfold cmpI; rw [if_neg hlt]; split <;> omega
    have F : Hid (far a x = a - x) := by show _ = _; unfold far; rw [if_neg hlt]
    have LE : Hid (x ≤ a) := Nat.le_of_not_lt hlt
    clear hlt
    obtain ⟨q, hq⟩ : ∃ q, cmpI a x = q := ⟨_, rfl⟩
    rw [hq] at hc
    have HC : Hid (_ = _) := hq
    clear hq
    go_enter Try.func31, Try.ntmps31
    go_wp2_with fail
    refine (rCmp _ _ _ _ _ HV.out HU.out (bl_bin _) (bl_bin _) la lx).mono ?_
    rintro e w2 ⟨rfl, hb2⟩
    rw [val_bl, val_bl, HC.out]
    have c2 := cell_later hb2 c
    go_wp2_with fail
    refine (rSub _ _ _ _ _ (HV.out.below hb2) (HU.out.below hb2) (bl_bin _) (bl_bin _) la lx (by rw [val_bl, val_bl]; exact LE.out)).mono ?_
    rintro e w3 ⟨v3, rfl, own3, hb3⟩
    rw [val_bl, val_bl, ← F.out] at own3
    have OW : Hid (Own _ _ _ _) := own3
    clear own3
    go_wp2
    go_ret
    exact ⟨_, rfl, OW.out.base hb2.size, bstep hb2 hb3⟩
theorem far_scale (a x k : Nat) : far (a * 2 ^ k) (x * 2 ^ k) = far a x * 2 ^ k := by
  have hp := Nat.two_pow_pos k
  unfold far
  by_cases h : a < x
  · rw [if_pos h, if_pos (Nat.mul_lt_mul_of_pos_right h hp), Nat.sub_mul]
  · rw [if_neg h, if_neg (fun g => h (Nat.lt_of_mul_lt_mul_right g)), Nat.sub_mul]
theorem V_len126 (p : Nat) (hp : p < 9218868437227405312) : (bl (V p * 2 ^ 126)).length ≤ 2300 := by
  obtain ⟨k, d, e, hv, hk, hd⟩ := V_form p
  rw [hv]
  rcases Nat.eq_zero_or_pos k with h | h
  · rw [h, Nat.zero_mul, Nat.zero_mul, bl_zero]; simp
  · rw [len_scale _ _ (Nat.mul_pos h (Nat.two_pow_pos d)), len_scale _ _ h]
    have := (bl_length_le k 53).2 (by omega)
    omega
theorem far_le (a x n : Nat) (h1 : (bl a).length ≤ n) (h2 : (bl x).length ≤ n) : (bl (far a x)).length ≤ n := by
  unfold far
  split
  · exact Nat.le_trans (len_mono _ _ (Nat.sub_le _ _)) h2
  · exact Nat.le_trans (len_mono _ _ (Nat.sub_le _ _)) h1
theorem cmp_le0 (a b : Nat) (h : a ≤ b) : cmpI a b ≤ 0 := by
  unfold cmpI
  repeat' split
  all_goals omega
/-- The nearest: no nearer to the next, nor to the one before; and just told, if no flag is up. -/
theorem near_far (x : Nat) (hx : 0 < x) (h : patP x (-1074) < 9218868437227405311) (hp : 0 < patP x (-1074)) :
    far (V (patP x (-1074))) x ≤ far (V (patP x (-1074) + 1)) x ∧ far (V (patP x (-1074))) x ≤ far (V (patP x (-1074) - 1)) x ∧ (far (V (patP x (-1074))) x = 0 ↔ flagP x (-1074) = 0) := by
  obtain ⟨n1, n2⟩ := near_all x _ hx rfl
  have n3 := n2 hp
  have l1 := V_lt (patP x (-1074)) (patP x (-1074) + 1) (by omega)
  have l2 := V_lt (patP x (-1074) - 1) (patP x (-1074)) (by omega)
  refine ⟨?_, ?_, ?_⟩
  · unfold far; split <;> split <;> omega
  · unfold far; split <;> split <;> omega
  · have hfl : flagP x (-1074) = 0 ↔ lostP x (-1074) = false := by
      unfold flagP
      rw [if_neg (by omega)]
      by_cases hl : lostP x (-1074) = true
      · rw [if_pos ⟨by omega, hl⟩, hl]
        split <;> simp
      · have hl2 : lostP x (-1074) = false := by simpa using hl
        rw [hl2, if_neg (by simp)]
        simp
    rw [hfl]
    constructor
    · intro hz
      have he : V (patP x (-1074)) = x := by unfold far at hz; split at hz <;> omega
      rcases lostP_V (patP x (-1074)) with g | g
      · rw [he] at g; exact g
      · omega
    · intro hl
      have := V_exact x hl
      unfold far
      rw [this]
      simp
end Go.Proofs.Ytbflkcpcbnkpbaa
