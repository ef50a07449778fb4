/-
  What the reference's Sqrt of lists of bits returns: the root, rounded down.
-/
import Derived.Test.YteohkpiecidicaaMoreM
import Derived.Test.YteohkpiecidicaaRef02G
namespace Go.Proofs.Yteohkpiecidicaa
open Go.RowKit
set_option linter.unusedVariables false

theorem sq_start (N L : Nat) (h : N < 2 ^ L) : N < (0 + 2 ^ (L / 2 + 2)) * (0 + 2 ^ (L / 2 + 2)) := by
  rw [Nat.zero_add, ← Nat.pow_add]
  exact Nat.lt_of_lt_of_le h (Nat.pow_le_pow_right (by decide) (by omega))
theorem sq_len (R N L : Nat) (h : R * R ≤ N) (hN : N < 2 ^ L) : (bl R).length ≤ L := by
  rw [bl_length_le]
  rcases Nat.eq_zero_or_pos R with g | g
  · subst g; omega
  · have := Nat.mul_le_mul_right R g; omega
theorem sq_lenQ (Q n : Nat) (h : (bl Q).length ≤ n) : (bl (Q * Q)).length ≤ n + n := by
  rw [bl_length_le] at h ⊢
  rw [Nat.pow_add]
  exact Nat.mul_lt_mul'' h h
theorem cmp_le (m n : Nat) : (m ≤ n → cmpI m n ≤ 0) ∧ (n < m → 0 < cmpI m n) := by
  unfold cmpI
  refine ⟨fun h => ?_, fun h => ?_⟩
  · repeat' split
    all_goals omega
  · rw [if_neg (by omega)]; repeat' split
    all_goals omega
set_option maxHeartbeats 2000000 in
theorem r2Sqrt (v : Value) (xs : List Int) (w : World) (hs : Sees w v xs) (hx : Bin xs) (hl : xs.length ≤ 1000) :
    Calls Try.prog 60 #[v] w fun e w' => ∃ v', e = .returned v' ∧ Own w' w.heap.size v' (bl (isq (val xs))) ∧ Below w.heap.size w w' := by
  have HS : Hid (Sees w v xs) := hs
  have hN := val_lt xs hx
  obtain ⟨b, o, c, rfl, hb, hc, hm, hcell⟩ := hs
  obtain ⟨N, hNv⟩ : ∃ N, val xs = N := ⟨_, rfl⟩
  have HV : Hid (_ = _) := hNv
  rw [hNv] at hN
  rw [hNv]
  have HN : Hid (_ < _) := hN
  clear hcell hNv hN
  go_enter Try.func60, Try.ntmps60
  go_wp2
  go_loopw [3, 4] (fun rv i wr => ∃ (k R : Nat) (z : Int), z = (k : Int) - 1 ∧ k ≤ 600 ∧ i = .int .i64 z ∧ R * R ≤ N ∧ N < (R + 2 ^ k) * (R + 2 ^ k) ∧ Own wr w.heap.size rv (bl R) ∧ Below w.heap.size w wr) (fun _ i _ => (intOf i + 1).toNat)
  case atStart =>
    refine ⟨xs.length / 2 + 2, 0, _, rfl, by omega, ?_, by omega, sq_start _ _ HN.out, ?_, ?_⟩
    · refine int_eq ?_
      omega
    · rw [bl_zero]
      exact Own.new w _ (Nat.le_refl _)
    · exact (Below.refl _ _).alloc (Nat.le_refl _) _
  case round =>
    obtain ⟨k, R, z, hz, hk, rfl, hr1, hr2, hor, hbel⟩ := hrel
    have hbs := hbel.size
    have hrl := sq_len R N xs.length hr1 HN.out
    have R1 : Hid (_ ≤ _) := hr1
    have R2 : Hid (_ < _) := hr2
    clear hr1 hr2
    by_cases h0 : k = 0
    · obtain rfl : z = -1 := by omega
      clear hz
      subst h0
      go_wp2
      go_ret
      refine ⟨_, rfl, ?_, hbel⟩
      rw [isq_uniq N R R1.out R2.out]
      exact hor
    · obtain ⟨j, rfl⟩ : ∃ j, k = j + 1 := ⟨k - 1, by omega⟩
      obtain rfl : z = (j : Int) := by omega
      clear hz h0
      go_wp2_with fail
      refine (rUp _ [1] _ _ ((Own.one wr wr.heap.size 1 (Nat.le_refl _)).sees) (Bin.mk (Or.inr rfl) Bin.nil) (by simp) (by omega)).mono ?_
      rintro e w2 ⟨v2, rfl, own2, hb2⟩
      have e2 : 2 ^ (j : Int).toNat * val [1] = 2 ^ j := by rw [val_cons, val_nil, Int.toNat_natCast]; simp
      rw [e2] at own2
      have hb2' : Below wr.heap.size wr w2 := ((Below.refl _ _).alloc (Nat.le_refl _) _).trans (hb2.mono (by simp))
      have hor2 := hor.below hb2'
      have hbw2 : Below w.heap.size w w2 := hbel.trans (hb2'.mono hbs)
      have lj : (bl (2 ^ j)).length ≤ j + 1 := (bl_length_le _ _).2 (Nat.pow_lt_pow_right (by decide) (by omega))
      clear hb2 e2 hor hbel
      go_wp2_with fail
      refine (rAdd _ _ _ _ _ hor2.sees own2.sees (bl_bin _) (bl_bin _) (by omega) (by omega)).mono ?_
      rintro e w3 ⟨v3, rfl, own3, hb3⟩
      rw [val_bl, val_bl] at own3
      have hbs2 := hbw2.size
      have hor3 := hor2.below hb3
      have hbw3 : Below w.heap.size w w3 := hbw2.trans (hb3.mono hbs2)
      have ln : (bl (R + 2 ^ j)).length ≤ 2000 := by
        have := add_len R (2 ^ j) 1600 (by omega) (by omega)
        omega
      clear hb3 hbw2 hor2 own2
      obtain ⟨Q, hQ⟩ : ∃ Q, R + 2 ^ j = Q := ⟨_, rfl⟩
      rw [hQ] at own3 ln
      have HQ : Hid (_ = _) := hQ
      clear hQ
      go_wp2_with fail
      refine (rMul _ _ _ _ _ own3.sees own3.sees (bl_bin _) (bl_bin _) (by omega) (by omega)).mono ?_
      rintro e w4 ⟨v4, rfl, own4, hb4⟩
      rw [val_bl] at own4
      have hbs3 := hbw3.size
      have hor4 := hor3.below hb4
      have own34 := own3.below hb4
      have hbw4 : Below w.heap.size w w4 := hbw3.trans (hb4.mono hbs3)
      have lq := sq_lenQ Q 2000 ln
      have hsees := HS.out.below hbw4
      clear hb4 hbw3 hor3 own3
      go_wp2_with fail
      refine (rCmp _ _ _ _ _ own4.sees hsees (bl_bin _) hx (by omega) (by omega)).mono ?_
      rintro e w5 ⟨rfl, hb5⟩
      rw [val_bl, HV.out]
      have hbs4 := hbw4.size
      have hor5 := hor4.below hb5
      have own35 := own34.below hb5
      have hbw5 : Below w.heap.size w w5 := hbw4.trans (hb5.mono hbs4)
      obtain ⟨cl1, cl2⟩ := cmp_le (Q * Q) N
      clear hb5 hbw4 hor4 own4 own34 hsees lq
      obtain ⟨C, hC⟩ : ∃ C, cmpI (Q * Q) N = C := ⟨_, rfl⟩
      rw [hC] at cl1 cl2
      rw [hC]
      clear hC
      by_cases hle : Q * Q ≤ N
      · have hc0 := cl1 hle
        have A1 : Hid (_ ≤ _) := hle
        clear hle cl1 cl2
        go_wp2
        go_roundw
        case rel =>
          refine ⟨j, Q, _, rfl, by omega, by go_num, A1.out, ?_, own35.base (by omega), hbw5⟩
          have := R2.out
          rw [← HQ.out]
          rw [Nat.pow_succ] at this
          rw [show R + 2 ^ j + 2 ^ j = R + 2 ^ j * 2 by omega]
          exact this
        case measure => simp [intOf]
      · have hc0 := cl2 (by omega)
        have A1 : Hid (N < Q * Q) := by show _ < _; omega
        clear hle cl1 cl2
        go_wp2
        go_roundw
        case rel =>
          refine ⟨j, R, _, rfl, by omega, by go_num, R1.out, ?_, hor5, hbw5⟩
          rw [HQ.out]
          exact A1.out
        case measure => simp [intOf]
end Go.Proofs.Yteohkpiecidicaa
