/-
  What gimbalref02's Mul and Div return on lists of bits: the list of the product; the lists of the quotient and of what is left, where the divisor isn't nought. Lists of at most a thousand bits.
-/
import Derived.Test.YtgpgmnmifhkmbaaRef02E
namespace Go.Proofs.Ytgpgmnmifhkmbaa
open Go.RowKit
set_option linter.unusedVariables false

theorem bl_len_le (n k : Nat) (h : n < 2 ^ k) : (bl n).length ≤ k := (bl_length_le n k).2 h
theorem bl_len_step (p R L : Nat) (h : (bl R).length ≤ L) (hp : p < 2) : (bl (p + 2 * R)).length ≤ L + 1 := by
  have h1 := (bl_length_le R L).1 h
  refine bl_len_le _ _ ?_
  rw [Nat.pow_succ]; omega
theorem mul_len (xs ys : List Int) (k : Nat) (hx : Bin xs) (hy : Bin ys) (hk : k ≤ xs.length) : (bl (val (xs.take k) * val ys)).length ≤ xs.length + ys.length := by
  refine bl_len_le _ _ ?_
  have h1 := val_lt (xs.take k) (hx.take k)
  have h2 := val_lt ys hy
  have h3 : 2 ^ (xs.take k).length ≤ 2 ^ xs.length := Nat.pow_le_pow_right (by decide) (by rw [List.length_take]; omega)
  rw [Nat.pow_add]
  exact Nat.lt_of_le_of_lt (Nat.mul_le_mul_left _ (Nat.le_of_lt h2)) (Nat.mul_lt_mul_of_pos_right (by omega) (Nat.two_pow_pos _))
theorem up_len (ys : List Int) (k : Nat) (hy : Bin ys) : (bl (2 ^ k * val ys)).length ≤ k + ys.length := by
  refine bl_len_le _ _ ?_
  rw [Nat.pow_add]
  exact Nat.mul_lt_mul_of_pos_left (val_lt ys hy) (Nat.two_pow_pos _)
theorem mul_step (xs : List Int) (k V : Nat) (h : k < xs.length) (hb : bitAt xs k = 1) : val (xs.take k) * V + 2 ^ k * V = val (xs.take (k + 1)) * V := by
  rw [val_take_succ xs k h, ← bitAt_lt xs k h, hb, Nat.add_mul]
  simp
theorem mul_step0 (xs : List Int) (k V : Nat) (h : k < xs.length) (hb : bitAt xs k = 0) : val (xs.take k) * V = val (xs.take (k + 1)) * V := by
  rw [val_take_succ xs k h, ← bitAt_lt xs k h, hb]
  simp

set_option maxHeartbeats 1000000 in
theorem rMul (v u : Value) (xs ys : List Int) (w : World) (hs : Sees w v xs) (gs : Sees w u ys) (hx : Bin xs) (hy : Bin ys) (hl : xs.length ≤ 5000) (gl : ys.length ≤ 5000) :
    Calls Try.prog 47 #[v, u] w fun e w' => ∃ v', e = .returned v' ∧ Own w' w.heap.size v' (bl (val xs * val ys)) ∧ Below w.heap.size w w' := by
  have HG : Hid (Sees w u ys) := gs
  clear gs
  obtain ⟨b, o, c, rfl, hb, hc, hm, hcell⟩ := hs
  go_enter Try.func47, Try.ntmps47
  go_wp2
  go_loopw [5, 11] (fun out i wr => ∃ (k : Nat), i = .int .i64 k ∧ k ≤ xs.length ∧ Own wr w.heap.size out (bl (val (xs.take k) * val ys)) ∧ Below w.heap.size w wr) (fun _ i _ => xs.length - (intOf i).toNat)
  case atStart => exact ⟨0, rfl, by omega, by rw [List.take_zero, val_nil, Nat.zero_mul, bl_zero]; exact Own.new _ _ (Nat.le_refl _), (Below.refl _ _).alloc (Nat.le_refl _) _⟩
  case round =>
    obtain ⟨k, rfl, hk, hown, hbel⟩ := hrel
    have hbs := hbel.size
    have hlo := mul_len xs ys k hx hy hk
    have hup := up_len ys k hy
    by_cases h1 : (k : Int) < xs.length
    · have c1 : wr.cell? ⟨b, o + k, none⟩ = some (.int .i64 (bitAt xs k)) := (hbel.cell (p := ⟨b, o + k, none⟩) hb).trans (hcell k (by omega))
      have hax := bitAt_bin xs k hx
      have S1 : Hid (bitAt xs k = 1 → val (xs.take k) * val ys + 2 ^ k * val ys = val (xs.take (k + 1)) * val ys) := mul_step xs k _ (by omega)
      have S0 : Hid (bitAt xs k = 0 → val (xs.take k) * val ys = val (xs.take (k + 1)) * val ys) := mul_step0 xs k _ (by omega)
      clear hcell
      generalize bitAt xs k = p at *
      by_cases hp : p = 1
      · subst hp
        have S2 : Hid (val (xs.take k) * val ys + 2 ^ k * val ys = val (xs.take (k + 1)) * val ys) := S1.out rfl
        clear S1 S0
        go_wp2_with fail
        refine (rUp _ _ _ _ (HG.out.below ?_) hy (by omega) (by omega)).mono ?_
        · exact hbel
        rintro e w1 ⟨v1, rfl, hown1, hbel1⟩
        rw [Int.toNat_natCast] at hown1
        go_wp2_with fail
        refine (rAdd _ _ _ _ _ (hown.below hbel1).sees hown1.sees (bl_bin _) (bl_bin _) (by omega) (by omega)).mono ?_
        rintro e w2 ⟨v2, rfl, hown2, hbel2⟩
        rw [val_bl, val_bl, S2.out] at hown2
        have hb3 : Below w.heap.size w w2 := (hbel.trans (hbel1.mono hbs)).trans (hbel2.mono (Nat.le_trans hbs hbel1.size))
        have hown3 := hown2.base (Nat.le_trans hbs hbel1.size)
        clear hown1 hbel1 hown2 hbel2 hown hlo hup
        go_wp2
        go_roundw
        case rel => exact ⟨k + 1, by go_num, by omega, hown3, hb3⟩
        case measure => simp [intOf]; omega
      · obtain rfl : p = 0 := by omega
        rw [S0.out rfl] at hown
        go_wp2
        go_roundw
        case rel => exact ⟨k + 1, by go_num, by omega, hown, hbel⟩
        case measure => simp [intOf]; omega
    · have e1 : xs.take k = xs := List.take_of_length_le (by omega)
      rw [e1] at hown
      clear e1 hcell
      go_wp2
      go_ret
      exact ⟨_, rfl, hown, hbel⟩
theorem div_step (N p V : Nat) (hV : 0 < V) (hp : p < 2) (h : V ≤ p + 2 * (N % V)) : (p + 2 * N) / V = 1 + 2 * (N / V) ∧ (p + 2 * N) % V = p + 2 * (N % V) - V := by
  have hm := Nat.mod_lt N hV
  have e := Nat.div_add_mod N V
  have k : p + 2 * N = (p + 2 * (N % V) - V) + V * (1 + 2 * (N / V)) := by
    rw [Nat.mul_add, Nat.mul_one, show V * (2 * (N / V)) = 2 * (V * (N / V)) by rw [Nat.mul_left_comm]]
    omega
  rw [k, Nat.add_mul_div_left _ _ hV, Nat.add_mul_mod_self_left, Nat.div_eq_of_lt (by omega), Nat.mod_eq_of_lt (by omega)]
  omega
theorem div_step0 (N p V : Nat) (hV : 0 < V) (h : p + 2 * (N % V) < V) : (p + 2 * N) / V = 0 + 2 * (N / V) ∧ (p + 2 * N) % V = p + 2 * (N % V) := by
  have e := Nat.div_add_mod N V
  have k : p + 2 * N = (p + 2 * (N % V)) + V * (2 * (N / V)) := by
    rw [show V * (2 * (N / V)) = 2 * (V * (N / V)) by rw [Nat.mul_left_comm]]
    omega
  rw [k, Nat.add_mul_div_left _ _ hV, Nat.add_mul_mod_self_left, Nat.div_eq_of_lt (by omega), Nat.mod_eq_of_lt (by omega)]
  omega
theorem mod_len (N V L : Nat) (h : V < 2 ^ L) (hV : 0 < V) : (bl (N % V)).length ≤ L := bl_len_le _ _ (Nat.lt_trans (Nat.mod_lt _ hV) h)

end Go.Proofs.Ytgpgmnmifhkmbaa
