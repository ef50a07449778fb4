/-
  What gimbalref02's Mul and Div return on lists of bits: the list of the product; the lists of the quotient and of what is left, where the divisor isn't nought. Lists of at most a thousand bits.
-/
import Derived.Test.YtbflkcpcbnkpbaaRef02E
namespace Go.Proofs.Ytbflkcpcbnkpbaa
open Go.RowKit
set_option linter.unusedVariables false

theorem bl_len_le (n k : Nat) (h : n < 2 ^ k) : (bl n).length ≤ k := (bl_length_le n k).2 h
theorem bl_len_step (p R L : Nat) (h : (bl R).length ≤ L) (hp : p < 2) : (bl (p + 2 * R)).length ≤ L + 1 := by
  have h1 := (bl_length_le R L).1 h
  refine bl_len_le _ _ ?_
  rw [Nat.pow_succ]; omega
theorem mul_len (xs ys : List Int) (k : Nat) (hx : Bin xs) (hy : Bin ys) (hk : k ≤ xs.length) : (bl (val (xs.take k) * val ys)).length ≤ xs.length + ys.length := by
  refine bl_len_le _ _ ?_
  have h1 := val_lt (xs.take k) (hx.take k)
  have h2 := val_lt ys hy
  have h3 : 2 ^ (xs.take k).length ≤ 2 ^ xs.length := Nat.pow_le_pow_right (by decide) (by rw [List.length_take]; omega)
  rw [Nat.pow_add]
  exact Nat.lt_of_le_of_lt (Nat.mul_le_mul_left _ (Nat.le_of_lt h2)) (Nat.mul_lt_mul_of_pos_right (by omega) (Nat.two_pow_pos _))
theorem up_len (ys : List Int) (k : Nat) (hy : Bin ys) : (bl (2 ^ k * val ys)).length ≤ k + ys.length := by
  refine bl_len_le _ _ ?_
  rw [Nat.pow_add]
  exact Nat.mul_lt_mul_of_pos_left (val_lt ys hy) (Nat.two_pow_pos _)
theorem mul_step (xs : List Int) (k V : Nat) (h : k < xs.length) (hb : bitAt xs k = 1) : val (xs.take k) * V + 2 ^ k * V = val (xs.take (k + 1)) * V := by
  rw [val_take_succ xs k h, ← bitAt_lt xs k h, hb, Nat.add_mul]
  simp
theorem mul_step0 (xs : List Int) (k V : Nat) (h : k < xs.length) (hb : bitAt xs k = 0) : val (xs.take k) * V = val (xs.take (k + 1)) * V := by
  rw [val_take_succ xs k h, ← bitAt_lt xs k h, hb]
  simp

set_option maxHeartbeats 1000000 in
theorem rMul (v u : Value) (xs ys : List Int) (w : World) (hs : Sees w v xs) (gs : Sees w u ys) (hx : Bin xs) (hy : Bin ys) (hl : xs.length ≤ 1000) (gl : ys.length ≤ 1000) :
    Calls Try.prog 74 #[v, u] w fun e w' => ∃ v', e = .returned v' ∧ Own w' w.heap.size v' (bl (val xs * val ys)) ∧ Below w.heap.size w w' := by
  have HG : Hid (Sees w u ys) := gs
  clear gs
  obtain ⟨b, o, c, rfl, hb, hc, hm, hcell⟩ := hs
  go_enter Try.func74, Try.ntmps74
  go_wp2
  go_loopw [5, 11] (fun out i wr => ∃ (k : Nat), i = .int .i64 k ∧ k ≤ xs.length ∧ Own wr w.heap.size out (bl (val (xs.take k) * val ys)) ∧ Below w.heap.size w wr) (fun _ i _ => xs.length - (intOf i).toNat)
  case atStart => exact ⟨0, rfl, by omega, by rw [List.take_zero, val_nil, Nat.zero_mul, bl_zero]; exact Own.new _ _ (Nat.le_refl _), (Below.refl _ _).alloc (Nat.le_refl _) _⟩
  case round =>
    obtain ⟨k, rfl, hk, hown, hbel⟩ := hrel
    have hbs := hbel.size
    have hlo := mul_len xs ys k hx hy hk
    have hup := up_len ys k hy
    by_cases h1 : (k : Int) < xs.length
    · have c1 : wr.cell? ⟨b, o + k, none⟩ = some (.int .i64 (bitAt xs k)) := (hbel.cell (p := ⟨b, o + k, none⟩) hb).trans (hcell k (by omega))
      have hax := bitAt_bin xs k hx
      have S1 : Hid (bitAt xs k = 1 → val (xs.take k) * val ys + 2 ^ k * val ys = val (xs.take (k + 1)) * val ys) := mul_step xs k _ (by omega)
      have S0 : Hid (bitAt xs k = 0 → val (xs.take k) * val ys = val (xs.take (k + 1)) * val ys) := mul_step0 xs k _ (by omega)
      clear hcell
      generalize bitAt xs k = p at *
      by_cases hp : p = 1
      · subst hp
        have S2 : Hid (val (xs.take k) * val ys + 2 ^ k * val ys = val (xs.take (k + 1)) * val ys) := S1.out rfl
        clear S1 S0
        go_wp2_with fail
        refine (rUp _ _ _ _ (HG.out.below ?_) hy (by omega) (by omega)).mono ?_
        · exact hbel
        rintro e w1 ⟨v1, rfl, hown1, hbel1⟩
        rw [Int.toNat_natCast] at hown1
        go_wp2_with fail
        refine (rAdd _ _ _ _ _ (hown.below hbel1).sees hown1.sees (bl_bin _) (bl_bin _) (by omega) (by omega)).mono ?_
        rintro e w2 ⟨v2, rfl, hown2, hbel2⟩
        rw [val_bl, val_bl, S2.out] at hown2
        have hb3 : Below w.heap.size w w2 := (hbel.trans (hbel1.mono hbs)).trans (hbel2.mono (Nat.le_trans hbs hbel1.size))
        have hown3 := hown2.base (Nat.le_trans hbs hbel1.size)
        clear hown1 hbel1 hown2 hbel2 hown hlo hup
        go_wp2
        go_roundw
        case rel => exact ⟨k + 1, by go_num, by omega, hown3, hb3⟩
        case measure => simp [intOf]; omega
      · obtain rfl : p = 0 := by omega
        rw [S0.out rfl] at hown
        go_wp2
        go_roundw
        case rel => exact ⟨k + 1, by go_num, by omega, hown, hbel⟩
        case measure => simp [intOf]; omega
    · have e1 : xs.take k = xs := List.take_of_length_le (by omega)
      rw [e1] at hown
      clear e1 hcell
      go_wp2
      go_ret
      exact ⟨_, rfl, hown, hbel⟩
theorem div_step (N p V : Nat) (hV : 0 < V) (hp : p < 2) (h : V ≤ p + 2 * (N % V)) : (p + 2 * N) / V = 1 + 2 * (N / V) ∧ (p + 2 * N) % V = p + 2 * (N % V) - V := by
  have hm := Nat.mod_lt N hV
  have e := Nat.div_add_mod N V
  have k : p + 2 * N = (p + 2 * (N % V) - V) + V * (1 + 2 * (N / V)) := by
    rw [Nat.mul_add, Nat.mul_one, show V * (2 * (N / V)) = 2 * (V * (N / V)) by rw [Nat.mul_left_comm]]
    omega
  rw [k, Nat.add_mul_div_left _ _ hV, Nat.add_mul_mod_self_left, Nat.div_eq_of_lt (by omega), Nat.mod_eq_of_lt (by omega)]
  omega
theorem div_step0 (N p V : Nat) (hV : 0 < V) (h : p + 2 * (N % V) < V) : (p + 2 * N) / V = 0 + 2 * (N / V) ∧ (p + 2 * N) % V = p + 2 * (N % V) := by
  have e := Nat.div_add_mod N V
  have k : p + 2 * N = (p + 2 * (N % V)) + V * (2 * (N / V)) := by
    rw [show V * (2 * (N / V)) = 2 * (V * (N / V)) by rw [Nat.mul_left_comm]]
    omega
  rw [k, Nat.add_mul_div_left _ _ hV, Nat.add_mul_mod_self_left, Nat.div_eq_of_lt (by omega), Nat.mod_eq_of_lt (by omega)]
  omega
theorem mod_len (N V L : Nat) (h : V < 2 ^ L) (hV : 0 < V) : (bl (N % V)).length ≤ L := bl_len_le _ _ (Nat.lt_trans (Nat.mod_lt _ hV) h)

set_option maxHeartbeats 2000000 in
theorem rDiv (v u : Value) (xs ys : List Int) (w : World) (hs : Sees w v xs) (gs : Sees w u ys) (hx : Bin xs) (hy : Bin ys) (hl : xs.length ≤ 1000) (gl : ys.length ≤ 1000) (hV : 0 < val ys) :
    Calls Try.prog 76 #[v, u] w fun e w' => ∃ v1 v2, e = .returned (.tuple #[v1, v2]) ∧ Own w' w.heap.size v1 (bl (val xs / val ys)) ∧ Own w' w.heap.size v2 (bl (val xs % val ys)) ∧ Below w.heap.size w w' := by
  have HG : Hid (Sees w u ys) := gs
  clear gs
  obtain ⟨b, o, c, rfl, hb, hc, hm, hcell⟩ := hs
  go_enter Try.func76, Try.ntmps76
  go_wp2
  go_loopw [6, 7, 8] (fun qv rv i wr => ∃ (k : Nat) (z : Int) (qs : List Int), z = (k : Int) - 1 ∧ k ≤ xs.length ∧ i = .int .i64 z ∧ Bin qs ∧ qs.length + k = xs.length ∧ val qs = val (xs.drop k) / val ys ∧
      Own wr w.heap.size qv qs ∧ Own wr w.heap.size rv (bl (val (xs.drop k) % val ys)) ∧ Below w.heap.size w wr) (fun _ _ i _ => (intOf i + 1).toNat)
  case atStart =>
    refine ⟨xs.length, _, [], rfl, Nat.le_refl _, rfl, Bin.nil, by simp, ?_, ?_, ?_, ?_⟩
    · rw [List.drop_eq_nil_of_le (Nat.le_refl _), val_nil, Nat.zero_div]
    · exact (Own.new w _ (Nat.le_refl _)).alloc _
    · rw [List.drop_eq_nil_of_le (Nat.le_refl _), val_nil, Nat.zero_mod, bl_zero]
      have := Own.new (w.alloc (.cells #[] 3)) w.heap.size (by simp)
      simpa using this
    · exact ((Below.refl _ _).alloc (Nat.le_refl _) _).alloc (by simp) _
  case round =>
    obtain ⟨k, z, qs, hz, hk, rfl, hqb, hql, hqv, hoq, hor, hbel⟩ := hrel
    have hbs := hbel.size
    have HQ : Hid (_ = _) := hqv
    have HQL : Hid (_ = _) := hql
    have hql' : qs.length ≤ 1000 := by omega
    have hrl := mod_len (val (xs.drop k)) (val ys) ys.length (val_lt ys hy) hV
    clear hqv hql
    by_cases h0 : k = 0
    · obtain rfl : z = -1 := by omega
      clear hz
      subst h0
      rw [List.drop_zero] at hor
      have E : Hid (val qs = val xs / val ys) := by show _ = _; rw [HQ.out, List.drop_zero]
      clear hcell HQ hrl
      go_wp2_with fail
      refine (rTrim _ _ _ hoq.sees hqb (by omega)).mono ?_
      rintro e w2 ⟨v2, rfl, hown2, hbel2⟩
      go_wp2
      go_ret2
      refine ⟨_, _, rfl, ?_, hor.below hbel2, hbel.trans (hbel2.mono hbs)⟩
      rw [← E.out]
      exact hown2.base hbs
    · obtain ⟨j, rfl⟩ : ∃ j, k = j + 1 := ⟨k - 1, by omega⟩
      obtain rfl : z = (j : Int) := by omega
      clear hz
      have c1 : wr.cell? ⟨b, o + j, none⟩ = some (.int .i64 (bitAt xs j)) := (hbel.cell (p := ⟨b, o + j, none⟩) hb).trans (hcell j (by omega))
      have hax := bitAt_bin xs j hx
      have hdr := val_drop_bit xs j
      have hj1 : (j : Int) < xs.length := by omega
      clear hcell
      generalize bitAt xs j = p at *
      generalize val (xs.drop (j + 1)) = N at *
      have HD : Hid (_ = _) := hdr
      clear hdr
      have hr1 : (bl (N % val ys)).length ≤ 1000 := by omega
      clear hrl
      go_wp2_with (at_builtin; refine wpList_appS rfl _ _ rfl wr.heap.size _ [p] rfl (Own.one wr wr.heap.size p (Nat.le_refl _)) _ _ rfl (hor.sees.alloc _) (by simp; omega) (by simp) ?_)
      intro v1 w1 hown1 hbel1
      have hb1 : Below wr.heap.size wr w1 := ((Below.refl _ _).alloc (Nat.le_refl _) _).trans hbel1
      go_wp2_with fail
      refine (rTrim _ _ _ hown1.sees (Bin.mk hax (bl_bin _)) (by simp; omega)).mono ?_
      rintro e w2 ⟨v2, rfl, hown2, hbel2⟩
      have e2 : val (p :: bl (N % val ys)) = p.toNat + 2 * (N % val ys) := by rw [val_cons, val_bl]
      rw [e2] at hown2
      have hB2 : Below wr.heap.size wr w2 := hb1.trans (hbel2.mono hb1.size)
      have hoq2 := hoq.below hB2
      have hb2w : Below w.heap.size w w2 := hbel.trans (hB2.mono hbs)
      have hs2 : wr.heap.size ≤ w2.heap.size := hB2.size
      have hown3 := hown2.base (Nat.le_trans hbs hb1.size)
      have hgs2 := HG.out.below hb2w
      have hbs2 := hb2w.size
      have hlen2 : (bl (p.toNat + 2 * (N % val ys))).length ≤ 1001 := bl_len_step _ _ 1000 hr1 (by omega)
      clear hown1 hbel1 hb1 hown2 hbel2 e2 hB2 hoq hbel hor hr1 c1 hs2 hbs
      go_wp2_with fail
      refine (rCmp _ _ _ _ _ hown3.sees hgs2 (bl_bin _) hy (by omega) (by omega)).mono ?_
      rintro e w3 ⟨rfl, hbel3⟩
      rw [val_bl]
      have hoq3 := hoq2.below hbel3
      have hown4 := hown3.below hbel3
      have hgs3 := hgs2.below hbel3
      have hb3w : Below w.heap.size w w3 := hb2w.trans (hbel3.mono hbs2)
      have hbs3 := hb3w.size
      clear hoq2 hown3 hgs2 hbel3 hb2w hbs2
      have hcm : (val ys ≤ p.toNat + 2 * (N % val ys) → 0 ≤ cmpI (p.toNat + 2 * (N % val ys)) (val ys)) ∧ (p.toNat + 2 * (N % val ys) < val ys → cmpI (p.toNat + 2 * (N % val ys)) (val ys) < 0) := by
        unfold cmpI
        refine ⟨fun h => ?_, fun h => ?_⟩
        · rw [if_neg (by omega)]; split <;> omega
        · rw [if_pos h]; omega
      have D1 : Hid (val ys ≤ p.toNat + 2 * (N % val ys) → (p.toNat + 2 * N) / val ys = 1 + 2 * (N / val ys) ∧ (p.toNat + 2 * N) % val ys = p.toNat + 2 * (N % val ys) - val ys) := fun h => div_step N p.toNat (val ys) hV (by omega) h
      have D0 : Hid (p.toNat + 2 * (N % val ys) < val ys → (p.toNat + 2 * N) / val ys = 0 + 2 * (N / val ys) ∧ (p.toNat + 2 * N) % val ys = p.toNat + 2 * (N % val ys)) := fun h => div_step0 N p.toNat (val ys) hV h
      generalize cmpI (p.toNat + 2 * (N % val ys)) (val ys) = cv at *
      by_cases hge : val ys ≤ p.toNat + 2 * (N % val ys)
      · have hcv := hcm.1 hge
        obtain ⟨d1, d2⟩ := D1.out hge
        have E1 : Hid (val (1 :: qs) = val (xs.drop j) / val ys) := by
          show _ = _
          rw [HD.out, d1, val_cons, HQ.out]; rfl
        have E2 : Hid (p.toNat + 2 * (N % val ys) - val ys = val (xs.drop j) % val ys) := by
          show _ = _
          rw [HD.out, d2]
        clear hcm D1 D0 d1 d2 HQ HD
        go_wp2_with fail
        refine (rSub _ _ _ _ _ hown4.sees hgs3 (bl_bin _) hy (by omega) (by omega) (by rw [val_bl]; exact hge)).mono ?_
        rintro e w4 ⟨v4, rfl, hown5, hbel4⟩
        rw [val_bl, E2.out] at hown5
        have hoq4 := hoq3.below hbel4
        have hown6 := hown5.base hbs3
        have hb4w : Below w.heap.size w w4 := hb3w.trans (hbel4.mono hbs3)
        have hbs4 := hb4w.size
        clear hoq3 hown4 hgs3 hbel4 hb3w hbs3 hown5
        go_wp2_with (at_builtin; refine wpList_appS rfl _ _ rfl w4.heap.size _ [1] rfl (Own.one w4 w4.heap.size 1 (Nat.le_refl _)) _ _ rfl (hoq4.sees.alloc _) (by simp; omega) (by simp) ?_)
        intro v5 w5 hown7 hbel5
        have hb5 : Below w4.heap.size w4 w5 := ((Below.refl _ _).alloc (Nat.le_refl _) _).trans hbel5
        go_wp2
        go_roundw
        case rel => exact ⟨j, _, 1 :: qs, rfl, by omega, by go_num, Bin.mk (Or.inr rfl) hqb, by have := HQL.out; simp; omega, E1.out, hown7.base hbs4, hown6.below hb5, hb4w.trans (hb5.mono hbs4)⟩
        case measure => simp [intOf]
      · have hcv := hcm.2 (by omega)
        obtain ⟨d1, d2⟩ := D0.out (by omega)
        have E1 : Hid (val (0 :: qs) = val (xs.drop j) / val ys) := by
          show _ = _
          rw [HD.out, d1, val_cons, HQ.out]; rfl
        have E2 : Hid (p.toNat + 2 * (N % val ys) = val (xs.drop j) % val ys) := by
          show _ = _
          rw [HD.out, d2]
        rw [E2.out] at hown4
        clear hcm D1 D0 d1 d2 HQ HD
        go_wp2_with (at_builtin; refine wpList_appS rfl _ _ rfl w3.heap.size _ [0] rfl (Own.one w3 w3.heap.size 0 (Nat.le_refl _)) _ _ rfl (hoq3.sees.alloc _) (by simp; omega) (by simp) ?_)
        intro v5 w5 hown7 hbel5
        have hb5 : Below w3.heap.size w3 w5 := ((Below.refl _ _).alloc (Nat.le_refl _) _).trans hbel5
        go_wp2
        go_roundw
        case rel => exact ⟨j, _, 0 :: qs, rfl, by omega, by go_num, Bin.mk (Or.inl rfl) hqb, by have := HQL.out; simp; omega, E1.out, hown7.base hbs3, hown4.below hb5, hb3w.trans (hb5.mono hbs3)⟩
        case measure => simp [intOf]
end Go.Proofs.Ytbflkcpcbnkpbaa
