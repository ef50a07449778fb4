/-
  What gimbalref02's Sub and Cmp return on lists of bits: the list of the difference, where it isn't below nought; which number is greater. Lists of at most some thousand bits.
-/
import Derived.Test.YtgpgmnmifhkmbaaRef02D
import Derived.Deep.QuietTactic
import Derived.BigQuiet
import Derived.WalkSmall
namespace Go.Proofs.Ytgpgmnmifhkmbaa
open Go.RowKit
set_option linter.unusedVariables false

theorem sub_step (zs : List Int) (k : Nat) (d p q t d' : Int) (A B : Nat) (T : Int) (hz : zs.length = k) (h : (val zs : Int) + ((2 ^ k : Nat) : Int) * ((p + 2 * (A : Int)) - d - (q + 2 * (B : Int))) = T) (ht : 0 ≤ t) (he : t - 2 * d' = p - d - q) :
    (val (zs ++ [t]) : Int) + ((2 ^ (k + 1) : Nat) : Int) * ((A : Int) - d' - (B : Int)) = T := by
  rw [val_snoc, hz, ← h]
  obtain ⟨t, rfl⟩ := Int.eq_ofNat_of_zero_le ht
  rw [Int.toNat_natCast, Nat.pow_succ]
  push_cast
  have e : p + 2 * (A : Int) - d - (q + 2 * (B : Int)) = (t : Int) + 2 * ((A : Int) - d' - (B : Int)) := by omega
  rw [e]
  generalize (A : Int) - d' - (B : Int) = M
  rw [Int.mul_add, ← Int.mul_assoc, Int.mul_assoc]
  omega
theorem sub_end (a b z s K : Nat) (h : (z : Int) + (K : Int) * (0 - (s : Int)) = (a : Int) - (b : Int)) (hz : z < K) (hb : b ≤ a) : z = a - b := by
  have e : z = a - b + K * s := by
    have : (K : Int) * (0 - (s : Int)) = -((K * s : Nat) : Int) := by rw [Int.zero_sub, Int.mul_neg]; push_cast; rfl
    rw [this] at h
    omega
  rcases Nat.eq_zero_or_pos s with h0 | h0
  · subst h0; simpa using e
  · have : K ≤ K * s := Nat.le_mul_of_pos_right K h0
    omega

set_option maxHeartbeats 1000000 in
theorem rSub (v u : Value) (xs ys : List Int) (w : World) (hs : Sees w v xs) (gs : Sees w u ys) (hx : Bin xs) (hy : Bin ys) (hl : xs.length ≤ 100000) (gl : ys.length ≤ 100000) (hle : val ys ≤ val xs) :
    Calls Try.prog 43 #[v, u] w fun e w' => ∃ v', e = .returned v' ∧ Own w' w.heap.size v' (bl (val xs - val ys)) ∧ Below w.heap.size w w' := by
  obtain ⟨b, o, c, rfl, hb, hc, hm, hcell⟩ := hs
  obtain ⟨b2, o2, c2, rfl, hb2, hc2, hm2, hcell2⟩ := gs
  go_enter Try.func43, Try.ntmps43
  go_wp2
  go_loopw [5, 6, 7] (fun out cy i wr => ∃ (k : Nat) (d : Int) (zs : List Int), i = .int .i64 k ∧ cy = .int .i64 d ∧ (d = 0 ∨ d = 1) ∧ zs.length = k ∧ Bin zs ∧ k ≤ xs.length ∧
      (val zs : Int) + ((2 ^ k : Nat) : Int) * ((val (xs.drop k) : Int) - d - (val (ys.drop k) : Int)) = (val xs : Int) - (val ys : Int) ∧ Own wr w.heap.size out zs ∧ Below w.heap.size w wr) (fun _ _ i _ => xs.length - (intOf i).toNat)
  case atStart => exact ⟨0, 0, [], rfl, rfl, Or.inl rfl, rfl, Bin.nil, by omega, by simp [val_nil], Own.new _ _ (Nat.le_refl _), (Below.refl _ _).alloc (Nat.le_refl _) _⟩
  case round =>
    obtain ⟨k, d, zs, rfl, rfl, hd, hzl, hzb, hk, hval, hown, hbel⟩ := hrel
    have hbs := hbel.size
    have hcx : k < xs.length → wr.cell? ⟨b, o + k, none⟩ = some (.int .i64 (bitAt xs k)) := fun h => (hbel.cell (p := ⟨b, o + k, none⟩) hb).trans (hcell k h)
    have hcy : k < ys.length → wr.cell? ⟨b2, o2 + k, none⟩ = some (.int .i64 (bitAt ys k)) := fun h => (hbel.cell (p := ⟨b2, o2 + k, none⟩) hb2).trans (hcell2 k h)
    have hzl' : zs.length ≤ 100001 := by omega
    have HZ : Hid (_ = _) := hzl
    by_cases h1 : (k : Int) < xs.length
    · have c1 := hcx (by omega)
      have hax := bitAt_bin xs k hx
      have hay := bitAt_bin ys k hy
      have hay0 := bitAt_ge ys k
      rw [val_drop_bit xs k, val_drop_bit ys k] at hval
      push_cast at hval
      generalize bitAt xs k = p at *
      generalize bitAt ys k = q at *
      have R : Hid (∀ t d' : Int, 0 ≤ t → t - 2 * d' = p - d - q → (val (zs ++ [t]) : Int) + ((2 ^ (k + 1) : Nat) : Int) * ((val (xs.drop (k + 1)) : Int) - d' - (val (ys.drop (k + 1)) : Int)) = (val xs : Int) - (val ys : Int)) := by
        intro t d' ht he
        refine sub_step zs k d p q t d' _ _ _ HZ.out ?_ ht he
        rw [← hval]
        rw [show ((p.toNat : Nat) : Int) = p by omega, show ((q.toNat : Nat) : Int) = q by omega]
        push_cast
        rfl
      clear hval hzl hcell hcell2
      by_cases h2 : (k : Int) < ys.length
      · have c2 := hcy (by omega)
        clear hcx hcy hay0
        by_cases h3 : p - d - q < 0
        · have B2 : Hid (Bin (zs ++ [p - d - q + 2])) := hzb.snoc _ (by omega)
          have R2 := R.out (p - d - q + 2) 1 (by omega) (by omega)
          have R3 : Hid (_ = _) := R2
          clear R2
          go_wp2_with (at_builtin; refine wpList_app1 rfl _ _ rfl w.heap.size _ zs rfl hown _ rfl (by omega) hbs ?_)
          intro v' w1 hown' hbel'
          go_wp2
          go_roundw
          case rel => exact ⟨k + 1, 1, _, by go_num, rfl, by omega, by rw [List.length_append, HZ.out]; rfl, B2.out, by omega, R3.out, hown', hbel.trans hbel'⟩
          case measure => simp [intOf]; omega
        · have B2 : Hid (Bin (zs ++ [p - d - q])) := hzb.snoc _ (by omega)
          have R2 := R.out (p - d - q) 0 (by omega) (by omega)
          have R3 : Hid (_ = _) := R2
          clear R2
          go_wp2_with (at_builtin; refine wpList_app1 rfl _ _ rfl w.heap.size _ zs rfl hown _ rfl (by omega) hbs ?_)
          intro v' w1 hown' hbel'
          go_wp2
          go_roundw
          case rel => exact ⟨k + 1, 0, _, by go_num, rfl, by omega, by rw [List.length_append, HZ.out]; rfl, B2.out, by omega, R3.out, hown', hbel.trans hbel'⟩
          case measure => simp [intOf]; omega
      · have hq := hay0 (by omega)
        clear hcx hcy hay0
        have HQ : Hid (_ = _) := hq
        clear hq
        by_cases h3 : p - d < 0
        · have B2 : Hid (Bin (zs ++ [p - d + 2])) := hzb.snoc _ (by omega)
          have R2 := R.out (p - d + 2) 1 (by omega) (by have := HQ.out; omega)
          have R3 : Hid (_ = _) := R2
          clear R2
          go_wp2_with (at_builtin; refine wpList_app1 rfl _ _ rfl w.heap.size _ zs rfl hown _ rfl (by omega) hbs ?_)
          intro v' w1 hown' hbel'
          go_wp2
          go_roundw
          case rel => exact ⟨k + 1, 1, _, by go_num, rfl, by omega, by rw [List.length_append, HZ.out]; rfl, B2.out, by omega, R3.out, hown', hbel.trans hbel'⟩
          case measure => simp [intOf]; omega
        · have B2 : Hid (Bin (zs ++ [p - d])) := hzb.snoc _ (by omega)
          have R2 := R.out (p - d) 0 (by omega) (by have := HQ.out; omega)
          have R3 : Hid (_ = _) := R2
          clear R2
          go_wp2_with (at_builtin; refine wpList_app1 rfl _ _ rfl w.heap.size _ zs rfl hown _ rfl (by omega) hbs ?_)
          intro v' w1 hown' hbel'
          go_wp2
          go_roundw
          case rel => exact ⟨k + 1, 0, _, by go_num, rfl, by omega, by rw [List.length_append, HZ.out]; rfl, B2.out, by omega, R3.out, hown', hbel.trans hbel'⟩
          case measure => simp [intOf]; omega
    · have F : Hid (val zs = val xs - val ys) := by
        have hb1 := val_lt zs hzb
        rw [HZ.out] at hb1
        refine sub_end (val xs) (val ys) (val zs) (d.toNat + val (ys.drop k)) (2 ^ k) ?_ hb1 hle
        have hx0 : val (xs.drop k) = 0 := by rw [List.drop_eq_nil_of_le (by omega)]; rfl
        rw [← hval, hx0]
        have e : (0 : Int) - ((d.toNat + val (ys.drop k) : Nat) : Int) = ((0 : Nat) : Int) - d - (val (ys.drop k) : Int) := by omega
        rw [e]
      clear hval hzl hcell hcell2 hcx hcy
      go_wp2_with fail
      refine (rTrim _ _ _ hown.sees hzb (by omega)).mono ?_
      rintro e w2 ⟨v2, rfl, hown2, hbel2⟩
      go_wp2
      go_ret
      refine ⟨_, rfl, ?_, hbel.trans (hbel2.mono hbs)⟩
      rw [← F.out]
      exact hown2.base hbs
/-- Which of two is greater, as -1, 0, 1. -/
def cmpI (m n : Nat) : Int := if m < n then -1 else if m = n then 0 else 1
theorem cmp_len (m n : Nat) (h : (bl m).length < (bl n).length) : m < n := by
  have h1 := (bl_length_le m (bl m).length).1 (Nat.le_refl _)
  have h2 := (bl_length_lt n (bl m).length).1 h
  omega
theorem cmp_bits (A B : List Int) (k : Nat) (ha : Bin A) (hb : Bin B) (h1 : k < A.length) (h2 : k < B.length) (hd : A.drop (k + 1) = B.drop (k + 1)) (h : bitAt A k < bitAt B k) : val A < val B := by
  have e1 := val_take_drop A k (by omega)
  have e2 := val_take_drop B k (by omega)
  rw [val_drop_bit A k] at e1
  rw [val_drop_bit B k, ← hd] at e2
  have ba := bitAt_bin A k ha
  have bb := bitAt_bin B k hb
  have l1 := val_lt (A.take k) (ha.take k)
  rw [List.length_take, show min k A.length = k by omega] at l1
  have z1 : (bitAt A k).toNat = 0 := by omega
  have z2 : (bitAt B k).toNat = 1 := by omega
  rw [z1] at e1
  rw [z2] at e2
  generalize val (A.drop (k + 1)) = D at *
  rw [e1, e2, Nat.mul_add, Nat.mul_add, Nat.mul_one]
  omega
theorem drop_eq_of (A B : List Int) (k : Nat) (h1 : k < A.length) (h2 : k < B.length) (hd : A.drop (k + 1) = B.drop (k + 1)) (h : bitAt A k = bitAt B k) : A.drop k = B.drop k := by
  rw [List.drop_eq_getElem_cons h1, List.drop_eq_getElem_cons h2, hd, ← bitAt_lt A k h1, ← bitAt_lt B k h2, h]

set_option maxHeartbeats 1000000 in
theorem rCmp (v u : Value) (xs ys : List Int) (w : World) (hs : Sees w v xs) (gs : Sees w u ys) (hx : Bin xs) (hy : Bin ys) (hl : xs.length ≤ 100000) (gl : ys.length ≤ 100000) :
    Calls Try.prog 42 #[v, u] w fun e w' => e = .returned (.int .i64 (cmpI (val xs) (val ys))) ∧ Below w.heap.size w w' := by
  have hA := bl_bin (val xs)
  have hB := bl_bin (val ys)
  have hAl : (bl (val xs)).length ≤ xs.length := (bl_length_le _ _).2 (val_lt xs hx)
  have hBl : (bl (val ys)).length ≤ ys.length := (bl_length_le _ _).2 (val_lt ys hy)
  have hcl := cmp_len (val xs) (val ys)
  have hcg := cmp_len (val ys) (val xs)
  have hva := val_bl (val xs)
  have hvb := val_bl (val ys)
  have C : Hid (∀ m n : Nat, (m < n → cmpI m n = -1) ∧ (m = n → cmpI m n = 0) ∧ (n < m → cmpI m n = 1)) := by
    intro m n
    unfold cmpI
    refine ⟨fun h => by rw [if_pos h], fun h => by rw [if_neg (by omega), if_pos h], fun h => by rw [if_neg (by omega), if_neg (by omega)]⟩
  go_enter Try.func42, Try.ntmps42
  go_wp2_with fail
  refine (rTrim _ _ _ hs hx (by omega)).mono ?_
  rintro e w1 ⟨va, rfl, ho1, hb1⟩
  go_wp2_with fail
  refine (rTrim _ _ _ (gs.below hb1) hy (by omega)).mono ?_
  rintro e w2 ⟨vb, rfl, ho2, hb2⟩
  have hsa := (ho1.sees).below hb2
  have hsb := ho2.sees
  have hbel : Below w.heap.size w w2 := hb1.trans (hb2.mono hb1.size)
  clear ho1 ho2 hb1 hb2 hs gs
  obtain ⟨b, o, c, hva', hb, hc, hm, hcell⟩ := hsa
  obtain ⟨b2, o2, c2, hvb', hb2, hc2, hm2, hcell2⟩ := hsb
  rw [hva', hvb']
  clear hva' hvb'
  generalize bl (val xs) = A at *
  generalize bl (val ys) = B at *
  have HA : Hid (_ = _) := hva
  have HB : Hid (_ = _) := hvb
  clear hva hvb
  by_cases h1 : (A.length : Int) < B.length
  · have hlt := hcl (by omega)
    have hne : ((A.length : Int) != B.length) = true := by rw [bne_iff_ne]; omega
    clear hcl hcg hcell hcell2
    go_wp2
    go_ret
    exact ⟨ret_eq (int_eq ((C.out _ _).1 hlt).symm), hbel⟩
  · by_cases h2 : (B.length : Int) < A.length
    · have hlt := hcg (by omega)
      have hne : ((A.length : Int) != B.length) = true := by rw [bne_iff_ne]; omega
      clear hcl hcg hcell hcell2
      go_wp2
      go_ret
      exact ⟨ret_eq (int_eq ((C.out _ _).2.2 hlt).symm), hbel⟩
    · have hee : (A.length : Int) = B.length := by omega
      have hAB : A.length = B.length := by omega
      clear hcl hcg h1 h2
      have HE : Hid (_ = _) := hAB
      have hle : B.length ≤ A.length := by omega
      have hge : A.length ≤ B.length := by omega
      clear hAB
      have hne : ((A.length : Int) != B.length) = false := by rw [hee]; simp
      clear hee
      go_wp2
      go_loopw [5] (fun i wr => ∃ (k : Nat) (z : Int), z = (k : Int) - 1 ∧ k ≤ A.length ∧ i = .int .i64 z ∧ A.drop k = B.drop k ∧ Below w2.heap.size w2 wr) (fun i _ => (intOf i + 1).toNat)
      case atStart => exact ⟨A.length, _, rfl, Nat.le_refl _, rfl, by rw [List.drop_eq_nil_of_le (Nat.le_refl _), List.drop_eq_nil_of_le (by omega)], Below.refl _ _⟩
      case round =>
        obtain ⟨k, z, hz, hk, rfl, hd, hbel2⟩ := hrel
        have HD : Hid (_ = _) := hd
        clear hd
        by_cases h0 : k = 0
        · obtain rfl : z = -1 := by omega
          clear hz
          subst h0
          have hmn : val xs = val ys := by
            rw [← HA.out, ← HB.out]
            have := HD.out
            rw [List.drop_zero, List.drop_zero] at this
            rw [this]
          clear hcell hcell2
          go_wp2
          go_ret
          exact ⟨ret_eq (int_eq ((C.out _ _).2.1 hmn).symm), hbel.trans (hbel2.mono hbel.size)⟩
        · obtain ⟨j, rfl⟩ : ∃ j, k = j + 1 := ⟨k - 1, by omega⟩
          obtain rfl : z = (j : Int) := by omega
          clear hz
          have ca : wr.cell? ⟨b, o + j, none⟩ = some (.int .i64 (bitAt A j)) := (hbel2.cell (p := ⟨b, o + j, none⟩) hb).trans (hcell j (by omega))
          have cb : wr.cell? ⟨b2, o2 + j, none⟩ = some (.int .i64 (bitAt B j)) := (hbel2.cell (p := ⟨b2, o2 + j, none⟩) hb2).trans (hcell2 j (by omega))
          have hj1 : (j : Int) < A.length := by omega
          have hj2 : (j : Int) < B.length := by omega
          clear hcell hcell2
          have lt1 : Hid (bitAt A j < bitAt B j → val xs < val ys) := fun h => by
            have := cmp_bits A B j hA hB (by omega) (by omega) HD.out h
            rwa [HA.out, HB.out] at this
          have lt2 : Hid (bitAt B j < bitAt A j → val ys < val xs) := fun h => by
            have := cmp_bits B A j hB hA (by omega) (by omega) HD.out.symm h
            rwa [HA.out, HB.out] at this
          have eq1 : Hid (bitAt A j = bitAt B j → A.drop j = B.drop j) := fun h => drop_eq_of A B j (by omega) (by omega) HD.out h
          generalize bitAt A j = p at *
          generalize bitAt B j = q at *
          by_cases h3 : p = q
          · have e3 : (p != q) = false := by rw [h3]; simp
            have eqd := eq1.out h3
            have ED : Hid (_ = _) := eqd
            clear eqd h3
            go_wp2_with fail
            go_quiet (fail)
            go_wp2
            go_roundw
            case rel => exact ⟨j, _, rfl, by omega, by go_num, ED.out, below_drewN hbel2 _⟩
            case measure => simp [intOf]
          · have e3 : (p != q) = true := by rw [bne_iff_ne]; exact h3
            by_cases h4 : p < q
            · have hmn := lt1.out h4
              go_wp2_with fail
              go_quiet (fail)
              go_wp2_with fail
              go_quiet (fail)
              go_wp2
              go_ret
              exact ⟨ret_eq (int_eq ((C.out _ _).1 hmn).symm), below_drewN (below_drewN (hbel.trans (hbel2.mono hbel.size)) _) _⟩
            · have hmn := lt2.out (by omega)
              go_wp2_with fail
              go_quiet (fail)
              go_wp2_with fail
              go_quiet (fail)
              go_wp2
              go_ret
              exact ⟨ret_eq (int_eq ((C.out _ _).2.2 hmn).symm), below_drewN (below_drewN (hbel.trans (hbel2.mono hbel.size)) _) _⟩
end Go.Proofs.Ytgpgmnmifhkmbaa
