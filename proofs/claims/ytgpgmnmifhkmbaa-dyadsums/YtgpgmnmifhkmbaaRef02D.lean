/-
  What gimbalref02's Add, Sub, Cmp, Mul and Div return on lists of bits: the list of the sum, of the difference, which is greater, the list of the product, those of the quotient and of what is left. Lists of at most some thousand bits.
-/
import Derived.Test.YtgpgmnmifhkmbaaRef02C
namespace Go.Proofs.Ytgpgmnmifhkmbaa
open Go.RowKit
set_option linter.unusedVariables false

theorem val_snoc (zs : List Int) (t : Int) : val (zs ++ [t]) = val zs + 2 ^ zs.length * t.toNat := by
  rw [val_append, val_cons, val_nil, Nat.mul_zero, Nat.add_zero]
/-- The k-th bit, or nought behind the end. -/
def bitAt (xs : List Int) (k : Nat) : Int := xs[k]?.getD 0
theorem bitAt_lt (xs : List Int) (k : Nat) (h : k < xs.length) : bitAt xs k = xs[k] := by unfold bitAt; rw [List.getElem?_eq_getElem h]; rfl
theorem bitAt_ge (xs : List Int) (k : Nat) (h : xs.length ≤ k) : bitAt xs k = 0 := by unfold bitAt; rw [List.getElem?_eq_none h]; rfl
theorem bitAt_bin (xs : List Int) (k : Nat) (hx : Bin xs) : bitAt xs k = 0 ∨ bitAt xs k = 1 := by
  by_cases h : k < xs.length
  · rw [bitAt_lt xs k h]; exact hx.get k h
  · rw [bitAt_ge xs k (by omega)]; exact Or.inl rfl
theorem val_drop_bit (xs : List Int) (k : Nat) : val (xs.drop k) = (bitAt xs k).toNat + 2 * val (xs.drop (k + 1)) := by
  by_cases h : k < xs.length
  · rw [val_drop_cons xs k h, bitAt_lt xs k h]
  · rw [bitAt_ge xs k (by omega), List.drop_eq_nil_of_le (by omega), List.drop_eq_nil_of_le (by omega)]; rfl
theorem add_step (zs : List Int) (k cy a b A B T : Nat) (hz : zs.length = k) (h : val zs + 2 ^ k * (cy + (a + 2 * A) + (b + 2 * B)) = T) (t : Int) (ht : t.toNat = (cy + a + b) % 2) :
    val (zs ++ [t]) + 2 ^ (k + 1) * ((cy + a + b) / 2 + A + B) = T := by
  rw [val_snoc, hz, ht, ← h, Nat.pow_succ]
  have e : cy + (a + 2 * A) + (b + 2 * B) = (cy + a + b) % 2 + 2 * ((cy + a + b) / 2 + A + B) := by omega
  rw [e]
  generalize (cy + a + b) % 2 = r
  generalize (cy + a + b) / 2 + A + B = M
  rw [Nat.mul_add, Nat.mul_assoc]
  omega
theorem Bin.snoc {zs : List Int} (h : Bin zs) (t : Int) (ht : t = 0 ∨ t = 1) : Bin (zs ++ [t]) := h.append (Bin.mk ht Bin.nil)

set_option maxHeartbeats 1000000 in
theorem rAdd (v u : Value) (xs ys : List Int) (w : World) (hs : Sees w v xs) (gs : Sees w u ys) (hx : Bin xs) (hy : Bin ys) (hl : xs.length ≤ 100000) (gl : ys.length ≤ 100000) :
    Calls Try.prog 41 #[v, u] w fun e w' => ∃ v', e = .returned v' ∧ Own w' w.heap.size v' (bl (val xs + val ys)) ∧ Below w.heap.size w w' := by
  obtain ⟨b, o, c, rfl, hb, hc, hm, hcell⟩ := hs
  obtain ⟨b2, o2, c2, rfl, hb2, hc2, hm2, hcell2⟩ := gs
  obtain ⟨L, hL⟩ : ∃ L : Nat, L = max xs.length ys.length := ⟨_, rfl⟩
  have hL1 : xs.length ≤ L := by omega
  have hL2 : ys.length ≤ L := by omega
  have hL3 : L ≤ 100000 := by omega
  clear hL
  go_enter Try.func41, Try.ntmps41
  go_wp2
  go_loopw [5, 6, 7] (fun out cy i wr => ∃ (k : Nat) (d : Int) (zs : List Int), i = .int .i64 k ∧ cy = .int .i64 d ∧ (d = 0 ∨ d = 1) ∧ zs.length = k ∧ Bin zs ∧ k ≤ L + 1 ∧ (k = L + 1 → d = 0) ∧
      val zs + 2 ^ k * (d.toNat + val (xs.drop k) + val (ys.drop k)) = val xs + val ys ∧ Own wr w.heap.size out zs ∧ Below w.heap.size w wr) (fun _ _ i _ => L + 1 - (intOf i).toNat)
  case atStart => exact ⟨0, 0, [], rfl, rfl, Or.inl rfl, rfl, Bin.nil, by omega, fun _ => rfl, by simp [val_nil], Own.new _ _ (Nat.le_refl _), (Below.refl _ _).alloc (Nat.le_refl _) _⟩
  case round =>
    obtain ⟨k, d, zs, rfl, rfl, hd, hzl, hzb, hk, hend, hval, hown, hbel⟩ := hrel
    have hbs := hbel.size
    have hcx : k < xs.length → wr.cell? ⟨b, o + k, none⟩ = some (.int .i64 (bitAt xs k)) := fun h => (hbel.cell (p := ⟨b, o + k, none⟩) hb).trans (hcell k h)
    have hcy : k < ys.length → wr.cell? ⟨b2, o2 + k, none⟩ = some (.int .i64 (bitAt ys k)) := fun h => (hbel.cell (p := ⟨b2, o2 + k, none⟩) hb2).trans (hcell2 k h)
    have hax := bitAt_bin xs k hx
    have hay := bitAt_bin ys k hy
    have hax0 := bitAt_ge xs k
    have hay0 := bitAt_ge ys k
    rw [val_drop_bit xs k, val_drop_bit ys k] at hval
    generalize bitAt xs k = p at *
    generalize bitAt ys k = q at *
    have HV : Hid (_ = _) := hval
    have hzl' : zs.length ≤ 100001 := by omega
    have HZ : Hid (_ = _) := hzl
    have R : Hid (∀ t : Int, t = (d + p + q) % 2 → val (zs ++ [t]) + 2 ^ (k + 1) * (((d + p + q) / 2).toNat + val (xs.drop (k + 1)) + val (ys.drop (k + 1))) = val xs + val ys) := by
      intro t ht
      have := add_step zs k d.toNat p.toNat q.toNat (val (xs.drop (k + 1))) (val (ys.drop (k + 1))) _ HZ.out HV.out t (by omega)
      rw [show ((d + p + q) / 2).toNat = (d.toNat + p.toNat + q.toNat) / 2 by omega]
      exact this
    clear hval hzl hcell hcell2
    by_cases h1 : (k : Int) < xs.length
    · have c1 := hcx (by omega)
      by_cases h2 : (k : Int) < ys.length
      · have c2 := hcy (by omega)
        clear hcx hcy hax0 hay0
        have R2 : Hid (val (zs ++ [(d + p + q) % 2]) + 2 ^ (k + 1) * (((d + p + q) / 2).toNat + val (xs.drop (k + 1)) + val (ys.drop (k + 1))) = val xs + val ys) := by
          have := R.out ((d + p + q) % 2) (by omega)
          rwa [show d + p + q = d + p + q by omega] at this
        have B2 : Hid (Bin (zs ++ [(d + p + q) % 2])) := hzb.snoc _ (by omega)
        go_wp2_with (at_builtin; refine wpList_app1 rfl _ _ rfl w.heap.size _ zs rfl hown _ rfl (by omega) hbs ?_)
        intro v' w1 hown' hbel'
        go_wp2
        go_roundw
        case rel => exact ⟨k + 1, (d + p + q) / 2, zs ++ [(d + p + q) % 2], by go_num, rfl, by omega, by rw [List.length_append, HZ.out]; rfl, B2.out, by omega, by omega, R2.out, hown', hbel.trans hbel'⟩
        case measure => simp [intOf]; omega
      · have hq := hay0 (by omega)
        have hkL : k ≤ L := by omega
        clear hcx hcy hax0 hay0
        have HQ : Hid (_ = _) := hq
        clear hq
        have R2 : Hid (val (zs ++ [(d + p) % 2]) + 2 ^ (k + 1) * (((d + p) / 2).toNat + val (xs.drop (k + 1)) + val (ys.drop (k + 1))) = val xs + val ys) := by
          have := R.out ((d + p) % 2) (by have := HQ.out; omega)
          rwa [show d + p + q = d + p by have := HQ.out; omega] at this
        have B2 : Hid (Bin (zs ++ [(d + p) % 2])) := hzb.snoc _ (by omega)
        go_wp2_with (at_builtin; refine wpList_app1 rfl _ _ rfl w.heap.size _ zs rfl hown _ rfl (by omega) hbs ?_)
        intro v' w1 hown' hbel'
        go_wp2
        go_roundw
        case rel => exact ⟨k + 1, (d + p) / 2, zs ++ [(d + p) % 2], by go_num, rfl, by omega, by rw [List.length_append, HZ.out]; rfl, B2.out, by omega, by omega, R2.out, hown', hbel.trans hbel'⟩
        case measure => simp [intOf]; omega
    · have hp := hax0 (by omega)
      by_cases h2 : (k : Int) < ys.length
      · have c2 := hcy (by omega)
        clear hcx hcy hax0 hay0
        have HP : Hid (_ = _) := hp
        clear hp
        have R2 : Hid (val (zs ++ [(d + q) % 2]) + 2 ^ (k + 1) * (((d + q) / 2).toNat + val (xs.drop (k + 1)) + val (ys.drop (k + 1))) = val xs + val ys) := by
          have := R.out ((d + q) % 2) (by have := HP.out; omega)
          rwa [show d + p + q = d + q by have := HP.out; omega] at this
        have B2 : Hid (Bin (zs ++ [(d + q) % 2])) := hzb.snoc _ (by omega)
        go_wp2_with (at_builtin; refine wpList_app1 rfl _ _ rfl w.heap.size _ zs rfl hown _ rfl (by omega) hbs ?_)
        intro v' w1 hown' hbel'
        go_wp2
        go_roundw
        case rel => exact ⟨k + 1, (d + q) / 2, zs ++ [(d + q) % 2], by go_num, rfl, by omega, by rw [List.length_append, HZ.out]; rfl, B2.out, by omega, by omega, R2.out, hown', hbel.trans hbel'⟩
        case measure => simp [intOf]; omega
      · have hq := hay0 (by omega)
        clear hcx hcy hax0 hay0
        have HP : Hid (_ = _) := hp
        have HQ : Hid (_ = _) := hq
        clear hp hq
        by_cases h3 : d = 0
        · subst h3
          have F : Hid (val zs = val xs + val ys) := by
            show _ = _
            have := HV.out
            rw [HP.out, HQ.out, List.drop_eq_nil_of_le (by omega), List.drop_eq_nil_of_le (by omega)] at this
            simpa [val_nil] using this
          go_wp2_with fail
          refine (rTrim _ _ _ hown.sees hzb (by omega)).mono ?_
          rintro e w2 ⟨v2, rfl, hown2, hbel2⟩
          go_wp2
          go_ret
          refine ⟨_, rfl, ?_, hbel.trans (hbel2.mono hbs)⟩
          rw [← F.out]
          exact hown2.base hbs
        · obtain rfl : d = 1 := by omega
          have hkL : k ≤ L := by
            rcases Nat.lt_or_ge L k with h | h
            · have := hend (by omega); omega
            · exact h
          have R2 : Hid (val (zs ++ [1]) + 2 ^ (k + 1) * ((0 : Int).toNat + val (xs.drop (k + 1)) + val (ys.drop (k + 1))) = val xs + val ys) := by
            have := R.out 1 (by have := HP.out; have := HQ.out; omega)
            rwa [show (((1 : Int) + p + q) / 2).toNat = (0 : Int).toNat by have := HP.out; have := HQ.out; omega] at this
          have B2 : Hid (Bin (zs ++ [1])) := hzb.snoc _ (by omega)
          go_wp2_with (at_builtin; refine wpList_app1 rfl _ _ rfl w.heap.size _ zs rfl hown _ rfl (by omega) hbs ?_)
          intro v' w1 hown' hbel'
          go_wp2
          go_roundw
          case rel => exact ⟨k + 1, 0, zs ++ [1], by go_num, rfl, by omega, by rw [List.length_append, HZ.out]; rfl, B2.out, by omega, by omega, R2.out, hown', hbel.trans hbel'⟩
          case measure => simp [intOf]; omega
end Go.Proofs.Ytgpgmnmifhkmbaa
