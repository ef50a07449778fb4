/-
  What the helpers of the laws of layer 2 return: the document's example holds; a number's list of bits; the number of a list's lowest 128 bits.
-/
import Derived.Test.YtaplnhnimplkdaaWideE
import Derived.Test.YtaplnhnimplkdaaRef02G
namespace Go.Proofs.Ytaplnhnimplkdaa
open Go.RowKit
set_option linter.unusedVariables false

theorem rBack (v : Value) (xs : List Int) (w : World) (hs : Sees w v xs) (hx : Bin xs) (hl : xs.length ≤ 100000) :
    Calls Try.prog 40 #[v] w fun e w' => ∃ h l, e = .returned (.agg #[.int .u64 h, .int .u64 l]) ∧ 0 ≤ h ∧ h < 18446744073709551616 ∧ 0 ≤ l ∧ l < 18446744073709551616 ∧ wid h l = val xs % 2 ^ 128 ∧ Below w.heap.size w w' := by
  have hbl : (bl (val xs / 2 ^ (64 : Int).toNat)).length ≤ 100000 := by
    have h1 : (bl (val xs / 2 ^ (64 : Int).toNat)).length ≤ xs.length := (bl_length_le _ _).2 (Nat.lt_of_le_of_lt (Nat.div_le_self _ _) (val_lt xs hx))
    omega
  go_enter Try.func40, Try.ntmps40
  go_wp2_with fail
  refine (rDown _ _ _ _ (hs.alloc _) hx hl).mono ?_
  rintro e w1 ⟨v1, rfl, hown1, hb1⟩
  have f0 := hb1.cell (p := ⟨w.heap.size, 0, none⟩) (by simp)
  have f1 := hb1.cell (p := ⟨w.heap.size, 1, none⟩) (by simp)
  have f2 := hb1.frozen (p := ⟨w.heap.size, 0, none⟩) (by simp)
  have f3 := hb1.frozen (p := ⟨w.heap.size, 1, none⟩) (by simp)
  simp [go_sem] at f0 f1 f2 f3
  have hbw : Below w.heap.size w w1 := ((Below.refl _ _).alloc (Nat.le_refl _) _).trans (hb1.mono (by simp))
  have hs1 := hs.below hbw
  have hz : w.heap.size < w1.heap.size := by have := hb1.size; simp at this; omega
  clear hb1
  go_wp2_with fail
  refine (rNum _ _ _ hown1.sees (bl_bin _) (by omega)).mono ?_
  rintro e w2 ⟨rfl, rfl⟩
  rw [val_bl]
  obtain ⟨h, hh⟩ : ∃ h : Int, ((val xs / 2 ^ (64 : Int).toNat : Nat) : Int) % 18446744073709551616 = h := ⟨_, rfl⟩
  obtain ⟨l, hl'⟩ : ∃ l : Int, ((val xs : Nat) : Int) % 18446744073709551616 = l := ⟨_, rfl⟩
  have E : Hid (0 ≤ h ∧ h < 18446744073709551616 ∧ 0 ≤ l ∧ l < 18446744073709551616 ∧ wid h l = val xs % 2 ^ 128) := by
    rw [show (64 : Int).toNat = 64 by rfl] at hh
    unfold wid
    show _ ∧ _
    refine ⟨by omega, by omega, by omega, by omega, by omega⟩
  rw [hh]
  have HL : Hid (_ = _) := hl'
  clear hh hl'
  go_wp2_with fail
  refine (rNum _ _ _ hs1 hx (by omega)).mono ?_
  rintro e w2 ⟨rfl, rfl⟩
  rw [HL.out]
  go_wp2
  refine bodyPost_ret (v := .agg #[.int .u64 h, .int .u64 l]) (by simp [results, Try.results40, go_sem, *]) rfl ⟨h, l, rfl, E.out.1, E.out.2.1, E.out.2.2.1, E.out.2.2.2.1, E.out.2.2.2.2, ?_⟩
  first | exact hbw.setCell (by simp) _ | exact (hbw.setCell (by simp) _).setCell (by simp) _
set_option maxHeartbeats 1000000 in
theorem rList (ah al : Int) (w : World) (a0 : 0 ≤ ah) (a1 : ah < 18446744073709551616) (a2 : 0 ≤ al) (a3 : al < 18446744073709551616) :
    Calls Try.prog 34 #[.agg #[.int .u64 ah, .int .u64 al]] w fun e w' => ∃ v, e = .returned v ∧ Own w' w.heap.size v (bl (wid ah al)) ∧ Below w.heap.size w w' := by
  have hl1 : (bl al.toNat).length ≤ 64 := (bl_length_le _ 64).2 (by omega)
  have hl2 : (bl ah.toNat).length ≤ 64 := (bl_length_le _ 64).2 (by omega)
  have hl3 : (bl (2 ^ (64 : Int).toNat * val (bl ah.toNat))).length ≤ 128 := by
    rw [val_bl]
    refine (bl_length_le _ 128).2 ?_
    rw [show (64 : Int).toNat = 64 by rfl]
    omega
  have E : Hid (val (bl al.toNat) + val (bl (2 ^ (64 : Int).toNat * val (bl ah.toNat))) = wid ah al) := by
    show _ = _
    rw [val_bl, val_bl, val_bl, show (64 : Int).toNat = 64 by rfl]
    unfold wid
    omega
  go_enter Try.func34, Try.ntmps34
  go_wp2_with fail
  go_region_held3 (fun w' => w'.cell? ⟨w.heap.size, 0, none⟩ = some (.int .u64 ah) ∧ w'.cell? ⟨w.heap.size, 1, none⟩ = some (.int .u64 al)) (simp [go_sem, *])
    (first | (go_at_call_of 47 al; refine (rOf _ _ a2 a3).mono ?_; rintro e w1 ⟨v1, rfl, own1, hb1⟩; have f0 := hb1.cell (p := ⟨w.heap.size, 0, none⟩) (by simp); have f1 := hb1.cell (p := ⟨w.heap.size, 1, none⟩) (by simp); simp [go_sem] at f0 f1; have hx1 : Below w.heap.size w w1 := (((Below.refl _ _).alloc (Nat.le_refl _) _).drew).trans (hb1.mono (by simp)); have hz1 : w.heap.size < w1.heap.size := (by have := hb1.size; simp at this; omega)) | (go_at_call_of 47 ah; refine (rOf _ _ a0 a1).mono ?_; rintro e w2 ⟨v2, rfl, own2, hb2⟩; have g0 := cell_later hb2 f0; have g1 := cell_later hb2 f1) | (go_at_call 38; refine (rUp _ _ _ _ own2.sees (bl_bin _) (by omega) (by omega)).mono ?_; rintro e w3 ⟨v3, rfl, own3, hb3⟩; have k0 := cell_later hb3 g0; have k1 := cell_later hb3 g1; have own13 := (own1.below hb2).below hb3; have hb13 : Below w1.heap.size w1 w3 := hb2.trans (hb3.mono hb2.size)) | (go_at_call 35; refine (rAdd _ _ _ _ _ own13.sees own3.sees (bl_bin _) (bl_bin _) (by omega) (by omega)).mono ?_; rintro e w4 ⟨v4, rfl, own4, hb4⟩; have m0 := cell_later hb4 k0; have m1 := cell_later hb4 k1; have hb14 : Below w1.heap.size w1 w4 := hb13.trans (hb4.mono hb13.size)))
  go_wp2
  go_ret
  rw [E.out] at own4
  exact ⟨_, rfl, own4.base (by have := hb13.size; omega), hx1.trans (hb14.mono (by omega))⟩
set_option maxHeartbeats 1000000 in
theorem rHead2 (w : World) : Calls Try.prog 33 #[] w fun e w' => e = .returned (.bool true) ∧ Below w.heap.size w w' := by
  go_enter Try.func33, Try.ntmps33
  go_wp2_with fail
  refine (wMul _ _ _ (by omega) (by omega) (by omega) (by omega)).mono ?_
  rintro e w1 ⟨h, l, rfl, k0, k1, k2, k3, k4, hb1⟩
  rw [show (9223372036854775808 : Int).toNat * (4 : Int).toNat = 36893488147419103232 by decide +kernel] at k4
  obtain ⟨rfl, rfl⟩ : h = 2 ∧ l = 0 := by unfold wid at k4; omega
  have hz := hb1.size
  clear k4
  go_wp2_with fail
  refine (wSqrt _ _ _ (by omega) (by omega) (by omega) (by omega)).mono ?_
  rintro e w2 ⟨r, rfl, r0, r1, r2, r3, hb2⟩
  obtain rfl : r = 6074000999 := by
    have e : wid 2 0 = 36893488147419103232 := by decide +kernel
    rw [e] at r2 r3
    have u1 : r.toNat < 6074001000 := by
      rcases Nat.lt_or_ge r.toNat 6074001000 with h | h
      · exact h
      · have := Nat.mul_le_mul h h; omega
    have u2 : 6074000999 ≤ r.toNat := by
      rcases Nat.lt_or_ge r.toNat 6074000999 with h | h
      · have := Nat.mul_le_mul (show r.toNat + 1 ≤ 6074000999 by omega) (show r.toNat + 1 ≤ 6074000999 by omega); omega
      · exact h
    omega
  have D : decide ((6074000999 : Int).toNat * (6074000999 : Int).toNat = wid 2 0) = false := by decide +kernel
  rw [D]
  clear D r2 r3
  have f0 := hb2.cell (p := ⟨w1.heap.size, 0, none⟩) (by simp)
  have f1 := hb2.cell (p := ⟨w1.heap.size, 1, none⟩) (by simp)
  simp [go_sem] at f0 f1
  go_wp2
  go_ret
  exact ⟨ret_eq rfl, (hb1.trans (((Below.refl _ _).alloc hz _).trans (hb2.mono (by simp; omega))))⟩
end Go.Proofs.Ytaplnhnimplkdaa
