/-
  What the helpers of the laws of layer 3 return: the document's example holds; a number of two words as a list of bits.
-/
import Derived.Test.YtbflkcpcbnkpbaaBst
import Derived.Test.YtbflkcpcbnkpbaaRoundC
import Derived.Test.YtbflkcpcbnkpbaaRef03C
import Derived.Deep.RegionHeld3
namespace Go.Proofs.Ytbflkcpcbnkpbaa
open Go.RowKit
set_option linter.unusedVariables false

theorem len_of (x n : Nat) (h1 : 2 ^ n ≤ x) (h2 : x < 2 ^ (n + 1)) : (bl x).length = n + 1 := by
  have a := (bl_length_le x (n + 1)).2 h2
  have b := (bl_length_lt x n).2 h1
  omega
theorem head3_num (x k : Nat) (h1 : 2 ^ 53 ≤ x) (h2 : x < 2 ^ 54) (hr : rne x 1 = k) (hk : k < 9007199254740992) (hl : x % 2 = 1) : numR x (clampE 0) false = k + 1075 * 4503599627370496 ∧ flagR x (clampE 0) false = 1 := by
  have hlen := len_of x 53 h1 h2
  have hL : lastP x 0 = 1 := by unfold lastP; rw [hlen]; omega
  have hp : patP x 0 = k + 1075 * 4503599627370496 := by
    unfold patP keptP rneI
    rw [if_neg (by omega), hL, if_pos (by omega), show ((1 : Int) - 0).toNat = 1 from rfl, hr, show ((1 : Int) + 1074).toNat = 1075 from rfl]
  rw [clampE_in 0 (by omega) (by omega), (numR_false x 0).1, (numR_false x 0).2]
  unfold numP flagP
  have hlo : lostP x 0 = true := by
    unfold lostP lostI
    rw [hL, decide_eq_true_eq]
    exact ⟨by omega, by rw [show ((1 : Int) - 0).toNat = 1 from rfl]; omega⟩
  rw [hp, if_neg (by omega), if_pos ⟨by omega, hlo⟩]
  · refine ⟨by omega, ?_⟩
    unfold smallP
    rw [hlen, decide_eq_false (by omega)]
    rfl
theorem rHead3 (w : World) : Calls Try.prog 16 #[] w fun e w' => e = .returned (.bool true) ∧ Below w.heap.size w w' := by
  have A := head3_num 9007199254740993 4503599627370496 (by decide) (by decide) (by decide +kernel) (by decide) (by decide)
  have B := head3_num 9007199254740995 4503599627370498 (by decide) (by decide) (by decide +kernel) (by decide) (by decide)
  have e1 : wid 0 9007199254740993 = 9007199254740993 := by decide
  have e2 : wid 0 9007199254740995 = 9007199254740995 := by decide
  have A' : Hid (_ ∧ _) := A
  have B' : Hid (_ ∧ _) := B
  have E1 : Hid (_ = _) := e1
  have E2 : Hid (_ = _) := e2
  clear A B e1 e2
  go_enter Try.func16, Try.ntmps16
  go_wp2_with fail
  refine (pRound _ _ _ _ _ _ (by omega) (by omega) (by omega) (by omega)).mono ?_
  rintro e w1 ⟨rfl, hb1⟩
  rw [E1.out, A'.out.1, A'.out.2]
  go_wp2_with fail
  refine (pRound _ _ _ _ _ _ (by omega) (by omega) (by omega) (by omega)).mono ?_
  rintro e w2 ⟨rfl, hb2⟩
  rw [E2.out, B'.out.1, B'.out.2]
  have m1 : wMake false 1076 0 = 4845873199050653696 := by decide
  have m2 : wMake false 1076 2 = 4845873199050653698 := by decide
  have s1 : sgnB false = 0 := rfl
  go_wp2_with (go_at_call 51; refine (make_any _ _ _ _ (by omega) (by omega)).mono ?_; rintro e w' ⟨rfl, rfl⟩)
  go_ret
  refine ⟨ret_eq (bool_eq ?_), bstep hb1 hb2⟩
  rfl
set_option maxHeartbeats 1000000 in
theorem rList3 (ah al : Int) (w : World) (a0 : 0 ≤ ah) (a1 : ah < 18446744073709551616) (a2 : 0 ≤ al) (a3 : al < 18446744073709551616) :
    Calls Try.prog 21 #[.agg #[.int .u64 ah, .int .u64 al]] w fun e w' => ∃ v, e = .returned v ∧ Own w' w.heap.size v (bl (wid ah al)) ∧ Below w.heap.size w w' := by
  have hl1 : (bl al.toNat).length ≤ 64 := (bl_length_le _ 64).2 (by omega)
  have hl2 : (bl ah.toNat).length ≤ 64 := (bl_length_le _ 64).2 (by omega)
  have hl3 : (bl (2 ^ (64 : Int).toNat * val (bl ah.toNat))).length ≤ 128 := by
    rw [val_bl]
    refine (bl_length_le _ 128).2 ?_
    rw [show (64 : Int).toNat = 64 by rfl]
    omega
  have E : Hid (val (bl al.toNat) + val (bl (2 ^ (64 : Int).toNat * val (bl ah.toNat))) = wid ah al) := by
    show _ = _
    rw [val_bl, val_bl, val_bl, show (64 : Int).toNat = 64 by rfl]
    unfold wid
    omega
  go_enter Try.func21, Try.ntmps21
  go_wp2_with fail
  go_region_held3 (fun w' => w'.cell? ⟨w.heap.size, 0, none⟩ = some (.int .u64 ah) ∧ w'.cell? ⟨w.heap.size, 1, none⟩ = some (.int .u64 al)) (simp [go_sem, *])
    (first | (go_at_call_of 30 al; refine (rOf _ _ a2 a3).mono ?_; rintro e w1 ⟨v1, rfl, own1, hb1⟩; have f0 := hb1.cell (p := ⟨w.heap.size, 0, none⟩) (by simp); have f1 := hb1.cell (p := ⟨w.heap.size, 1, none⟩) (by simp); simp [go_sem] at f0 f1; have hx1 : Below w.heap.size w w1 := (((Below.refl _ _).alloc (Nat.le_refl _) _).drew).trans (hb1.mono (by simp)); have hz1 : w.heap.size < w1.heap.size := (by have := hb1.size; simp at this; omega)) | (go_at_call_of 30 ah; refine (rOf _ _ a0 a1).mono ?_; rintro e w2 ⟨v2, rfl, own2, hb2⟩; have g0 := cell_later hb2 f0; have g1 := cell_later hb2 f1) | (go_at_call 23; refine (rUp _ _ _ _ own2.sees (bl_bin _) (by omega) (by omega)).mono ?_; rintro e w3 ⟨v3, rfl, own3, hb3⟩; have k0 := cell_later hb3 g0; have k1 := cell_later hb3 g1; have own13 := (own1.below hb2).below hb3; have hb13 : Below w1.heap.size w1 w3 := hb2.trans (hb3.mono hb2.size)) | (go_at_call 56; refine (rAdd _ _ _ _ _ own13.sees own3.sees (bl_bin _) (bl_bin _) (by omega) (by omega)).mono ?_; rintro e w4 ⟨v4, rfl, own4, hb4⟩; have m0 := cell_later hb4 k0; have m1 := cell_later hb4 k1; have hb14 : Below w1.heap.size w1 w4 := hb13.trans (hb4.mono hb13.size)))
  go_wp2
  go_ret
  rw [E.out] at own4
  exact ⟨_, rfl, own4.base (by have := hb13.size; omega), hx1.trans (hb14.mono (by omega))⟩
end Go.Proofs.Ytbflkcpcbnkpbaa
