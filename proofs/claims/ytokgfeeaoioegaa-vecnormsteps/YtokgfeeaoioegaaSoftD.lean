/-
  What soft's sum of two numbers returns: the exact sum, rounded.
-/
import Derived.Test.YtokgfeeaoioegaaSoftC
import Derived.Test.YtokgfeeaoioegaaRndM
import Derived.Deep.DeepCutAuto
import Derived.Deep.RegionWith
namespace Go.Proofs.Ytokgfeeaoioegaa
open Go.RowKit
set_option linter.unusedVariables false

theorem wid_hi (h : Int) (h0 : 0 ≤ h) : wid h 0 = h.toNat * 2 ^ 64 := by unfold wid; omega
/-- All that the walk of a sum wants to know. -/
theorem addN_facts (g s : Int) (hg : mag g < 9218868437227405312) (hs : mag s ≤ mag g) (hnz : mag g ≠ 0) :
    (let X := wid (wMant g) 0; let Y := wid (wMant s) 0; let n := (wPow g - wPow s).toNat; let lo := lostB Y n
     X < 2 ^ 117 ∧ Y / 2 ^ n + lo.toNat ≤ 2 ^ 117 ∧ clampE (wPow g - 64) = wPow g - 64
     ∧ (sgn g = sgn s → rndS (sv g + sv s) = (sgnB (sgn g) + ((numR (X + Y / 2 ^ n) (wPow g - 64) lo : Nat) : Int), ((flagR (X + Y / 2 ^ n) (wPow g - 64) lo : Nat) : Int)))
     ∧ (sgn g ≠ sgn s → Y / 2 ^ n + lo.toNat ≤ X ∧ rndS (sv g + sv s) = (sgnB (sgn g && decide (X - (Y / 2 ^ n + lo.toNat) ≠ 0)) + ((numR (X - (Y / 2 ^ n + lo.toNat)) (wPow g - 64) lo : Nat) : Int), ((flagR (X - (Y / 2 ^ n + lo.toNat)) (wPow g - 64) lo : Nat) : Int)))) := by
  obtain ⟨p1, p2, p3, p4⟩ := parts_bd g
  obtain ⟨q1, q2, q3, q4⟩ := parts_bd s
  have hVg := parts_V g hg
  have hVs := parts_V s (by omega)
  have hle := V_mono _ _ hs
  have hpos := V_pos (mag g) (by omega)
  have hP : (wMant s).toNat = 0 ∨ (wPow s ≤ wPow g ∧ (wPow g = wPow s ∨ 4503599627370496 ≤ (wMant g).toNat)) := by
    by_cases hz : mag s = 0
    · left; rw [(mant_zero s (by omega)).2 hz]; rfl
    · right; exact pow_order g s hg hs hz
  have al := add_lay (wMant g).toNat (wMant s).toNat (wPow g) (wPow s) p3 q3 hP
  have sl := sub_lay (wMant g).toNat (wMant s).toNat (wPow g) (wPow s) p3 q3 (by omega) hP (by rw [← hVg, ← hVs]; exact hle)
  rw [← hVg, ← hVs] at al sl
  simp only
  rw [wid_hi _ p1, wid_hi _ q1]
  have hb1 : (wMant g).toNat * 2 ^ 64 < 2 ^ 53 * 2 ^ 64 := Nat.mul_lt_mul_of_pos_right (by omega) (by decide)
  have hb2 : (wMant s).toNat * 2 ^ 64 < 2 ^ 53 * 2 ^ 64 := Nat.mul_lt_mul_of_pos_right (by omega) (by decide)
  rw [← Nat.pow_add] at hb1 hb2
  refine ⟨hb1, ?_, clampE_in _ (by omega) (by omega), ?_, ?_⟩
  · have h1 := Nat.div_le_self ((wMant s).toNat * 2 ^ 64) (2 ^ (wPow g - wPow s).toNat)
    have h2 : (lostB ((wMant s).toNat * 2 ^ 64) (wPow g - wPow s).toNat).toNat ≤ 1 := Bool.toNat_le _
    omega
  · intro hsg
    rw [rnd_same g s hsg hpos, ← al.1, ← al.2]
    rfl
  · intro hsg
    refine ⟨sl.1, ?_⟩
    rw [rnd_diff g s hsg hle, ← sl.2.2.1, ← sl.2.2.2]
    unfold lostB
    rw [show decide (V (mag g) ≠ V (mag s)) = decide (((wMant g).toNat * 2 ^ 64 - ((wMant s).toNat * 2 ^ 64 / 2 ^ (wPow g - wPow s).toNat + (decide ((wMant s).toNat * 2 ^ 64 % 2 ^ (wPow g - wPow s).toNat ≠ 0)).toNat)) ≠ 0) by rw [decide_eq_decide, ne_eq, ne_eq, sl.2.1]]

set_option maxRecDepth 100000 in
set_option maxHeartbeats 2000000 in
theorem pAddN (g s : Int) (w : World) (h0 : 0 ≤ g) (h1 : g < 18446744073709551616) (g0 : 0 ≤ s) (g1 : s < 18446744073709551616) (hg : mag g < 9218868437227405312) (hs : mag s ≤ mag g) (hnz : mag g ≠ 0) :
    Calls Try.prog 111 #[.int .u64 g, .int .u64 s] w fun e w' => e = .returned (.tuple #[.int .u64 (rndS (sv g + sv s)).1, .int .u8 (rndS (sv g + sv s)).2]) ∧ Below w.heap.size w w' := by
  obtain ⟨p1, p2, p3, p4⟩ := parts_bd g
  obtain ⟨q1, q2, q3, q4⟩ := parts_bd s
  obtain ⟨f1, f2, f3, f4, f5⟩ := addN_facts g s hg hs hnz
  have F : Hid (_ ∧ _ ∧ _ ∧ _ ∧ _) := ⟨f1, f2, f3, f4, f5⟩
  clear f1 f2 f3 f4 f5 hg hs hnz
  have h2 : wMant g < 18446744073709551616 := by omega
  have h3 : wMant s < 18446744073709551616 := by omega
  obtain ⟨sg, hsg⟩ : ∃ b, sgn g = b := ⟨_, rfl⟩
  obtain ⟨ss, hss⟩ : ∃ b, sgn s = b := ⟨_, rfl⟩
  rw [hsg, hss] at F
  have SG : Hid (decide (9223372036854775808 ≤ g) = sg) := hsg
  have SS : Hid (decide (9223372036854775808 ≤ s) = ss) := hss
  clear hsg hss
  go_enter Try.func111, Try.ntmps111
  go_wp2_with fail
  refine (parts_any _ _ h0 h1).mono ?_
  rintro e w1 ⟨rfl, rfl⟩
  go_wp2_with fail
  refine (parts_any _ _ g0 g1).mono ?_
  rintro e w1 ⟨rfl, rfl⟩
  go_wp2_with fail
  refine (wRight _ _ _ _ q1 h3 (by omega) (by omega) (by omega)).mono ?_
  rintro e w2 ⟨u, l, rfl, b0, b1, b2, b3, b4, hb2⟩
  have c0 := hb2.cell (p := ⟨w1.heap.size, 0, none⟩) (by simp)
  have c1 := hb2.cell (p := ⟨w1.heap.size, 1, none⟩) (by simp)
  simp [go_sem] at c0 c1
  have hbw : Below w1.heap.size w1 w2 := (bmore (Below.refl _ _) _).trans (hb2.mono (by simp))
  have hz : w1.heap.size < w2.heap.size := by have := hb2.size; simp at this; omega
  clear hb2
  obtain ⟨lo, hlo⟩ : ∃ b, lostB (wid (wMant s) 0) (wPow g - wPow s).toNat = b := ⟨_, rfl⟩
  rw [hlo]
  have FF := F.out
  simp only [hlo, ← b4] at FF
  have F2 : Hid (_ ∧ _ ∧ _ ∧ _ ∧ _) := FF
  clear F FF b4 hlo
  go_wp2_with fail
  refine (neg_any _ _ h0 h1).mono ?_
  rintro e w3 ⟨rfl, rfl⟩
  rw [SG.out]
  go_wp2_with fail
  refine (neg_any _ _ g0 g1).mono ?_
  rintro e w3 ⟨rfl, rfl⟩
  rw [SS.out]
  by_cases hss : sg = ss
  · subst hss
    go_wp2_with fail
    refine (wAdd _ _ _ _ _ p1 h2 (by omega) (by omega) b0 b1 b2 b3).mono ?_
    rintro e w4 ⟨u4, l4, rfl, d0, d1, d2, d3, d4, hb4⟩
    have R : Hid (_ = _) := F2.out.2.2.2.1 (by first | rfl | trivial)
    have hbx : Below w1.heap.size w1 w4 := (bmore hbw _).trans (hb4.mono (by simp; omega))
    clear hb4
    have D4 : Hid (wid u4 l4 = wid (wMant g) 0 + wid u l) := by
      show _ = _
      rw [d4]
      refine Nat.mod_eq_of_lt ?_
      have t1 := F2.out.1
      have t2 := F2.out.2.1
      have e1 : (2 : Nat) ^ 117 + 2 ^ 117 = 2 ^ 118 := by decide
      have e2 : (2 : Nat) ^ 118 < 2 ^ 128 := by decide
      omega
    clear d4
    go_wp2_with fail
    refine (pRound _ _ _ _ _ _ d0 d1 d2 d3).mono ?_
    rintro e w5 ⟨rfl, hb5⟩
    rw [D4.out, F2.out.2.2.1]
    have hby : Below w1.heap.size w1 w5 := (bmore hbx _).trans (hb5.mono (by simp; have := hbx.size; omega))
    go_wp2
    go_ret2
    refine ⟨?_, hby⟩
    rw [R.out]
    rfl
  · obtain ⟨R0, R1⟩ := F2.out.2.2.2.2 hss
    have E0 : Hid (_ ≤ _) := R0
    have E1 : Hid (_ = _) := R1
    clear R0 R1
    have hbn : (sg == ss) = false := by simpa using hss
    have hz2 : w2.heap.size < (w2.alloc (.cells #[.int .u64 u, .int .u64 l] 101)).heap.size := by simp
    go_upto_if 59 with fail
    go_cut [12] (fun t wx => t = .bool lo ∧ ∃ u' l' : Int, 0 ≤ u' ∧ u' < 18446744073709551616 ∧ 0 ≤ l' ∧ l' < 18446744073709551616 ∧ Hid (wid u' l' = wid u l + lo.toNat) ∧ wx.cell? ⟨w1.heap.size, 0, none⟩ = some (.int .u64 (wMant g)) ∧ wx.cell? ⟨w1.heap.size, 1, none⟩ = some (.int .u64 0) ∧ wx.cell? ⟨w2.heap.size, 0, none⟩ = some (.int .u64 u') ∧ wx.cell? ⟨w2.heap.size, 1, none⟩ = some (.int .u64 l') ∧ w2.heap.size < wx.heap.size ∧ Below w1.heap.size w1 wx)
    case first =>
      cases lo
      · go_wp2
        go_meet
        refine ⟨rfl, u, l, b0, b1, b2, b3, rfl, ?_, ?_, ?_, ?_, hz2, bmore hbw _⟩
        · simp [go_sem, *]
        · simp [go_sem, *]
        · simp [go_sem, *]
        · simp [go_sem, *]
      · go_wp2_with fail
        refine (wAdd _ _ _ _ _ b0 b1 b2 b3 (by omega) (by omega) (by omega) (by omega)).mono ?_
        rintro e w4 ⟨u4, l4, rfl, d0, d1, d2, d3, d4, hb4⟩
        have hb24 : Below w2.heap.size w2 w4 := (bmore (Below.refl _ _) _).trans (hb4.mono (by simp))
        have x0 := cell_later hb24 c0
        have x1 := cell_later hb24 c1
        have x2 := hb4.cell (p := ⟨w2.heap.size, 0, none⟩) (by simp)
        have x3 := hb4.cell (p := ⟨w2.heap.size, 1, none⟩) (by simp)
        have x4 := hb4.frozen (p := ⟨w2.heap.size, 0, none⟩) (by simp)
        have x5 := hb4.frozen (p := ⟨w2.heap.size, 1, none⟩) (by simp)
        simp [go_sem] at x2 x3 x4 x5
        have hz4 : w2.heap.size < w4.heap.size := by have := hb4.size; simp at this; omega
        have hbx : Below w1.heap.size w1 w4 := (bmore hbw _).trans (hb4.mono (by simp; omega))
        have D4 : Hid (wid u4 l4 = wid u l + (true : Bool).toNat) := by
          show _ = _
          rw [d4, show wid 0 1 = 1 from rfl]
          refine Nat.mod_eq_of_lt ?_
          have t2 := F2.out.2.1
          rw [show (true : Bool).toNat = 1 from rfl] at t2
          have e2 : (2 : Nat) ^ 117 < 2 ^ 128 := by decide
          omega
        clear hb4 d4
        go_wp2
        go_meet
        refine ⟨rfl, u4, l4, d0, d1, d2, d3, D4, ?_, ?_, ?_, ?_, by simp; omega, (hbx.setCell (by simp; omega) _).setCell (by simp; omega) _⟩
        · simp [go_sem, *]
        · simp [go_sem, *]
        · simp [go_sem, *]
        · simp [go_sem, *]
    case rest =>
      obtain ⟨rfl, u', l', k0, k1, k2, k3, K4, y0, y1, y2, y3, hzx, hbx⟩ := hcut
      clear c0 c1
      go_wp2_with fail
      refine (wSub _ _ _ _ _ p1 h2 (by omega) (by omega) k0 k1 k2 k3).mono ?_
      rintro e w5 ⟨u5, l5, rfl, d0, d1, d2, d3, d4, hb5⟩
      have hby := bstep hbx hb5
      have D4 : Hid (wid u5 l5 = wid (wMant g) 0 - (wid u l + lo.toNat)) := by
        show _ = _
        rw [d4, K4.out]
        have t1 := F2.out.1
        have t2 := E0.out
        have e2 : (2 : Nat) ^ 117 < 2 ^ 128 := by decide
        rw [show 2 ^ 128 + wid (wMant g) 0 - (wid u l + lo.toNat) = (wid (wMant g) 0 - (wid u l + lo.toNat)) + 2 ^ 128 by omega, Nat.add_mod_right]
        exact Nat.mod_eq_of_lt (by omega)
      clear hb5 d4
      have hsub : IntKind.i64.wrap (wPow g - 64) = wPow g - 64 := by rw [IntKind.wrap_i64]; omega
      cases sg
      · go_wp2_with fail
        go_region_with (first | (go_at_call 77; refine (pRound _ _ _ _ _ _ d0 d1 d2 d3).mono ?_; rintro e w7 ⟨rfl, hb7⟩; have hb57 : Below w1.heap.size w1 w7 := ((bmore hby _).drew).trans (hb7.mono (by have := hby.size; simp; omega))))
        all_goals go_wp2
        all_goals go_ret2
        all_goals (refine ⟨?_, hb57⟩; rw [E1.out, D4.out, F2.out.2.2.1]; rfl)
      · go_wp2_with fail
        go_region_held3 (fun w' => w'.cell? ⟨w5.heap.size, 0, none⟩ = some (.int .u64 u5) ∧ w'.cell? ⟨w5.heap.size, 1, none⟩ = some (.int .u64 l5)) (simp [go_sem, *])
          (first | (go_at_call 104; refine (wZero _ _ _ d0 d1 d2 d3).mono ?_; rintro e w6 ⟨rfl, hb6⟩; have v0 := hb6.cell (p := ⟨w5.heap.size, 0, none⟩) (by simp); have v1 := hb6.cell (p := ⟨w5.heap.size, 1, none⟩) (by simp); simp [go_sem] at v0 v1; have hb56 : Below w1.heap.size w1 w6 := ((bmore hby _).drew).trans (hb6.mono (by have := hby.size; simp; omega)) ) | (go_at_call 77; refine (pRound _ _ _ _ _ _ d0 d1 d2 d3).mono ?_; rintro e w7 ⟨rfl, hb7⟩; have x0 := cell_later hb7 v0; have x1 := cell_later hb7 v1))
        go_wp2
        go_ret2
        refine ⟨?_, bstep hb56 hb7⟩
        rw [E1.out, D4.out, F2.out.2.2.1]
        rw [show (!decide (wid (wMant g) 0 - (wid u l + lo.toNat) = 0)) = (true && decide (wid (wMant g) 0 - (wid u l + lo.toNat) ≠ 0)) by simp]
        rfl
end Go.Proofs.Ytokgfeeaoioegaa
