/-
  Texts put together: SoftC SoftD SoftE SoftF SoftG MoreC MoreR OrderC RowM.
-/
import Derived.Test.YtpakpgjbgehhjaaGreatProg
import Derived.Test.YtpakpgjbgehhjaaGreatGrA
import Derived.Test.YtpakpgjbgehhjaaGreatGrC
import Derived.Deep.RegionHeld3
import Derived.LoopN
import Derived.Deep.DeepCutAuto
import Derived.Deep.RegionWith
/-
  What the helpers of package soft return: what is no number, zeros, infinities, the sum of two numbers.
-/
namespace Go.Proofs.YtpakpgjbgehhjaaGreat
open Go.RowKit
set_option linter.unusedVariables false

theorem isNan_kind (b : Int) : isNan b = decide (wKind b = 5) := by
  unfold isNan
  rw [decide_eq_decide, wKind_nan]
  unfold mag
  omega
set_option maxHeartbeats 1000000 in
theorem pNo (a b : Int) (k : Nat) (w : World) (h0 : 0 ≤ a) (h1 : a < 18446744073709551616) (g0 : 0 ≤ b) (g1 : b < 18446744073709551616)
    (c0 : w.cell? ⟨k, 0, none⟩ = some (.int .u64 a)) (c1 : w.cell? ⟨k, 1, none⟩ = some (.int .u64 b)) :
    Calls Tryz.prog 87 #[.slice (some ⟨k, 0, none⟩) 2 2] w fun e w' => e = .returned (.tuple #[.bool (isNan a || isNan b), .int .u8 (nanF a b)]) ∧ w' = w := by
  rw [isNan_kind, isNan_kind]
  unfold nanF
  obtain ⟨sa, hsa⟩ : ∃ s, sigs a = s := ⟨_, rfl⟩
  obtain ⟨sb, hsb⟩ : ∃ s, sigs b = s := ⟨_, rfl⟩
  rw [hsa, hsb]
  unfold sigs at hsa hsb
  have SA : Hid (_ = _) := hsa
  have SB : Hid (_ = _) := hsb
  clear hsa hsb
  obtain ⟨ka, hka⟩ : ∃ s, wKind a = s := ⟨_, rfl⟩
  obtain ⟨kb, hkb⟩ : ∃ s, wKind b = s := ⟨_, rfl⟩
  have KA : Hid (_ = _) := hka
  have KB : Hid (_ = _) := hkb
  rw [hka, hkb]
  clear hka hkb
  by_cases ea : ka = 5
  all_goals
    by_cases eb : kb = 5
    all_goals
      cases sa
      all_goals
        cases sb
        all_goals
          (try subst ea)
          (try subst eb)
          go_enter Tryz.func87, Tryz.ntmps87
          go_wp2_with fail
          refine wp_loop_rounds 3 ?_
          rw [rounds_succ]
          go_wp2_with (first | (go_at_call 92; refine (kind_any _ _ h0 h1).mono ?_; rintro e w' ⟨rfl, rfl⟩; rw [KA.out]) | (go_at_call 107; refine (signals_any _ _ h0 h1).mono ?_; rintro e w' ⟨rfl, rfl⟩; rw [SA.out]))
          rw [rounds_succ]
          go_wp2_with (first | (go_at_call 92; refine (kind_any _ _ g0 g1).mono ?_; rintro e w' ⟨rfl, rfl⟩; rw [KB.out]) | (go_at_call 107; refine (signals_any _ _ g0 g1).mono ?_; rintro e w' ⟨rfl, rfl⟩; rw [SB.out]))
          rw [rounds_succ]
          go_wp2
          go_ret2
          refine ⟨ret_eq (tup2 (bool_eq ?_) (int_eq ?_)), rfl⟩
          · simp [*]
          · rfl
theorem pIsZ (b : Int) (w : World) (h0 : 0 ≤ b) (h1 : b < 18446744073709551616) :
    Calls Tryz.prog 88 #[.int .u64 b] w fun e w' => e = .returned (.bool (isZ b)) ∧ w' = w := by
  go_enter Tryz.func88, Tryz.ntmps88
  go_wp2_with (go_at_call 25; refine (abs_any _ _ h0 h1).mono ?_; rintro e w' ⟨rfl, rfl⟩)
  go_ret
  refine ⟨ret_eq (bool_eq ?_), rfl⟩
  unfold isZ mag
  rw [Bool.eq_iff_iff, beq_iff_eq, decide_eq_true_eq]
  omega
theorem pInf (n : Bool) (w : World) :
    Calls Tryz.prog 89 #[.bool n] w fun e w' => e = .returned (.int .u64 (sgnB n + 9218868437227405312)) ∧ w' = w := by
  cases n
  all_goals
    go_enter Tryz.func89, Tryz.ntmps89
    go_wp2
    go_ret
    exact ⟨ret_eq rfl, rfl⟩
end Go.Proofs.YtpakpgjbgehhjaaGreat

/-
  What soft's sum of two numbers returns: the exact sum, rounded.
-/
namespace Go.Proofs.YtpakpgjbgehhjaaGreat
open Go.RowKit
set_option linter.unusedVariables false

theorem wid_hi (h : Int) (h0 : 0 ≤ h) : wid h 0 = h.toNat * 2 ^ 64 := by unfold wid; omega
/-- All that the walk of a sum wants to know. -/
theorem addN_facts (g s : Int) (hg : mag g < 9218868437227405312) (hs : mag s ≤ mag g) (hnz : mag g ≠ 0) :
    (let X := wid (wMant g) 0; let Y := wid (wMant s) 0; let n := (wPow g - wPow s).toNat; let lo := lostB Y n
     X < 2 ^ 117 ∧ Y / 2 ^ n + lo.toNat ≤ 2 ^ 117 ∧ clampE (wPow g - 64) = wPow g - 64
     ∧ (sgn g = sgn s → rndS (sv g + sv s) = (sgnB (sgn g) + ((numR (X + Y / 2 ^ n) (wPow g - 64) lo : Nat) : Int), ((flagR (X + Y / 2 ^ n) (wPow g - 64) lo : Nat) : Int)))
     ∧ (sgn g ≠ sgn s → Y / 2 ^ n + lo.toNat ≤ X ∧ rndS (sv g + sv s) = (sgnB (sgn g && decide (X - (Y / 2 ^ n + lo.toNat) ≠ 0)) + ((numR (X - (Y / 2 ^ n + lo.toNat)) (wPow g - 64) lo : Nat) : Int), ((flagR (X - (Y / 2 ^ n + lo.toNat)) (wPow g - 64) lo : Nat) : Int)))) := by
  obtain ⟨p1, p2, p3, p4⟩ := parts_bd g
  obtain ⟨q1, q2, q3, q4⟩ := parts_bd s
  have hVg := parts_V g hg
  have hVs := parts_V s (by omega)
  have hle := V_mono _ _ hs
  have hpos := V_pos (mag g) (by omega)
  have hP : (wMant s).toNat = 0 ∨ (wPow s ≤ wPow g ∧ (wPow g = wPow s ∨ 4503599627370496 ≤ (wMant g).toNat)) := by
    by_cases hz : mag s = 0
    · left; rw [(mant_zero s (by omega)).2 hz]; rfl
    · right; exact pow_order g s hg hs hz
  have al := add_lay (wMant g).toNat (wMant s).toNat (wPow g) (wPow s) p3 q3 hP
  have sl := sub_lay (wMant g).toNat (wMant s).toNat (wPow g) (wPow s) p3 q3 (by omega) hP (by rw [← hVg, ← hVs]; exact hle)
  rw [← hVg, ← hVs] at al sl
  simp only
  rw [wid_hi _ p1, wid_hi _ q1]
  have hb1 : (wMant g).toNat * 2 ^ 64 < 2 ^ 53 * 2 ^ 64 := Nat.mul_lt_mul_of_pos_right (by omega) (by decide)
  have hb2 : (wMant s).toNat * 2 ^ 64 < 2 ^ 53 * 2 ^ 64 := Nat.mul_lt_mul_of_pos_right (by omega) (by decide)
  rw [← Nat.pow_add] at hb1 hb2
  refine ⟨hb1, ?_, clampE_in _ (by omega) (by omega), ?_, ?_⟩
  · have h1 := Nat.div_le_self ((wMant s).toNat * 2 ^ 64) (2 ^ (wPow g - wPow s).toNat)
    have h2 : (lostB ((wMant s).toNat * 2 ^ 64) (wPow g - wPow s).toNat).toNat ≤ 1 := Bool.toNat_le _
    omega
  · intro hsg
    rw [rnd_same g s hsg hpos, ← al.1, ← al.2]
    rfl
  · intro hsg
    refine ⟨sl.1, ?_⟩
    rw [rnd_diff g s hsg hle, ← sl.2.2.1, ← sl.2.2.2]
    unfold lostB
    rw [show decide (V (mag g) ≠ V (mag s)) = decide (((wMant g).toNat * 2 ^ 64 - ((wMant s).toNat * 2 ^ 64 / 2 ^ (wPow g - wPow s).toNat + (decide ((wMant s).toNat * 2 ^ 64 % 2 ^ (wPow g - wPow s).toNat ≠ 0)).toNat)) ≠ 0) by rw [decide_eq_decide, ne_eq, ne_eq, sl.2.1]]

set_option maxRecDepth 100000 in
set_option maxHeartbeats 2000000 in
theorem pAddN (g s : Int) (w : World) (h0 : 0 ≤ g) (h1 : g < 18446744073709551616) (g0 : 0 ≤ s) (g1 : s < 18446744073709551616) (hg : mag g < 9218868437227405312) (hs : mag s ≤ mag g) (hnz : mag g ≠ 0) :
    Calls Tryz.prog 106 #[.int .u64 g, .int .u64 s] w fun e w' => e = .returned (.tuple #[.int .u64 (rndS (sv g + sv s)).1, .int .u8 (rndS (sv g + sv s)).2]) ∧ Below w.heap.size w w' := by
  obtain ⟨p1, p2, p3, p4⟩ := parts_bd g
  obtain ⟨q1, q2, q3, q4⟩ := parts_bd s
  obtain ⟨f1, f2, f3, f4, f5⟩ := addN_facts g s hg hs hnz
  have F : Hid (_ ∧ _ ∧ _ ∧ _ ∧ _) := ⟨f1, f2, f3, f4, f5⟩
  clear f1 f2 f3 f4 f5 hg hs hnz
  have h2 : wMant g < 18446744073709551616 := by omega
  have h3 : wMant s < 18446744073709551616 := by omega
  obtain ⟨sg, hsg⟩ : ∃ b, sgn g = b := ⟨_, rfl⟩
  obtain ⟨ss, hss⟩ : ∃ b, sgn s = b := ⟨_, rfl⟩
  rw [hsg, hss] at F
  have SG : Hid (decide (9223372036854775808 ≤ g) = sg) := hsg
  have SS : Hid (decide (9223372036854775808 ≤ s) = ss) := hss
  clear hsg hss
  go_enter Tryz.func106, Tryz.ntmps106
  go_wp2_with fail
  refine (parts_any _ _ h0 h1).mono ?_
  rintro e w1 ⟨rfl, rfl⟩
  go_wp2_with fail
  refine (parts_any _ _ g0 g1).mono ?_
  rintro e w1 ⟨rfl, rfl⟩
  go_wp2_with fail
  refine (wRight _ _ _ _ q1 h3 (by omega) (by omega) (by omega)).mono ?_
  rintro e w2 ⟨u, l, rfl, b0, b1, b2, b3, b4, hb2⟩
  have c0 := hb2.cell (p := ⟨w1.heap.size, 0, none⟩) (by simp)
  have c1 := hb2.cell (p := ⟨w1.heap.size, 1, none⟩) (by simp)
  simp [go_sem] at c0 c1
  have hbw : Below w1.heap.size w1 w2 := (bmore (Below.refl _ _) _).trans (hb2.mono (by simp))
  have hz : w1.heap.size < w2.heap.size := by have := hb2.size; simp at this; omega
  clear hb2
  obtain ⟨lo, hlo⟩ : ∃ b, lostB (wid (wMant s) 0) (wPow g - wPow s).toNat = b := ⟨_, rfl⟩
  rw [hlo]
  have FF := F.out
  simp only [hlo, ← b4] at FF
  have F2 : Hid (_ ∧ _ ∧ _ ∧ _ ∧ _) := FF
  clear F FF b4 hlo
  go_wp2_with fail
  refine (neg_any _ _ h0 h1).mono ?_
  rintro e w3 ⟨rfl, rfl⟩
  rw [SG.out]
  go_wp2_with fail
  refine (neg_any _ _ g0 g1).mono ?_
  rintro e w3 ⟨rfl, rfl⟩
  rw [SS.out]
  by_cases hss : sg = ss
  · subst hss
    go_wp2_with fail
    refine (wAdd _ _ _ _ _ p1 h2 (by omega) (by omega) b0 b1 b2 b3).mono ?_
    rintro e w4 ⟨u4, l4, rfl, d0, d1, d2, d3, d4, hb4⟩
    have R : Hid (_ = _) := F2.out.2.2.2.1 (by first | rfl | trivial)
    have hbx : Below w1.heap.size w1 w4 := (bmore hbw _).trans (hb4.mono (by simp; omega))
    clear hb4
    have D4 : Hid (wid u4 l4 = wid (wMant g) 0 + wid u l) := by
      show _ = _
      rw [d4]
      refine Nat.mod_eq_of_lt ?_
      have t1 := F2.out.1
      have t2 := F2.out.2.1
      have e1 : (2 : Nat) ^ 117 + 2 ^ 117 = 2 ^ 118 := by decide
      have e2 : (2 : Nat) ^ 118 < 2 ^ 128 := by decide
      omega
    clear d4
    go_wp2_with fail
    refine (pRound _ _ _ _ _ _ d0 d1 d2 d3).mono ?_
    rintro e w5 ⟨rfl, hb5⟩
    rw [D4.out, F2.out.2.2.1]
    have hby : Below w1.heap.size w1 w5 := (bmore hbx _).trans (hb5.mono (by simp; have := hbx.size; omega))
    go_wp2
    go_ret2
    refine ⟨?_, hby⟩
    rw [R.out]
    rfl
  · obtain ⟨R0, R1⟩ := F2.out.2.2.2.2 hss
    have E0 : Hid (_ ≤ _) := R0
    have E1 : Hid (_ = _) := R1
    clear R0 R1
    have hbn : (sg == ss) = false := by simpa using hss
    have hz2 : w2.heap.size < (w2.alloc (.cells #[.int .u64 u, .int .u64 l] 104)).heap.size := by simp
    go_upto_if 59 with fail
    go_cut [12] (fun t wx => t = .bool lo ∧ ∃ u' l' : Int, 0 ≤ u' ∧ u' < 18446744073709551616 ∧ 0 ≤ l' ∧ l' < 18446744073709551616 ∧ Hid (wid u' l' = wid u l + lo.toNat) ∧ wx.cell? ⟨w1.heap.size, 0, none⟩ = some (.int .u64 (wMant g)) ∧ wx.cell? ⟨w1.heap.size, 1, none⟩ = some (.int .u64 0) ∧ wx.cell? ⟨w2.heap.size, 0, none⟩ = some (.int .u64 u') ∧ wx.cell? ⟨w2.heap.size, 1, none⟩ = some (.int .u64 l') ∧ w2.heap.size < wx.heap.size ∧ Below w1.heap.size w1 wx)
    case first =>
      cases lo
      · go_wp2
        go_meet
        refine ⟨rfl, u, l, b0, b1, b2, b3, rfl, ?_, ?_, ?_, ?_, hz2, bmore hbw _⟩
        · simp [go_sem, *]
        · simp [go_sem, *]
        · simp [go_sem, *]
        · simp [go_sem, *]
      · go_wp2_with fail
        refine (wAdd _ _ _ _ _ b0 b1 b2 b3 (by omega) (by omega) (by omega) (by omega)).mono ?_
        rintro e w4 ⟨u4, l4, rfl, d0, d1, d2, d3, d4, hb4⟩
        have hb24 : Below w2.heap.size w2 w4 := (bmore (Below.refl _ _) _).trans (hb4.mono (by simp))
        have x0 := cell_later hb24 c0
        have x1 := cell_later hb24 c1
        have x2 := hb4.cell (p := ⟨w2.heap.size, 0, none⟩) (by simp)
        have x3 := hb4.cell (p := ⟨w2.heap.size, 1, none⟩) (by simp)
        have x4 := hb4.frozen (p := ⟨w2.heap.size, 0, none⟩) (by simp)
        have x5 := hb4.frozen (p := ⟨w2.heap.size, 1, none⟩) (by simp)
        simp [go_sem] at x2 x3 x4 x5
        have hz4 : w2.heap.size < w4.heap.size := by have := hb4.size; simp at this; omega
        have hbx : Below w1.heap.size w1 w4 := (bmore hbw _).trans (hb4.mono (by simp; omega))
        have D4 : Hid (wid u4 l4 = wid u l + (true : Bool).toNat) := by
          show _ = _
          rw [d4, show wid 0 1 = 1 from rfl]
          refine Nat.mod_eq_of_lt ?_
          have t2 := F2.out.2.1
          rw [show (true : Bool).toNat = 1 from rfl] at t2
          have e2 : (2 : Nat) ^ 117 < 2 ^ 128 := by decide
          omega
        clear hb4 d4
        go_wp2
        go_meet
        refine ⟨rfl, u4, l4, d0, d1, d2, d3, D4, ?_, ?_, ?_, ?_, by simp; omega, (hbx.setCell (by simp; omega) _).setCell (by simp; omega) _⟩
        · simp [go_sem, *]
        · simp [go_sem, *]
        · simp [go_sem, *]
        · simp [go_sem, *]
    case rest =>
      obtain ⟨rfl, u', l', k0, k1, k2, k3, K4, y0, y1, y2, y3, hzx, hbx⟩ := hcut
      clear c0 c1
      go_wp2_with fail
      refine (wSub _ _ _ _ _ p1 h2 (by omega) (by omega) k0 k1 k2 k3).mono ?_
      rintro e w5 ⟨u5, l5, rfl, d0, d1, d2, d3, d4, hb5⟩
      have hby := bstep hbx hb5
      have D4 : Hid (wid u5 l5 = wid (wMant g) 0 - (wid u l + lo.toNat)) := by
        show _ = _
        rw [d4, K4.out]
        have t1 := F2.out.1
        have t2 := E0.out
        have e2 : (2 : Nat) ^ 117 < 2 ^ 128 := by decide
        rw [show 2 ^ 128 + wid (wMant g) 0 - (wid u l + lo.toNat) = (wid (wMant g) 0 - (wid u l + lo.toNat)) + 2 ^ 128 by omega, Nat.add_mod_right]
        exact Nat.mod_eq_of_lt (by omega)
      clear hb5 d4
      have hsub : IntKind.i64.wrap (wPow g - 64) = wPow g - 64 := by rw [IntKind.wrap_i64]; omega
      cases sg
      · go_wp2_with fail
        go_region_with (first | (go_at_call 105; refine (pRound _ _ _ _ _ _ d0 d1 d2 d3).mono ?_; rintro e w7 ⟨rfl, hb7⟩; have hb57 : Below w1.heap.size w1 w7 := ((bmore hby _).drew).trans (hb7.mono (by have := hby.size; simp; omega))))
        all_goals go_wp2
        all_goals go_ret2
        all_goals (refine ⟨?_, hb57⟩; rw [E1.out, D4.out, F2.out.2.2.1]; rfl)
      · go_wp2_with fail
        go_region_held3 (fun w' => w'.cell? ⟨w5.heap.size, 0, none⟩ = some (.int .u64 u5) ∧ w'.cell? ⟨w5.heap.size, 1, none⟩ = some (.int .u64 l5)) (simp [go_sem, *])
          (first | (go_at_call 113; refine (wZero _ _ _ d0 d1 d2 d3).mono ?_; rintro e w6 ⟨rfl, hb6⟩; have v0 := hb6.cell (p := ⟨w5.heap.size, 0, none⟩) (by simp); have v1 := hb6.cell (p := ⟨w5.heap.size, 1, none⟩) (by simp); simp [go_sem] at v0 v1; have hb56 : Below w1.heap.size w1 w6 := ((bmore hby _).drew).trans (hb6.mono (by have := hby.size; simp; omega)) ) | (go_at_call 105; refine (pRound _ _ _ _ _ _ d0 d1 d2 d3).mono ?_; rintro e w7 ⟨rfl, hb7⟩; have x0 := cell_later hb7 v0; have x1 := cell_later hb7 v1))
        go_wp2
        go_ret2
        refine ⟨?_, bstep hb56 hb7⟩
        rw [E1.out, D4.out, F2.out.2.2.1]
        rw [show (!decide (wid (wMant g) 0 - (wid u l + lo.toNat) = 0)) = (true && decide (wid (wMant g) 0 - (wid u l + lo.toNat) ≠ 0)) by simp]
        rfl
end Go.Proofs.YtpakpgjbgehhjaaGreat

/-
  What soft's Add, Sub, Mul and Div return: addS, mulS, divS, at all patterns.
-/
namespace Go.Proofs.YtpakpgjbgehhjaaGreat
open Go.RowKit
set_option linter.unusedVariables false

theorem fin_inf (b : Int) (h : isNan b = false) : decide (b / 4503599627370496 % 2048 < 2047) = !isInf b := by
  unfold isNan mag at h
  unfold isInf mag
  rw [decide_eq_false_iff_not] at h
  rw [Bool.eq_iff_iff]
  simp only [Bool.not_eq_true', decide_eq_true_eq, decide_eq_false_iff_not]
  omega
set_option maxHeartbeats 1000000 in
theorem pAdd (a b : Int) (w : World) (h0 : 0 ≤ a) (h1 : a < 18446744073709551616) (g0 : 0 ≤ b) (g1 : b < 18446744073709551616) :
    Calls Tryz.prog 85 #[.int .u64 a, .int .u64 b] w fun e w' => e = .returned (.tuple #[.int .u64 (addS a b).1, .int .u8 (addS a b).2]) ∧ Below w.heap.size w w' := by
  obtain ⟨na, hna⟩ : ∃ x, isNan a = x := ⟨_, rfl⟩
  obtain ⟨nb, hnb⟩ : ∃ x, isNan b = x := ⟨_, rfl⟩
  obtain ⟨ia, hia⟩ : ∃ x, isInf a = x := ⟨_, rfl⟩
  obtain ⟨ib, hib⟩ : ∃ x, isInf b = x := ⟨_, rfl⟩
  obtain ⟨za, hza⟩ : ∃ x, isZ a = x := ⟨_, rfl⟩
  obtain ⟨zb, hzb⟩ : ∃ x, isZ b = x := ⟨_, rfl⟩
  have NA : Hid (_ = _) := hna
  have NB : Hid (_ = _) := hnb
  have IA : Hid (_ = _) := hia
  have IB : Hid (_ = _) := hib
  have ZA : Hid (_ = _) := hza
  have ZB : Hid (_ = _) := hzb
  have SA : Hid (decide (9223372036854775808 ≤ a) = sgn a) := rfl
  have SB : Hid (decide (9223372036854775808 ≤ b) = sgn b) := rfl
  have NN : Hid ((isNan a || isNan b) = (na || nb)) := by show _ = _; rw [hna, hnb]
  obtain ⟨S, hS⟩ : ∃ S, addS a b = S := ⟨_, rfl⟩
  rw [hS]
  unfold addS at hS
  rw [hna, hnb, hia, hib, hza, hzb] at hS
  have SP : Hid (_ = S) := hS
  clear hS
  clear hna hnb hia hib hza hzb
  by_cases hn : (na || nb) = true
  · have SP2 : Hid (S = (9221120237041090560, nanF a b)) := by show _ = _; rw [← SP.out, if_pos hn]
    rw [hn] at NN
    clear SP
    go_enter Tryz.func85, Tryz.ntmps85
    go_wp2_with fail
    refine (pNo _ _ _ _ h0 h1 g0 g1 (by simp [go_sem]) (by simp [go_sem])).mono ?_
    rintro e w1 ⟨rfl, rfl⟩
    rw [NN.out]
    go_wp2
    go_ret2
    refine ⟨?_, bmore (Below.refl _ _) _⟩
    rw [SP2.out]
    all_goals rfl
  · have hn2 : na = false ∧ nb = false := by revert hn; cases na <;> cases nb <;> simp
    obtain ⟨rfl, rfl⟩ := hn2
    rw [show (false || false) = false from rfl] at NN
    have FA : Hid (_ = _) := fin_inf a NA.out
    have FB : Hid (_ = _) := fin_inf b NB.out
    rw [IA.out] at FA
    rw [IB.out] at FB
    clear hn
    cases ia
    · cases ib
      · have ma := mag_fin a NA.out IA.out
        have mb := mag_fin b NB.out IB.out
        by_cases hz : (za && zb) = true
        · have hz2 : za = true ∧ zb = true := by revert hz; cases za <;> cases zb <;> simp
          obtain ⟨rfl, rfl⟩ := hz2
          have SP2 : Hid (S = (sgnB (sgn a && sgn b), 0)) := by show _ = _; rw [← SP.out]; rfl
          clear SP
          have hab : bits .and .u64 a b = sgnB (sgn a && sgn b) := by
            rcases zero_two a h0 h1 ZA.out with h | h <;> rcases zero_two b g0 g1 ZB.out with g | g <;> rw [h, g] <;> decide
          have HAB : Hid (_ = _) := hab
          clear hab
          go_enter Tryz.func85, Tryz.ntmps85
          go_wp2_with fail
          refine (pNo _ _ _ _ h0 h1 g0 g1 (by simp [go_sem]) (by simp [go_sem])).mono ?_
          rintro e w1 ⟨rfl, rfl⟩
          rw [NN.out]
          go_wp2_with (first | (go_at_call_of 10 a; refine (finite_any _ _ h0 h1).mono ?_; rintro e w' ⟨rfl, rfl⟩; rw [FA.out]) | (go_at_call_of 10 b; refine (finite_any _ _ g0 g1).mono ?_; rintro e w' ⟨rfl, rfl⟩; rw [FB.out]) | (go_at_call_of 88 a; refine (pIsZ _ _ h0 h1).mono ?_; rintro e w' ⟨rfl, rfl⟩; rw [ZA.out]) | (go_at_call_of 88 b; refine (pIsZ _ _ g0 g1).mono ?_; rintro e w' ⟨rfl, rfl⟩; rw [ZB.out]))
          go_ret2
          refine ⟨?_, bmore (Below.refl _ _) _⟩
          rw [SP2.out, HAB.out]
          all_goals rfl
        · have SP2 : Hid (S = rndS (sv a + sv b)) := by
            show _ = _
            rw [← SP.out, if_neg (by simp), if_neg (by simp), if_neg (by simp), if_neg (by simp), if_neg hz]
          have HZ : Hid (¬ (za && zb) = true) := hz
          clear SP
          have hzz : mag a ≠ 0 ∨ mag b ≠ 0 := by
            have h1 := ZA.out
            have h2 := ZB.out
            unfold isZ at h1 h2
            rcases Nat.eq_zero_or_pos (mag a) with k | k
            · rcases Nat.eq_zero_or_pos (mag b) with k2 | k2
              · exfalso; apply hz; rw [← h1, ← h2, k, k2]; rfl
              · right; omega
            · left; omega
          have HZZ : Hid (_ ∨ _) := hzz
          have MA : Hid ((mag a : Int) = a % 9223372036854775808) := by show _ = _; unfold mag; omega
          have MB : Hid ((mag b : Int) = b % 9223372036854775808) := by show _ = _; unfold mag; omega
          clear hzz hz
          by_cases hlt : a % 9223372036854775808 < b % 9223372036854775808
          · have sc : Hid (_ = _) := sv_comm a b
            cases za
            all_goals
              cases zb
              all_goals
                first
                  | (exfalso; exact HZ.out rfl; done)
                  | skip
              all_goals
                go_enter Tryz.func85, Tryz.ntmps85
                go_wp2_with fail
                refine (pNo _ _ _ _ h0 h1 g0 g1 (by simp [go_sem]) (by simp [go_sem])).mono ?_
                rintro e w1 ⟨rfl, rfl⟩
                rw [NN.out]
                go_wp2_with (first | (go_at_call_of 10 a; refine (finite_any _ _ h0 h1).mono ?_; rintro e w' ⟨rfl, rfl⟩; rw [FA.out]) | (go_at_call_of 10 b; refine (finite_any _ _ g0 g1).mono ?_; rintro e w' ⟨rfl, rfl⟩; rw [FB.out]) | (go_at_call_of 88 a; refine (pIsZ _ _ h0 h1).mono ?_; rintro e w' ⟨rfl, rfl⟩; rw [ZA.out]) | (go_at_call_of 88 b; refine (pIsZ _ _ g0 g1).mono ?_; rintro e w' ⟨rfl, rfl⟩; rw [ZB.out]) | (go_at_call_of 25 a; refine (abs_any _ _ h0 h1).mono ?_; rintro e w' ⟨rfl, rfl⟩) | (go_at_call_of 25 b; refine (abs_any _ _ g0 g1).mono ?_; rintro e w' ⟨rfl, rfl⟩) | fail)
                refine (pAddN b a _ g0 g1 h0 h1 mb (by have := MA.out; have := MB.out; omega) (by have := MA.out; have := MB.out; omega)).mono ?_
                rintro e w' ⟨rfl, hb'⟩
                go_wp2
                go_ret2
                refine ⟨?_, (bmore (Below.refl _ _) _).trans (hb'.mono (by simp))⟩
                rw [SP2.out, sc.out]
                all_goals rfl
          · cases za
            all_goals
              cases zb
              all_goals
                first
                  | (exfalso; exact HZ.out rfl; done)
                  | skip
              all_goals
                go_enter Tryz.func85, Tryz.ntmps85
                go_wp2_with fail
                refine (pNo _ _ _ _ h0 h1 g0 g1 (by simp [go_sem]) (by simp [go_sem])).mono ?_
                rintro e w1 ⟨rfl, rfl⟩
                rw [NN.out]
                go_wp2_with (first | (go_at_call_of 10 a; refine (finite_any _ _ h0 h1).mono ?_; rintro e w' ⟨rfl, rfl⟩; rw [FA.out]) | (go_at_call_of 10 b; refine (finite_any _ _ g0 g1).mono ?_; rintro e w' ⟨rfl, rfl⟩; rw [FB.out]) | (go_at_call_of 88 a; refine (pIsZ _ _ h0 h1).mono ?_; rintro e w' ⟨rfl, rfl⟩; rw [ZA.out]) | (go_at_call_of 88 b; refine (pIsZ _ _ g0 g1).mono ?_; rintro e w' ⟨rfl, rfl⟩; rw [ZB.out]) | (go_at_call_of 25 a; refine (abs_any _ _ h0 h1).mono ?_; rintro e w' ⟨rfl, rfl⟩) | (go_at_call_of 25 b; refine (abs_any _ _ g0 g1).mono ?_; rintro e w' ⟨rfl, rfl⟩) | fail)
                refine (pAddN a b _ h0 h1 g0 g1 ma (by have := MA.out; have := MB.out; omega) (by have := MA.out; have := MB.out; have := HZZ.out; omega)).mono ?_
                rintro e w' ⟨rfl, hb'⟩
                go_wp2
                go_ret2
                refine ⟨?_, (bmore (Below.refl _ _) _).trans (hb'.mono (by simp))⟩
                rw [SP2.out]
                all_goals rfl
      · have SP2 : Hid (S = (b, 0)) := by show _ = _; rw [← SP.out]; rfl
        clear SP
        go_enter Tryz.func85, Tryz.ntmps85
        go_wp2_with fail
        refine (pNo _ _ _ _ h0 h1 g0 g1 (by simp [go_sem]) (by simp [go_sem])).mono ?_
        rintro e w1 ⟨rfl, rfl⟩
        rw [NN.out]
        go_wp2_with (first | (go_at_call_of 10 a; refine (finite_any _ _ h0 h1).mono ?_; rintro e w' ⟨rfl, rfl⟩; rw [FA.out]) | (go_at_call_of 10 b; refine (finite_any _ _ g0 g1).mono ?_; rintro e w' ⟨rfl, rfl⟩; rw [FB.out]))
        go_ret2
        refine ⟨?_, bmore (Below.refl _ _) _⟩
        rw [SP2.out]
        all_goals rfl
    · cases ib
      · have SP2 : Hid (S = (a, 0)) := by show _ = _; rw [← SP.out]; rfl
        clear SP
        go_enter Tryz.func85, Tryz.ntmps85
        go_wp2_with fail
        refine (pNo _ _ _ _ h0 h1 g0 g1 (by simp [go_sem]) (by simp [go_sem])).mono ?_
        rintro e w1 ⟨rfl, rfl⟩
        rw [NN.out]
        go_wp2_with (first | (go_at_call_of 10 a; refine (finite_any _ _ h0 h1).mono ?_; rintro e w' ⟨rfl, rfl⟩; rw [FA.out]) | (go_at_call_of 10 b; refine (finite_any _ _ g0 g1).mono ?_; rintro e w' ⟨rfl, rfl⟩; rw [FB.out]))
        go_ret2
        refine ⟨?_, bmore (Below.refl _ _) _⟩
        rw [SP2.out]
        all_goals rfl
      · by_cases hab : a = b
        · have SP2 : Hid (S = (a, 0)) := by show _ = _; rw [← SP.out, decide_eq_false (fun k => k hab)]; rfl
          clear SP
          subst hab
          go_enter Tryz.func85, Tryz.ntmps85
          go_wp2_with fail
          refine (pNo _ _ _ _ h0 h1 g0 g1 (by simp [go_sem]) (by simp [go_sem])).mono ?_
          rintro e w1 ⟨rfl, rfl⟩
          rw [NN.out]
          go_wp2_with (first | (go_at_call 10; refine (finite_any _ _ h0 h1).mono ?_; rintro e w' ⟨rfl, rfl⟩; rw [FA.out]))
          go_ret2
          refine ⟨?_, bmore (Below.refl _ _) _⟩
          rw [SP2.out]
          all_goals rfl
        · have SP2 : Hid (S = (9221120237041090560, 16)) := by show _ = _; rw [← SP.out, decide_eq_true hab]; rfl
          clear SP
          go_enter Tryz.func85, Tryz.ntmps85
          go_wp2_with fail
          refine (pNo _ _ _ _ h0 h1 g0 g1 (by simp [go_sem]) (by simp [go_sem])).mono ?_
          rintro e w1 ⟨rfl, rfl⟩
          rw [NN.out]
          go_wp2_with (first | (go_at_call_of 10 a; refine (finite_any _ _ h0 h1).mono ?_; rintro e w' ⟨rfl, rfl⟩; rw [FA.out]) | (go_at_call_of 10 b; refine (finite_any _ _ g0 g1).mono ?_; rintro e w' ⟨rfl, rfl⟩; rw [FB.out]))
          go_ret2
          refine ⟨?_, bmore (Below.refl _ _) _⟩
          rw [SP2.out]
          all_goals rfl
theorem pSub (a b : Int) (w : World) (h0 : 0 ≤ a) (h1 : a < 18446744073709551616) (g0 : 0 ≤ b) (g1 : b < 18446744073709551616) :
    Calls Tryz.prog 63 #[.int .u64 a, .int .u64 b] w fun e w' => e = .returned (.tuple #[.int .u64 (addS a (wFlip b)).1, .int .u8 (addS a (wFlip b)).2]) ∧ Below w.heap.size w w' := by
  obtain ⟨f0, f1⟩ := wFlip_bd b
  go_enter Tryz.func63, Tryz.ntmps63
  go_wp2_with fail
  refine (flip_any _ _ g0 g1).mono ?_
  rintro e w1 ⟨rfl, rfl⟩
  go_wp2_with fail
  refine (pAdd _ _ _ h0 h1 f0 f1).mono ?_
  rintro e w2 ⟨rfl, hb2⟩
  go_wp2
  go_ret2
  exact ⟨ret_eq rfl, hb2⟩
set_option maxHeartbeats 1000000 in
theorem pMul (a b : Int) (w : World) (h0 : 0 ≤ a) (h1 : a < 18446744073709551616) (g0 : 0 ≤ b) (g1 : b < 18446744073709551616) :
    Calls Tryz.prog 84 #[.int .u64 a, .int .u64 b] w fun e w' => e = .returned (.tuple #[.int .u64 (mulS a b).1, .int .u8 (mulS a b).2]) ∧ Below w.heap.size w w' := by
  obtain ⟨na, hna⟩ : ∃ x, isNan a = x := ⟨_, rfl⟩
  obtain ⟨nb, hnb⟩ : ∃ x, isNan b = x := ⟨_, rfl⟩
  obtain ⟨ia, hia⟩ : ∃ x, isInf a = x := ⟨_, rfl⟩
  obtain ⟨ib, hib⟩ : ∃ x, isInf b = x := ⟨_, rfl⟩
  obtain ⟨za, hza⟩ : ∃ x, isZ a = x := ⟨_, rfl⟩
  obtain ⟨zb, hzb⟩ : ∃ x, isZ b = x := ⟨_, rfl⟩
  have NA : Hid (_ = _) := hna
  have NB : Hid (_ = _) := hnb
  have IA : Hid (_ = _) := hia
  have IB : Hid (_ = _) := hib
  have ZA : Hid (_ = _) := hza
  have ZB : Hid (_ = _) := hzb
  have SA : Hid (decide (9223372036854775808 ≤ a) = sgn a) := rfl
  have SB : Hid (decide (9223372036854775808 ≤ b) = sgn b) := rfl
  have NN : Hid ((isNan a || isNan b) = (na || nb)) := by show _ = _; rw [hna, hnb]
  obtain ⟨S, hS⟩ : ∃ S, mulS a b = S := ⟨_, rfl⟩
  rw [hS]
  unfold mulS at hS
  rw [hna, hnb, hia, hib, hza, hzb] at hS
  have SP : Hid (_ = S) := hS
  clear hS
  clear hna hnb hia hib hza hzb
  by_cases hn : (na || nb) = true
  · have SP2 : Hid (S = (9221120237041090560, nanF a b)) := by show _ = _; rw [← SP.out, if_pos hn]
    rw [hn] at NN
    clear SP
    go_enter Tryz.func84, Tryz.ntmps84
    go_wp2_with fail
    refine (pNo _ _ _ _ h0 h1 g0 g1 (by simp [go_sem]) (by simp [go_sem])).mono ?_
    rintro e w1 ⟨rfl, rfl⟩
    rw [NN.out]
    go_wp2
    go_ret2
    refine ⟨?_, bmore (Below.refl _ _) _⟩
    rw [SP2.out]
    all_goals rfl
  · have hn2 : na = false ∧ nb = false := by revert hn; cases na <;> cases nb <;> simp
    obtain ⟨rfl, rfl⟩ := hn2
    rw [show (false || false) = false from rfl] at NN
    have FA : Hid (_ = _) := fin_inf a NA.out
    have FB : Hid (_ = _) := fin_inf b NB.out
    rw [IA.out] at FA
    rw [IB.out] at FB
    clear hn
    cases ia
    · cases ib
      · have ma := mag_fin a NA.out IA.out
        have mb := mag_fin b NB.out IB.out
        obtain ⟨p1, p2, p3, p4⟩ := parts_bd a
        obtain ⟨q1, q2, q3, q4⟩ := parts_bd b
        have SP2 : Hid (S = (sgnB (sgn a != sgn b) + ((numR ((wMant a).toNat * (wMant b).toNat) (clampE (wPow a + wPow b)) false : Nat) : Int), ((flagR ((wMant a).toNat * (wMant b).toNat) (clampE (wPow a + wPow b)) false : Nat) : Int))) := by
          show _ = _
          rw [← SP.out, if_neg (by simp), if_neg (by simp), if_neg (by simp), clampE_in _ (by omega) (by omega), (numR_false _ _).1, (numR_false _ _).2, parts_V a ma, parts_V b mb, (mul_lay _ _ _ _ p3 q3).1, (mul_lay _ _ _ _ p3 q3).2]
        clear SP
        go_enter Tryz.func84, Tryz.ntmps84
        go_wp2_with fail
        refine (pNo _ _ _ _ h0 h1 g0 g1 (by simp [go_sem]) (by simp [go_sem])).mono ?_
        rintro e w1 ⟨rfl, rfl⟩
        rw [NN.out]
        go_wp2_with (first | (go_at_call_of 24 a; refine (neg_any _ _ h0 h1).mono ?_; rintro e w' ⟨rfl, rfl⟩; rw [SA.out]) | (go_at_call_of 24 b; refine (neg_any _ _ g0 g1).mono ?_; rintro e w' ⟨rfl, rfl⟩; rw [SB.out]) | (go_at_call_of 10 a; refine (finite_any _ _ h0 h1).mono ?_; rintro e w' ⟨rfl, rfl⟩; rw [FA.out]) | (go_at_call_of 10 b; refine (finite_any _ _ g0 g1).mono ?_; rintro e w' ⟨rfl, rfl⟩; rw [FB.out]) | (go_at_call_of 65 a; refine (parts_any _ _ h0 h1).mono ?_; rintro e w' ⟨rfl, rfl⟩) | (go_at_call_of 65 b; refine (parts_any _ _ g0 g1).mono ?_; rintro e w' ⟨rfl, rfl⟩) | fail)
        refine (wMul _ _ _ p1 (by omega) q1 (by omega)).mono ?_
        rintro e w2 ⟨u, l, rfl, k0, k1, k2, k3, k4, hb2⟩
        have K4 : Hid (_ = _) := k4
        clear k4
        go_wp2_with fail
        refine (pRound _ _ _ _ _ _ k0 k1 k2 k3).mono ?_
        rintro e w3 ⟨rfl, hb3⟩
        rw [K4.out]
        go_wp2
        go_ret2
        refine ⟨?_, bstep ((bmore (Below.refl _ _) _).trans (hb2.mono (by simp))) hb3⟩
        rw [SP2.out]
        all_goals rfl
      · cases za
        · have SP2 : Hid (S = (sgnB (sgn a != sgn b) + 9218868437227405312, 0)) := by show _ = _; rw [← SP.out, ← ZB.out, inf_not_z b IB.out]; rfl
          have hzb : zb = false := by rw [← ZB.out]; exact inf_not_z b IB.out
          subst hzb
          clear SP
          go_enter Tryz.func84, Tryz.ntmps84
          go_wp2_with fail
          refine (pNo _ _ _ _ h0 h1 g0 g1 (by simp [go_sem]) (by simp [go_sem])).mono ?_
          rintro e w1 ⟨rfl, rfl⟩
          rw [NN.out]
          go_wp2_with (first | (go_at_call_of 24 a; refine (neg_any _ _ h0 h1).mono ?_; rintro e w' ⟨rfl, rfl⟩; rw [SA.out]) | (go_at_call_of 24 b; refine (neg_any _ _ g0 g1).mono ?_; rintro e w' ⟨rfl, rfl⟩; rw [SB.out]) | (go_at_call_of 10 a; refine (finite_any _ _ h0 h1).mono ?_; rintro e w' ⟨rfl, rfl⟩; rw [FA.out]) | (go_at_call_of 10 b; refine (finite_any _ _ g0 g1).mono ?_; rintro e w' ⟨rfl, rfl⟩; rw [FB.out]) | (go_at_call_of 88 a; refine (pIsZ _ _ h0 h1).mono ?_; rintro e w' ⟨rfl, rfl⟩; rw [ZA.out]) | (go_at_call_of 88 b; refine (pIsZ _ _ g0 g1).mono ?_; rintro e w' ⟨rfl, rfl⟩; rw [ZB.out]) | (go_at_call 89; refine (pInf _ _).mono ?_; rintro e w' ⟨rfl, rfl⟩))
          go_ret2
          refine ⟨?_, bmore (Below.refl _ _) _⟩
          rw [SP2.out]
          all_goals rfl
        · have SP2 : Hid (S = (9221120237041090560, 16)) := by show _ = _; rw [← SP.out]; rfl
          clear SP
          go_enter Tryz.func84, Tryz.ntmps84
          go_wp2_with fail
          refine (pNo _ _ _ _ h0 h1 g0 g1 (by simp [go_sem]) (by simp [go_sem])).mono ?_
          rintro e w1 ⟨rfl, rfl⟩
          rw [NN.out]
          go_wp2_with (first | (go_at_call_of 24 a; refine (neg_any _ _ h0 h1).mono ?_; rintro e w' ⟨rfl, rfl⟩; rw [SA.out]) | (go_at_call_of 24 b; refine (neg_any _ _ g0 g1).mono ?_; rintro e w' ⟨rfl, rfl⟩; rw [SB.out]) | (go_at_call_of 10 a; refine (finite_any _ _ h0 h1).mono ?_; rintro e w' ⟨rfl, rfl⟩; rw [FA.out]) | (go_at_call_of 10 b; refine (finite_any _ _ g0 g1).mono ?_; rintro e w' ⟨rfl, rfl⟩; rw [FB.out]) | (go_at_call_of 88 a; refine (pIsZ _ _ h0 h1).mono ?_; rintro e w' ⟨rfl, rfl⟩; rw [ZA.out]) | (go_at_call_of 88 b; refine (pIsZ _ _ g0 g1).mono ?_; rintro e w' ⟨rfl, rfl⟩; rw [ZB.out]) | (go_at_call 89; refine (pInf _ _).mono ?_; rintro e w' ⟨rfl, rfl⟩))
          go_ret2
          refine ⟨?_, bmore (Below.refl _ _) _⟩
          rw [SP2.out]
          all_goals rfl
    · have hza : za = false := by rw [← ZA.out]; exact inf_not_z a IA.out
      subst hza
      cases zb
      · have SP2 : Hid (S = (sgnB (sgn a != sgn b) + 9218868437227405312, 0)) := by show _ = _; rw [← SP.out]; cases ib <;> rfl
        clear SP
        go_enter Tryz.func84, Tryz.ntmps84
        go_wp2_with fail
        refine (pNo _ _ _ _ h0 h1 g0 g1 (by simp [go_sem]) (by simp [go_sem])).mono ?_
        rintro e w1 ⟨rfl, rfl⟩
        rw [NN.out]
        go_wp2_with (first | (go_at_call_of 24 a; refine (neg_any _ _ h0 h1).mono ?_; rintro e w' ⟨rfl, rfl⟩; rw [SA.out]) | (go_at_call_of 24 b; refine (neg_any _ _ g0 g1).mono ?_; rintro e w' ⟨rfl, rfl⟩; rw [SB.out]) | (go_at_call_of 10 a; refine (finite_any _ _ h0 h1).mono ?_; rintro e w' ⟨rfl, rfl⟩; rw [FA.out]) | (go_at_call_of 10 b; refine (finite_any _ _ g0 g1).mono ?_; rintro e w' ⟨rfl, rfl⟩; rw [FB.out]) | (go_at_call_of 88 a; refine (pIsZ _ _ h0 h1).mono ?_; rintro e w' ⟨rfl, rfl⟩; rw [ZA.out]) | (go_at_call_of 88 b; refine (pIsZ _ _ g0 g1).mono ?_; rintro e w' ⟨rfl, rfl⟩; rw [ZB.out]) | (go_at_call 89; refine (pInf _ _).mono ?_; rintro e w' ⟨rfl, rfl⟩))
        go_ret2
        refine ⟨?_, bmore (Below.refl _ _) _⟩
        rw [SP2.out]
        all_goals rfl
      · have SP2 : Hid (S = (9221120237041090560, 16)) := by show _ = _; rw [← SP.out]; cases ib <;> rfl
        clear SP
        go_enter Tryz.func84, Tryz.ntmps84
        go_wp2_with fail
        refine (pNo _ _ _ _ h0 h1 g0 g1 (by simp [go_sem]) (by simp [go_sem])).mono ?_
        rintro e w1 ⟨rfl, rfl⟩
        rw [NN.out]
        go_wp2_with (first | (go_at_call_of 24 a; refine (neg_any _ _ h0 h1).mono ?_; rintro e w' ⟨rfl, rfl⟩; rw [SA.out]) | (go_at_call_of 24 b; refine (neg_any _ _ g0 g1).mono ?_; rintro e w' ⟨rfl, rfl⟩; rw [SB.out]) | (go_at_call_of 10 a; refine (finite_any _ _ h0 h1).mono ?_; rintro e w' ⟨rfl, rfl⟩; rw [FA.out]) | (go_at_call_of 10 b; refine (finite_any _ _ g0 g1).mono ?_; rintro e w' ⟨rfl, rfl⟩; rw [FB.out]) | (go_at_call_of 88 a; refine (pIsZ _ _ h0 h1).mono ?_; rintro e w' ⟨rfl, rfl⟩; rw [ZA.out]) | (go_at_call_of 88 b; refine (pIsZ _ _ g0 g1).mono ?_; rintro e w' ⟨rfl, rfl⟩; rw [ZB.out]) | (go_at_call 89; refine (pInf _ _).mono ?_; rintro e w' ⟨rfl, rfl⟩))
        go_ret2
        refine ⟨?_, bmore (Below.refl _ _) _⟩
        rw [SP2.out]
        all_goals rfl
end Go.Proofs.YtpakpgjbgehhjaaGreat

/-
  What soft's Div returns: divS, at all patterns.
-/
namespace Go.Proofs.YtpakpgjbgehhjaaGreat
open Go.RowKit
set_option linter.unusedVariables false

theorem shl_fit (m k : Nat) (h : m * 2 ^ k < 18014398509481984) : IntKind.u64.wrap ((m : Int) * 2 ^ k) = ((m * 2 ^ k : Nat) : Int) := by
  rw [IntKind.wrap_u64, show ((m : Int) * 2 ^ k) = ((m * 2 ^ k : Nat) : Int) by push_cast; rfl]
  omega
theorem grow (m n : Nat) (hm : 0 < m) (hn : (bl m).length ≤ n) : 2 ^ (n - 1) ≤ m * 2 ^ (n - (bl m).length) ∧ m * 2 ^ (n - (bl m).length) < 2 ^ n := by
  have h1 := (bl_length_le m (bl m).length).1 (Nat.le_refl _)
  have h0 : 0 < (bl m).length := (bl_length_lt m 0).2 (by rw [Nat.pow_zero]; exact hm)
  have h2 := (bl_length_lt m ((bl m).length - 1)).1 (by omega)
  refine ⟨?_, ?_⟩
  · have := Nat.mul_le_mul_right (2 ^ (n - (bl m).length)) h2
    rwa [← Nat.pow_add, show (bl m).length - 1 + (n - (bl m).length) = n - 1 by omega] at this
  · have := Nat.mul_lt_mul_of_pos_right h1 (Nat.two_pow_pos (n - (bl m).length))
    rwa [← Nat.pow_add, show (bl m).length + (n - (bl m).length) = n by omega] at this
theorem pLonger (b : Int) (n : Nat) (w : World) (h0 : 0 ≤ b) (h1 : b < 18446744073709551616) (hf : mag b < 9218868437227405312) (hz : mag b ≠ 0) (hn0 : 53 ≤ n) (hn1 : n ≤ 54) :
    Calls Tryz.prog 108 #[.int .u64 b, .int .i64 (n : Int)] w fun e w' => ∃ k M : Nat, k ≤ 53 ∧ e = .returned (.tuple #[.int .u64 (M : Int), .int .i64 (wPow b - k)]) ∧ (wMant b).toNat * 2 ^ k = M ∧ 2 ^ (n - 1) ≤ M ∧ M < 2 ^ n ∧ Below w.heap.size w w' := by
  obtain ⟨p1, p2, p3, p4⟩ := parts_bd b
  obtain ⟨m, hm⟩ : ∃ m : Nat, (wMant b).toNat = m := ⟨_, rfl⟩
  have hm2 : wMant b = (m : Int) := by omega
  have hmb : m < 9007199254740992 := by omega
  have hm0 : 0 < m := by
    rcases Nat.eq_zero_or_pos m with h | h
    · exact absurd ((mant_zero b hf).1 (by omega)) hz
    · exact h
  rw [hm]
  have hlen : (bl m).length ≤ 53 := (bl_length_le m 53).2 (by omega)
  obtain ⟨gr1, gr2⟩ := grow m n hm0 (by omega)
  have hlen0 : 0 < (bl m).length := (bl_length_lt m 0).2 (by rw [Nat.pow_zero]; exact hm0)
  have hfit : m * 2 ^ (n - (bl m).length) < 18014398509481984 := Nat.lt_of_lt_of_le gr2 (Nat.le_trans (Nat.pow_le_pow_right (by decide) hn1) (by decide))
  obtain ⟨L, hL⟩ : ∃ L, (bl m).length = L := ⟨_, rfl⟩
  rw [hL] at gr1 gr2 hfit hlen hlen0
  have sf := shl_fit m (n - L) hfit
  have HL : Hid (_ = _) := hL
  have G : Hid (_ ∧ _) := ⟨gr1, gr2⟩
  have hW : Hid (wid 0 (m : Int) = m) := by show _ = _; unfold wid; omega
  have HM : Hid (_ = _) := hm2
  have hk : ((n : Int) - (L : Int)).toNat = n - L := by omega
  clear gr1 gr2 hL hm hm2 hfit hf hz
  go_enter Tryz.func108, Tryz.ntmps108
  go_wp2_with fail
  refine (parts_any _ _ h0 h1).mono ?_
  rintro e w1 ⟨rfl, rfl⟩
  rw [HM.out]
  go_wp2_with fail
  refine (wLen _ _ _ (by omega) (by omega) (by omega) (by omega)).mono ?_
  rintro e w2 ⟨rfl, hb2⟩
  rw [hW.out, HL.out]
  go_wp2
  go_ret2
  refine ⟨n - L, m * 2 ^ (n - L), by omega, ret_eq (tup2 (int_eq ?_) (int_eq ?_)), rfl, G.out.1, G.out.2, hb2⟩
  · first | rfl | exact sf
  · omega
theorem pDivN (neg : Bool) (a b : Int) (w : World) (h0 : 0 ≤ a) (h1 : a < 18446744073709551616) (g0 : 0 ≤ b) (g1 : b < 18446744073709551616) (ha : mag a < 9218868437227405312) (hb : mag b < 9218868437227405312) (za : mag a ≠ 0) (zb : mag b ≠ 0) :
    Calls Tryz.prog 91 #[.bool neg, .int .u64 a, .int .u64 b] w fun e w' => e = .returned (.tuple #[.int .u64 (sgnB neg + ((quoN (V (mag a)) (V (mag b)) : Nat) : Int)), .int .u8 ((quoF (V (mag a)) (V (mag b)) : Nat) : Int)]) ∧ Below w.heap.size w w' := by
  obtain ⟨p1, p2, p3, p4⟩ := parts_bd a
  obtain ⟨q1, q2, q3, q4⟩ := parts_bd b
  have Va := parts_V a ha
  have Vb := parts_V b hb
  have ma0 : 0 < (wMant a).toNat := by
    rcases Nat.eq_zero_or_pos (wMant a).toNat with h | h
    · exact absurd ((mant_zero a ha).1 (by omega)) za
    · exact h
  have mb0 : 0 < (wMant b).toNat := by
    rcases Nat.eq_zero_or_pos (wMant b).toNat with h | h
    · exact absurd ((mant_zero b hb).1 (by omega)) zb
    · exact h
  rw [Va, Vb]
  have M0 : Hid (_ ∧ _) := ⟨ma0, mb0⟩
  clear Va Vb ma0 mb0
  go_enter Tryz.func91, Tryz.ntmps91
  go_wp2_with fail
  refine (pLonger a 53 _ h0 h1 ha za (by omega) (by omega)).mono ?_
  rintro e w1 ⟨k, A, hk, rfl, hA, r1, r2, hb1⟩
  have HA : Hid (_ = _) := hA
  clear hA
  go_wp2_with fail
  refine (pLonger b 54 _ g0 g1 hb zb (by omega) (by omega)).mono ?_
  rintro e w2 ⟨j, B, hj, rfl, hB, t1, t2, hb2⟩
  have hA := HA.out
  rw [show 2 ^ (53 - 1) = 4503599627370496 by decide] at r1
  rw [show 2 ^ 53 = 9007199254740992 by decide] at r2
  rw [show 2 ^ (54 - 1) = 9007199254740992 by decide] at t1
  rw [show 2 ^ 54 = 18014398509481984 by decide] at t2
  have hbw := bstep hb1 hb2
  clear hb1 hb2
  have hX : wid (A : Int) 0 = (wMant a).toNat * 2 ^ (k + 64) := by rw [wid_hi _ (by omega), Int.toNat_natCast, ← hA, Nat.mul_assoc, ← Nat.pow_add]
  have hq1 : A * 2 ^ 64 / B < 18446744073709551616 := by
    rw [Nat.div_lt_iff_lt_mul (by omega)]
    have : A * 2 ^ 64 < B * 2 ^ 64 := Nat.mul_lt_mul_of_pos_right (by omega) (by decide)
    rw [show (18446744073709551616 : Nat) = 2 ^ 64 by decide, Nat.mul_comm (2 ^ 64)]
    exact this
  have hq2 : 18014398509481984 ≤ A * 2 ^ 64 / B := by
    rw [Nat.le_div_iff_mul_le (by omega)]
    have x1 : 4503599627370496 * 2 ^ 64 ≤ A * 2 ^ 64 := Nat.mul_le_mul_right _ r1
    have x2 : 18014398509481984 * B ≤ 18014398509481984 * 18014398509481984 := Nat.mul_le_mul_left _ (by omega)
    have x3 : 18014398509481984 * 18014398509481984 ≤ 4503599627370496 * 2 ^ 64 := by decide
    exact Nat.le_trans x2 (Nat.le_trans x3 x1)
  have ql := quo_lay (wMant a).toNat (wMant b).toNat (wPow a + 1074).toNat (wPow b + 1074).toNat (k + 64) j (wPow a - k - (wPow b - j) - 64) M0.out.1 M0.out.2 (by rw [Nat.pow_add, ← Nat.mul_assoc, hA, hB]; exact hq2) (by push_cast; omega) (by omega) (by omega) (by omega)
  rw [Nat.pow_add, ← Nat.mul_assoc, hA, hB] at ql
  obtain ⟨q, hq⟩ : ∃ q : Nat, A * 2 ^ 64 / B = q := ⟨_, rfl⟩
  obtain ⟨r, hr⟩ : ∃ r : Nat, A * 2 ^ 64 % B = r := ⟨_, rfl⟩
  have hrB : r < B := by rw [← hr]; exact Nat.mod_lt _ (by omega)
  rw [hq] at hq1 hq2 ql
  rw [hr] at ql
  have hW : wid (A : Int) 0 = A * 2 ^ 64 := by rw [wid_hi _ (by omega), Int.toNat_natCast]
  have HQ : Hid ((q : Int) = ((wid (A : Int) 0 / (B : Int).toNat : Nat) : Int)) := by show _ = _; rw [hW, Int.toNat_natCast, hq]
  have HR : Hid ((r : Int) = ((wid (A : Int) 0 % (B : Int).toNat : Nat) : Int)) := by show _ = _; rw [hW, Int.toNat_natCast, hr]
  have RES : Hid (numR (wid 0 (q : Int)) (clampE (wPow a - k - (wPow b - j) - 64)) (decide (r ≠ 0)) = quoN ((wMant a).toNat * 2 ^ (wPow a + 1074).toNat) ((wMant b).toNat * 2 ^ (wPow b + 1074).toNat) ∧ flagR (wid 0 (q : Int)) (clampE (wPow a - k - (wPow b - j) - 64)) (decide (r ≠ 0)) = quoF ((wMant a).toNat * 2 ^ (wPow a + 1074).toNat) ((wMant b).toNat * 2 ^ (wPow b + 1074).toNat)) := by
    show _ ∧ _
    have hw : wid 0 (q : Int) = q := by unfold wid; omega
    have hlen : 54 < (bl q).length := (bl_length_lt q 54).2 hq2
    have hL : wPow a - k - (wPow b - j) - 64 < lastP q (wPow a - k - (wPow b - j) - 64) := by unfold lastP; omega
    rw [hw, clampE_in _ (by omega) (by omega), (numR_more _ _ _ (by omega) hL).1, (numR_more _ _ _ (by omega) hL).2]
    exact ql
  clear ql hX hA HA hB hq hr hW M0
  have hAB : (A : Int) < (B : Int) := by omega
  go_wp2_with fail
  refine (wDiv (A : Int) 0 (B : Int) (q : Int) (r : Int) _ (by omega) (by omega) (by omega) (by omega) hAB HQ.out HR.out).mono ?_
  rintro e w3 ⟨rfl, hb3⟩
  clear HQ HR
  have hby := bstep hbw hb3
  have hrr : ((r : Int) != 0) = decide (r ≠ 0) := by
    rw [Bool.eq_iff_iff, bne_iff_ne, decide_eq_true_eq]; omega
  have HRR : Hid (_ = _) := hrr
  clear hrr hb3
  by_cases hr0 : r = 0
  all_goals
    have hd : Hid (decide (r ≠ 0) = decide (r ≠ 0)) := rfl
    go_wp2_with fail
    refine (pRound _ _ _ _ _ _ (by omega) (by omega) (by omega) (by omega)).mono ?_
    rintro e w4 ⟨rfl, hb4⟩
    have hbz := bstep hby hb4
    have RR := RES.out
    go_wp2
    go_ret2
    refine ⟨?_, hbz⟩
    first | (rw [show decide (r ≠ 0) = false from decide_eq_false (fun x => x hr0)] at RR; rw [← RR.1, ← RR.2]; rfl) | (rw [show decide (r ≠ 0) = true from decide_eq_true hr0] at RR; rw [← RR.1, ← RR.2]; rfl) | (rw [← RR.1, ← RR.2, ← HRR.out]; rfl)
set_option maxHeartbeats 1000000 in
theorem pDiv (a b : Int) (w : World) (h0 : 0 ≤ a) (h1 : a < 18446744073709551616) (g0 : 0 ≤ b) (g1 : b < 18446744073709551616) :
    Calls Tryz.prog 64 #[.int .u64 a, .int .u64 b] w fun e w' => e = .returned (.tuple #[.int .u64 (divS a b).1, .int .u8 (divS a b).2]) ∧ Below w.heap.size w w' := by
  obtain ⟨na, hna⟩ : ∃ x, isNan a = x := ⟨_, rfl⟩
  obtain ⟨nb, hnb⟩ : ∃ x, isNan b = x := ⟨_, rfl⟩
  obtain ⟨ia, hia⟩ : ∃ x, isInf a = x := ⟨_, rfl⟩
  obtain ⟨ib, hib⟩ : ∃ x, isInf b = x := ⟨_, rfl⟩
  obtain ⟨za, hza⟩ : ∃ x, isZ a = x := ⟨_, rfl⟩
  obtain ⟨zb, hzb⟩ : ∃ x, isZ b = x := ⟨_, rfl⟩
  have NA : Hid (_ = _) := hna
  have NB : Hid (_ = _) := hnb
  have IA : Hid (_ = _) := hia
  have IB : Hid (_ = _) := hib
  have ZA : Hid (_ = _) := hza
  have ZB : Hid (_ = _) := hzb
  have SA : Hid (decide (9223372036854775808 ≤ a) = sgn a) := rfl
  have SB : Hid (decide (9223372036854775808 ≤ b) = sgn b) := rfl
  have NN : Hid ((isNan a || isNan b) = (na || nb)) := by show _ = _; rw [hna, hnb]
  obtain ⟨S, hS⟩ : ∃ S, divS a b = S := ⟨_, rfl⟩
  rw [hS]
  unfold divS at hS
  rw [hna, hnb, hia, hib, hza, hzb] at hS
  have SP : Hid (_ = S) := hS
  clear hS
  clear hna hnb hia hib hza hzb
  by_cases hn : (na || nb) = true
  · have SP2 : Hid (S = (9221120237041090560, nanF a b)) := by show _ = _; rw [← SP.out, if_pos hn]
    rw [hn] at NN
    clear SP
    go_enter Tryz.func64, Tryz.ntmps64
    go_wp2_with fail
    refine (pNo _ _ _ _ h0 h1 g0 g1 (by simp [go_sem]) (by simp [go_sem])).mono ?_
    rintro e w1 ⟨rfl, rfl⟩
    rw [NN.out]
    go_wp2
    go_ret2
    refine ⟨?_, bmore (Below.refl _ _) _⟩
    rw [SP2.out]
    all_goals rfl
  · have hn2 : na = false ∧ nb = false := by revert hn; cases na <;> cases nb <;> simp
    obtain ⟨rfl, rfl⟩ := hn2
    rw [show (false || false) = false from rfl] at NN
    have FA : Hid (_ = _) := fin_inf a NA.out
    have FB : Hid (_ = _) := fin_inf b NB.out
    rw [IA.out] at FA
    rw [IB.out] at FB
    clear hn
    cases ia
    · cases ib
      · cases za
        · cases zb
          · have ma := mag_fin a NA.out IA.out
            have mb := mag_fin b NB.out IB.out
            have za : mag a ≠ 0 := by have := ZA.out; unfold isZ at this; rw [decide_eq_false_iff_not] at this; exact this
            have zb : mag b ≠ 0 := by have := ZB.out; unfold isZ at this; rw [decide_eq_false_iff_not] at this; exact this
            have SP2 : Hid (S = (sgnB (sgn a != sgn b) + ((quoN (V (mag a)) (V (mag b)) : Nat) : Int), ((quoF (V (mag a)) (V (mag b)) : Nat) : Int))) := by
              show _ = _; rw [← SP.out, if_neg (by simp), if_neg (by simp), if_neg (by simp), if_neg (by simp), if_neg (by simp)]
            clear SP
            go_enter Tryz.func64, Tryz.ntmps64
            go_wp2_with fail
            refine (pNo _ _ _ _ h0 h1 g0 g1 (by simp [go_sem]) (by simp [go_sem])).mono ?_
            rintro e w1 ⟨rfl, rfl⟩
            rw [NN.out]
            go_wp2_with (first | (go_at_call_of 24 a; refine (neg_any _ _ h0 h1).mono ?_; rintro e w' ⟨rfl, rfl⟩; rw [SA.out]) | (go_at_call_of 24 b; refine (neg_any _ _ g0 g1).mono ?_; rintro e w' ⟨rfl, rfl⟩; rw [SB.out]) | (go_at_call_of 10 a; refine (finite_any _ _ h0 h1).mono ?_; rintro e w' ⟨rfl, rfl⟩; rw [FA.out]) | (go_at_call_of 10 b; refine (finite_any _ _ g0 g1).mono ?_; rintro e w' ⟨rfl, rfl⟩; rw [FB.out]) | (go_at_call_of 88 a; refine (pIsZ _ _ h0 h1).mono ?_; rintro e w' ⟨rfl, rfl⟩; rw [ZA.out]) | (go_at_call_of 88 b; refine (pIsZ _ _ g0 g1).mono ?_; rintro e w' ⟨rfl, rfl⟩; rw [ZB.out]) | (go_at_call 89; refine (pInf _ _).mono ?_; rintro e w' ⟨rfl, rfl⟩) | (go_at_call 90; refine (make_any _ _ _ _ (by omega) (by omega)).mono ?_; rintro e w' ⟨rfl, rfl⟩) | fail)
            refine (pDivN _ a b _ h0 h1 g0 g1 ma mb za zb).mono ?_
            rintro e w' ⟨rfl, hb'⟩
            go_wp2
            go_ret2
            refine ⟨?_, (bmore (Below.refl _ _) _).trans (hb'.mono (by simp))⟩
            rw [SP2.out]
            all_goals rfl
          · skip
            have SP2 : Hid (S = (sgnB (sgn a != sgn b) + 9218868437227405312, 8)) := by show _ = _; rw [← SP.out]; rfl
            clear SP
            go_enter Tryz.func64, Tryz.ntmps64
            go_wp2_with fail
            refine (pNo _ _ _ _ h0 h1 g0 g1 (by simp [go_sem]) (by simp [go_sem])).mono ?_
            rintro e w1 ⟨rfl, rfl⟩
            rw [NN.out]
            go_wp2_with (first | (go_at_call_of 24 a; refine (neg_any _ _ h0 h1).mono ?_; rintro e w' ⟨rfl, rfl⟩; rw [SA.out]) | (go_at_call_of 24 b; refine (neg_any _ _ g0 g1).mono ?_; rintro e w' ⟨rfl, rfl⟩; rw [SB.out]) | (go_at_call_of 10 a; refine (finite_any _ _ h0 h1).mono ?_; rintro e w' ⟨rfl, rfl⟩; rw [FA.out]) | (go_at_call_of 10 b; refine (finite_any _ _ g0 g1).mono ?_; rintro e w' ⟨rfl, rfl⟩; rw [FB.out]) | (go_at_call_of 88 a; refine (pIsZ _ _ h0 h1).mono ?_; rintro e w' ⟨rfl, rfl⟩; rw [ZA.out]) | (go_at_call_of 88 b; refine (pIsZ _ _ g0 g1).mono ?_; rintro e w' ⟨rfl, rfl⟩; rw [ZB.out]) | (go_at_call 89; refine (pInf _ _).mono ?_; rintro e w' ⟨rfl, rfl⟩) | (go_at_call 90; refine (make_any _ _ _ _ (by omega) (by omega)).mono ?_; rintro e w' ⟨rfl, rfl⟩))
            go_ret2
            refine ⟨?_, bmore (Below.refl _ _) _⟩
            rw [SP2.out]
            all_goals rfl
        · cases zb
          · skip
            have SP2 : Hid (S = (sgnB (sgn a != sgn b), 0)) := by show _ = _; rw [← SP.out]; rfl
            clear SP
            go_enter Tryz.func64, Tryz.ntmps64
            go_wp2_with fail
            refine (pNo _ _ _ _ h0 h1 g0 g1 (by simp [go_sem]) (by simp [go_sem])).mono ?_
            rintro e w1 ⟨rfl, rfl⟩
            rw [NN.out]
            go_wp2_with (first | (go_at_call_of 24 a; refine (neg_any _ _ h0 h1).mono ?_; rintro e w' ⟨rfl, rfl⟩; rw [SA.out]) | (go_at_call_of 24 b; refine (neg_any _ _ g0 g1).mono ?_; rintro e w' ⟨rfl, rfl⟩; rw [SB.out]) | (go_at_call_of 10 a; refine (finite_any _ _ h0 h1).mono ?_; rintro e w' ⟨rfl, rfl⟩; rw [FA.out]) | (go_at_call_of 10 b; refine (finite_any _ _ g0 g1).mono ?_; rintro e w' ⟨rfl, rfl⟩; rw [FB.out]) | (go_at_call_of 88 a; refine (pIsZ _ _ h0 h1).mono ?_; rintro e w' ⟨rfl, rfl⟩; rw [ZA.out]) | (go_at_call_of 88 b; refine (pIsZ _ _ g0 g1).mono ?_; rintro e w' ⟨rfl, rfl⟩; rw [ZB.out]) | (go_at_call 89; refine (pInf _ _).mono ?_; rintro e w' ⟨rfl, rfl⟩) | (go_at_call 90; refine (make_any _ _ _ _ (by omega) (by omega)).mono ?_; rintro e w' ⟨rfl, rfl⟩))
            go_ret2
            refine ⟨?_, bmore (Below.refl _ _) _⟩
            rw [SP2.out]
            refine ret_eq (tup2 (int_eq ?_) rfl)
            show _ = sgnB (sgn a != sgn b)
            rw [make_sig, show (!sgn a == sgn b) = (sgn a != sgn b) from rfl]
            omega
          · skip
            have SP2 : Hid (S = (9221120237041090560, 16)) := by show _ = _; rw [← SP.out]; rfl
            clear SP
            go_enter Tryz.func64, Tryz.ntmps64
            go_wp2_with fail
            refine (pNo _ _ _ _ h0 h1 g0 g1 (by simp [go_sem]) (by simp [go_sem])).mono ?_
            rintro e w1 ⟨rfl, rfl⟩
            rw [NN.out]
            go_wp2_with (first | (go_at_call_of 24 a; refine (neg_any _ _ h0 h1).mono ?_; rintro e w' ⟨rfl, rfl⟩; rw [SA.out]) | (go_at_call_of 24 b; refine (neg_any _ _ g0 g1).mono ?_; rintro e w' ⟨rfl, rfl⟩; rw [SB.out]) | (go_at_call_of 10 a; refine (finite_any _ _ h0 h1).mono ?_; rintro e w' ⟨rfl, rfl⟩; rw [FA.out]) | (go_at_call_of 10 b; refine (finite_any _ _ g0 g1).mono ?_; rintro e w' ⟨rfl, rfl⟩; rw [FB.out]) | (go_at_call_of 88 a; refine (pIsZ _ _ h0 h1).mono ?_; rintro e w' ⟨rfl, rfl⟩; rw [ZA.out]) | (go_at_call_of 88 b; refine (pIsZ _ _ g0 g1).mono ?_; rintro e w' ⟨rfl, rfl⟩; rw [ZB.out]) | (go_at_call 89; refine (pInf _ _).mono ?_; rintro e w' ⟨rfl, rfl⟩) | (go_at_call 90; refine (make_any _ _ _ _ (by omega) (by omega)).mono ?_; rintro e w' ⟨rfl, rfl⟩))
            go_ret2
            refine ⟨?_, bmore (Below.refl _ _) _⟩
            rw [SP2.out]
            all_goals rfl
      · have hzb : zb = false := by rw [← ZB.out]; exact inf_not_z b IB.out
        subst hzb
        cases za
        all_goals
          have SP2 : Hid (S = (sgnB (sgn a != sgn b), 0)) := by show _ = _; rw [← SP.out]; rfl
          clear SP
          go_enter Tryz.func64, Tryz.ntmps64
          go_wp2_with fail
          refine (pNo _ _ _ _ h0 h1 g0 g1 (by simp [go_sem]) (by simp [go_sem])).mono ?_
          rintro e w1 ⟨rfl, rfl⟩
          rw [NN.out]
          go_wp2_with (first | (go_at_call_of 24 a; refine (neg_any _ _ h0 h1).mono ?_; rintro e w' ⟨rfl, rfl⟩; rw [SA.out]) | (go_at_call_of 24 b; refine (neg_any _ _ g0 g1).mono ?_; rintro e w' ⟨rfl, rfl⟩; rw [SB.out]) | (go_at_call_of 10 a; refine (finite_any _ _ h0 h1).mono ?_; rintro e w' ⟨rfl, rfl⟩; rw [FA.out]) | (go_at_call_of 10 b; refine (finite_any _ _ g0 g1).mono ?_; rintro e w' ⟨rfl, rfl⟩; rw [FB.out]) | (go_at_call_of 88 a; refine (pIsZ _ _ h0 h1).mono ?_; rintro e w' ⟨rfl, rfl⟩; rw [ZA.out]) | (go_at_call_of 88 b; refine (pIsZ _ _ g0 g1).mono ?_; rintro e w' ⟨rfl, rfl⟩; rw [ZB.out]) | (go_at_call 89; refine (pInf _ _).mono ?_; rintro e w' ⟨rfl, rfl⟩) | (go_at_call 90; refine (make_any _ _ _ _ (by omega) (by omega)).mono ?_; rintro e w' ⟨rfl, rfl⟩))
          go_ret2
          refine ⟨?_, bmore (Below.refl _ _) _⟩
          rw [SP2.out]
          refine ret_eq (tup2 (int_eq ?_) rfl)
          show _ = sgnB (sgn a != sgn b)
          rw [make_sig, show (!sgn a == sgn b) = (sgn a != sgn b) from rfl]
          omega
    · have hza : za = false := by rw [← ZA.out]; exact inf_not_z a IA.out
      subst hza
      cases ib
      · skip
        have SP2 : Hid (S = (sgnB (sgn a != sgn b) + 9218868437227405312, 0)) := by show _ = _; rw [← SP.out]; rfl
        clear SP
        go_enter Tryz.func64, Tryz.ntmps64
        go_wp2_with fail
        refine (pNo _ _ _ _ h0 h1 g0 g1 (by simp [go_sem]) (by simp [go_sem])).mono ?_
        rintro e w1 ⟨rfl, rfl⟩
        rw [NN.out]
        go_wp2_with (first | (go_at_call_of 24 a; refine (neg_any _ _ h0 h1).mono ?_; rintro e w' ⟨rfl, rfl⟩; rw [SA.out]) | (go_at_call_of 24 b; refine (neg_any _ _ g0 g1).mono ?_; rintro e w' ⟨rfl, rfl⟩; rw [SB.out]) | (go_at_call_of 10 a; refine (finite_any _ _ h0 h1).mono ?_; rintro e w' ⟨rfl, rfl⟩; rw [FA.out]) | (go_at_call_of 10 b; refine (finite_any _ _ g0 g1).mono ?_; rintro e w' ⟨rfl, rfl⟩; rw [FB.out]) | (go_at_call_of 88 a; refine (pIsZ _ _ h0 h1).mono ?_; rintro e w' ⟨rfl, rfl⟩; rw [ZA.out]) | (go_at_call_of 88 b; refine (pIsZ _ _ g0 g1).mono ?_; rintro e w' ⟨rfl, rfl⟩; rw [ZB.out]) | (go_at_call 89; refine (pInf _ _).mono ?_; rintro e w' ⟨rfl, rfl⟩) | (go_at_call 90; refine (make_any _ _ _ _ (by omega) (by omega)).mono ?_; rintro e w' ⟨rfl, rfl⟩))
        go_ret2
        refine ⟨?_, bmore (Below.refl _ _) _⟩
        rw [SP2.out]
        all_goals rfl
      · skip
        have SP2 : Hid (S = (9221120237041090560, 16)) := by show _ = _; rw [← SP.out]; rfl
        clear SP
        go_enter Tryz.func64, Tryz.ntmps64
        go_wp2_with fail
        refine (pNo _ _ _ _ h0 h1 g0 g1 (by simp [go_sem]) (by simp [go_sem])).mono ?_
        rintro e w1 ⟨rfl, rfl⟩
        rw [NN.out]
        go_wp2_with (first | (go_at_call_of 24 a; refine (neg_any _ _ h0 h1).mono ?_; rintro e w' ⟨rfl, rfl⟩; rw [SA.out]) | (go_at_call_of 24 b; refine (neg_any _ _ g0 g1).mono ?_; rintro e w' ⟨rfl, rfl⟩; rw [SB.out]) | (go_at_call_of 10 a; refine (finite_any _ _ h0 h1).mono ?_; rintro e w' ⟨rfl, rfl⟩; rw [FA.out]) | (go_at_call_of 10 b; refine (finite_any _ _ g0 g1).mono ?_; rintro e w' ⟨rfl, rfl⟩; rw [FB.out]) | (go_at_call_of 88 a; refine (pIsZ _ _ h0 h1).mono ?_; rintro e w' ⟨rfl, rfl⟩; rw [ZA.out]) | (go_at_call_of 88 b; refine (pIsZ _ _ g0 g1).mono ?_; rintro e w' ⟨rfl, rfl⟩; rw [ZB.out]) | (go_at_call 89; refine (pInf _ _).mono ?_; rintro e w' ⟨rfl, rfl⟩) | (go_at_call 90; refine (make_any _ _ _ _ (by omega) (by omega)).mono ?_; rintro e w' ⟨rfl, rfl⟩))
        go_ret2
        refine ⟨?_, bmore (Below.refl _ _) _⟩
        rw [SP2.out]
        all_goals rfl
end Go.Proofs.YtpakpgjbgehhjaaGreat

/-
  What a Calc's methods return: the numbers of soft's own; F gets all flags that come; a nil Calc: the numbers alone.
-/
namespace Go.Proofs.YtpakpgjbgehhjaaGreat
open Go.RowKit
set_option linter.unusedVariables false

theorem cNote0 (b f : Int) (w : World) :
    Calls Tryz.prog 62 #[.pointer none, .int .u64 b, .int .u8 f] w fun e w' => e = .returned (.int .u64 b) ∧ w' = w := by
  go_enter Tryz.func62, Tryz.ntmps62
  go_wp2
  go_ret
  exact ⟨ret_eq rfl, rfl⟩
theorem cNote (k : Nat) (b f F : Int) (w : World) (c : w.cell? ⟨k, 0, none⟩ = some (.int .u8 F)) (z : w.frozen? ⟨k, 0, none⟩ = false) :
    Calls Tryz.prog 62 #[.pointer (some ⟨k, 0, none⟩), .int .u64 b, .int .u8 f] w fun e w' => e = .returned (.int .u64 b) ∧ w' = w.setCell ⟨k, 0, none⟩ (.int .u8 (bits .or .u8 F f)) := by
  go_enter Tryz.func62, Tryz.ntmps62
  go_wp2
  go_ret
  exact ⟨ret_eq rfl, rfl⟩
theorem cSub0 (a b : Int) (w : World) (h0 : 0 ≤ a) (h1 : a < 18446744073709551616) (g0 : 0 ≤ b) (g1 : b < 18446744073709551616) :
    Calls Tryz.prog 32 #[.pointer none, .int .u64 a, .int .u64 b] w fun e w' => e = .returned (.int .u64 (addS a (wFlip b)).1) ∧ Below w.heap.size w w' := by
  go_enter Tryz.func32, Tryz.ntmps32
  go_wp2_with fail
  refine (pSub _ _ _ h0 h1 g0 g1).mono ?_
  rintro e w1 ⟨rfl, hb1⟩
  go_wp2_with fail
  refine (cNote0 _ _ _).mono ?_
  rintro e w2 ⟨rfl, rfl⟩
  go_wp2
  go_ret
  exact ⟨ret_eq rfl, hb1⟩
theorem cSub (k : Nat) (a b F : Int) (w : World) (h0 : 0 ≤ a) (h1 : a < 18446744073709551616) (g0 : 0 ≤ b) (g1 : b < 18446744073709551616) (hk : k < w.heap.size) (c : w.cell? ⟨k, 0, none⟩ = some (.int .u8 F)) (z : w.frozen? ⟨k, 0, none⟩ = false) :
    Calls Tryz.prog 32 #[.pointer (some ⟨k, 0, none⟩), .int .u64 a, .int .u64 b] w fun e w' => e = .returned (.int .u64 (addS a (wFlip b)).1) ∧ ∃ w1, Below w.heap.size w w1 ∧ w' = w1.setCell ⟨k, 0, none⟩ (.int .u8 (bits .or .u8 F (addS a (wFlip b)).2)) := by
  go_enter Tryz.func32, Tryz.ntmps32
  go_wp2_with fail
  refine (pSub _ _ _ h0 h1 g0 g1).mono ?_
  rintro e w1 ⟨rfl, hb1⟩
  have c1 := cell_later hb1 c
  have z1 := (hb1.frozen (p := ⟨k, 0, none⟩) hk).trans z
  go_wp2_with fail
  refine (cNote _ _ _ _ _ c1 z1).mono ?_
  rintro e w2 ⟨rfl, rfl⟩
  go_wp2
  go_ret
  exact ⟨ret_eq rfl, w1, hb1, rfl⟩
theorem cMul0 (a b : Int) (w : World) (h0 : 0 ≤ a) (h1 : a < 18446744073709551616) (g0 : 0 ≤ b) (g1 : b < 18446744073709551616) :
    Calls Tryz.prog 61 #[.pointer none, .int .u64 a, .int .u64 b] w fun e w' => e = .returned (.int .u64 (mulS a b).1) ∧ Below w.heap.size w w' := by
  go_enter Tryz.func61, Tryz.ntmps61
  go_wp2_with fail
  refine (pMul _ _ _ h0 h1 g0 g1).mono ?_
  rintro e w1 ⟨rfl, hb1⟩
  go_wp2_with fail
  refine (cNote0 _ _ _).mono ?_
  rintro e w2 ⟨rfl, rfl⟩
  go_wp2
  go_ret
  exact ⟨ret_eq rfl, hb1⟩
theorem cMul (k : Nat) (a b F : Int) (w : World) (h0 : 0 ≤ a) (h1 : a < 18446744073709551616) (g0 : 0 ≤ b) (g1 : b < 18446744073709551616) (hk : k < w.heap.size) (c : w.cell? ⟨k, 0, none⟩ = some (.int .u8 F)) (z : w.frozen? ⟨k, 0, none⟩ = false) :
    Calls Tryz.prog 61 #[.pointer (some ⟨k, 0, none⟩), .int .u64 a, .int .u64 b] w fun e w' => e = .returned (.int .u64 (mulS a b).1) ∧ ∃ w1, Below w.heap.size w w1 ∧ w' = w1.setCell ⟨k, 0, none⟩ (.int .u8 (bits .or .u8 F (mulS a b).2)) := by
  go_enter Tryz.func61, Tryz.ntmps61
  go_wp2_with fail
  refine (pMul _ _ _ h0 h1 g0 g1).mono ?_
  rintro e w1 ⟨rfl, hb1⟩
  have c1 := cell_later hb1 c
  have z1 := (hb1.frozen (p := ⟨k, 0, none⟩) hk).trans z
  go_wp2_with fail
  refine (cNote _ _ _ _ _ c1 z1).mono ?_
  rintro e w2 ⟨rfl, rfl⟩
  go_wp2
  go_ret
  exact ⟨ret_eq rfl, w1, hb1, rfl⟩
theorem cDiv0 (a b : Int) (w : World) (h0 : 0 ≤ a) (h1 : a < 18446744073709551616) (g0 : 0 ≤ b) (g1 : b < 18446744073709551616) :
    Calls Tryz.prog 33 #[.pointer none, .int .u64 a, .int .u64 b] w fun e w' => e = .returned (.int .u64 (divS a b).1) ∧ Below w.heap.size w w' := by
  go_enter Tryz.func33, Tryz.ntmps33
  go_wp2_with fail
  refine (pDiv _ _ _ h0 h1 g0 g1).mono ?_
  rintro e w1 ⟨rfl, hb1⟩
  go_wp2_with fail
  refine (cNote0 _ _ _).mono ?_
  rintro e w2 ⟨rfl, rfl⟩
  go_wp2
  go_ret
  exact ⟨ret_eq rfl, hb1⟩
theorem cDiv (k : Nat) (a b F : Int) (w : World) (h0 : 0 ≤ a) (h1 : a < 18446744073709551616) (g0 : 0 ≤ b) (g1 : b < 18446744073709551616) (hk : k < w.heap.size) (c : w.cell? ⟨k, 0, none⟩ = some (.int .u8 F)) (z : w.frozen? ⟨k, 0, none⟩ = false) :
    Calls Tryz.prog 33 #[.pointer (some ⟨k, 0, none⟩), .int .u64 a, .int .u64 b] w fun e w' => e = .returned (.int .u64 (divS a b).1) ∧ ∃ w1, Below w.heap.size w w1 ∧ w' = w1.setCell ⟨k, 0, none⟩ (.int .u8 (bits .or .u8 F (divS a b).2)) := by
  go_enter Tryz.func33, Tryz.ntmps33
  go_wp2_with fail
  refine (pDiv _ _ _ h0 h1 g0 g1).mono ?_
  rintro e w1 ⟨rfl, hb1⟩
  have c1 := cell_later hb1 c
  have z1 := (hb1.frozen (p := ⟨k, 0, none⟩) hk).trans z
  go_wp2_with fail
  refine (cNote _ _ _ _ _ c1 z1).mono ?_
  rintro e w2 ⟨rfl, rfl⟩
  go_wp2
  go_ret
  exact ⟨ret_eq rfl, w1, hb1, rfl⟩
end Go.Proofs.YtpakpgjbgehhjaaGreat

/-
  What the functions of package more return (Fma apart): sqrtS, scaleS, fromS, toS, at every argument.
-/
namespace Go.Proofs.YtpakpgjbgehhjaaGreat
open Go.RowKit
set_option linter.unusedVariables false

end Go.Proofs.YtpakpgjbgehhjaaGreat

/-
  What more's Sqrt returns: sqrtS, at every pattern.
-/
namespace Go.Proofs.YtpakpgjbgehhjaaGreat
open Go.RowKit
set_option linter.unusedVariables false

end Go.Proofs.YtpakpgjbgehhjaaGreat

/-
  What each function of package order returns, at every pattern in [0, 2^64) (Greatest apart).
-/
namespace Go.Proofs.YtpakpgjbgehhjaaGreat
open Go.RowKit
set_option linter.unusedVariables false

def place (b : Int) : Int := if 9223372036854775808 ≤ b then 18446744073709551615 - b else b + 9223372036854775808
end Go.Proofs.YtpakpgjbgehhjaaGreat

/-
  A slice of uint64 that came in: what its cells hold; the greatest of some without their signs.
-/
namespace Go.Proofs.YtpakpgjbgehhjaaGreat
open Go.RowKit
set_option linter.unusedVariables false

/-- The slice holds, at each place below len, the number Z i. -/
def URow (w : World) (a : Option Addr) (len cap : Nat) (Z : Nat → Int) : Prop :=
  len ≤ cap ∧ cap ≤ maxLen ∧ (∀ i, 0 ≤ Z i ∧ Z i < 18446744073709551616) ∧ (0 < len → ∃ b o, a = some ⟨b, o, none⟩ ∧ b < w.heap.size ∧ ∀ i, i < len → w.cell? ⟨b, o + i, none⟩ = some (.int .u64 (Z i)))
theorem URow.below {w w' : World} {a : Option Addr} {len cap : Nat} {Z : Nat → Int} (h : URow w a len cap Z) (hb : Below w.heap.size w w') : URow w' a len cap Z := by
  obtain ⟨h1, h2, h3, h4⟩ := h
  refine ⟨h1, h2, h3, fun hp => ?_⟩
  obtain ⟨b, o, e, hlt, hc⟩ := h4 hp
  have := hb.size
  exact ⟨b, o, e, by omega, fun i hi => (hb.cell (p := ⟨b, o + i, none⟩) hlt).trans (hc i hi)⟩
/-- The greatest of the first k without their signs is B, at place t (the first such one). -/
def GS (k : Nat) (Z : Nat → Int) (B t : Int) : Prop :=
  (∀ i, i < k → isNan (Z i) = false) ∧ ((k = 0 ∧ B = 0 ∧ t = -1) ∨ ∃ j : Nat, t = (j : Int) ∧ j < k ∧ B = Z j % 9223372036854775808 ∧ ∀ i, i < k → Z i % 9223372036854775808 ≤ B ∧ (i < j → Z i % 9223372036854775808 < B))
theorem GS.zero (Z : Nat → Int) : GS 0 Z 0 (-1) := ⟨fun i h => absurd h (Nat.not_lt_zero i), Or.inl ⟨rfl, rfl, rfl⟩⟩
theorem GS.bd {k : Nat} {Z : Nat → Int} {B t : Int} (h : GS k Z B t) : 0 ≤ B ∧ B < 9223372036854775808 ∧ -1 ≤ t ∧ t < k := by
  obtain ⟨_, ⟨h1, h2, h3⟩ | ⟨j, h1, h2, h3, h4⟩⟩ := h
  · omega
  · omega
theorem GS.take {k : Nat} {Z : Nat → Int} {B t : Int} (h : GS k Z B t) (hn : isNan (Z k) = false) (hg : t < 0 ∨ B < Z k % 9223372036854775808) : GS (k + 1) Z (Z k % 9223372036854775808) (k : Int) := by
  obtain ⟨h0, h⟩ := h
  refine ⟨fun i hi => ?_, Or.inr ⟨k, rfl, by omega, rfl, fun i hi => ?_⟩⟩
  · rcases Nat.lt_or_ge i k with g | g
    · exact h0 i g
    · rw [show i = k by omega]; exact hn
  · rcases Nat.lt_or_ge i k with g | g
    · rcases h with ⟨h1, h2, h3⟩ | ⟨j, h1, h2, h3, h4⟩
      · omega
      · have := (h4 i g).1
        constructor
        · omega
        · intro _; omega
    · rw [show i = k by omega]
      exact ⟨Int.le_refl _, fun h => absurd h (Nat.lt_irrefl _)⟩
theorem GS.stay {k : Nat} {Z : Nat → Int} {B t : Int} (h : GS k Z B t) (hn : isNan (Z k) = false) (hg : ¬ t < 0) (hg2 : ¬ B < Z k % 9223372036854775808) : GS (k + 1) Z B t := by
  obtain ⟨h0, h⟩ := h
  rcases h with ⟨h1, h2, h3⟩ | ⟨j, h1, h2, h3, h4⟩
  · omega
  · refine ⟨fun i hi => ?_, Or.inr ⟨j, h1, by omega, h3, fun i hi => ?_⟩⟩
    · rcases Nat.lt_or_ge i k with g | g
      · exact h0 i g
      · rw [show i = k by omega]; exact hn
    · rcases Nat.lt_or_ge i k with g | g
      · exact h4 i g
      · rw [show i = k by omega]
        exact ⟨by omega, fun h => by omega⟩
/-- What Greatest answers: Quiet and the first Nan's place; or the greatest, and its place. -/
def Great (len : Nat) (Z : Nat → Int) (B t : Int) : Prop := (∃ k : Nat, k < len ∧ isNan (Z k) = true ∧ (∀ i, i < k → isNan (Z i) = false) ∧ B = 9221120237041090560 ∧ t = (k : Int)) ∨ GS len Z B t
end Go.Proofs.YtpakpgjbgehhjaaGreat
