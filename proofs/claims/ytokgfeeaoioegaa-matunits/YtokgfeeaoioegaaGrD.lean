/-
  Texts put together: SoftC SoftD SoftE SoftF SoftG MoreC MoreR OrderC RowM.
-/
import Derived.Test.YtokgfeeaoioegaaProg
import Derived.Test.YtokgfeeaoioegaaGrA
import Derived.Test.YtokgfeeaoioegaaGrC
import Derived.Deep.RegionHeld3
import Derived.LoopN
import Derived.Deep.DeepCutAuto
import Derived.Deep.RegionWith
/-
  What the helpers of package soft return: what is no number, zeros, infinities, the sum of two numbers.
-/
namespace Go.Proofs.Ytokgfeeaoioegaa
open Go.RowKit
set_option linter.unusedVariables false

theorem isNan_kind (b : Int) : isNan b = decide (wKind b = 5) := by
  unfold isNan
  rw [decide_eq_decide, wKind_nan]
  unfold mag
  omega
set_option maxHeartbeats 1000000 in
theorem pNo (a b : Int) (k : Nat) (w : World) (h0 : 0 ≤ a) (h1 : a < 18446744073709551616) (g0 : 0 ≤ b) (g1 : b < 18446744073709551616)
    (c0 : w.cell? ⟨k, 0, none⟩ = some (.int .u64 a)) (c1 : w.cell? ⟨k, 1, none⟩ = some (.int .u64 b)) :
    Calls Try.prog 109 #[.slice (some ⟨k, 0, none⟩) 2 2] w fun e w' => e = .returned (.tuple #[.bool (isNan a || isNan b), .int .u8 (nanF a b)]) ∧ w' = w := by
  rw [isNan_kind, isNan_kind]
  unfold nanF
  obtain ⟨sa, hsa⟩ : ∃ s, sigs a = s := ⟨_, rfl⟩
  obtain ⟨sb, hsb⟩ : ∃ s, sigs b = s := ⟨_, rfl⟩
  rw [hsa, hsb]
  unfold sigs at hsa hsb
  have SA : Hid (_ = _) := hsa
  have SB : Hid (_ = _) := hsb
  clear hsa hsb
  obtain ⟨ka, hka⟩ : ∃ s, wKind a = s := ⟨_, rfl⟩
  obtain ⟨kb, hkb⟩ : ∃ s, wKind b = s := ⟨_, rfl⟩
  have KA : Hid (_ = _) := hka
  have KB : Hid (_ = _) := hkb
  rw [hka, hkb]
  clear hka hkb
  by_cases ea : ka = 5
  all_goals
    by_cases eb : kb = 5
    all_goals
      cases sa
      all_goals
        cases sb
        all_goals
          (try subst ea)
          (try subst eb)
          go_enter Try.func109, Try.ntmps109
          go_wp2_with fail
          refine wp_loop_rounds 3 ?_
          rw [rounds_succ]
          go_wp2_with (first | (go_at_call 87; refine (kind_any _ _ h0 h1).mono ?_; rintro e w' ⟨rfl, rfl⟩; rw [KA.out]) | (go_at_call 128; refine (signals_any _ _ h0 h1).mono ?_; rintro e w' ⟨rfl, rfl⟩; rw [SA.out]))
          rw [rounds_succ]
          go_wp2_with (first | (go_at_call 87; refine (kind_any _ _ g0 g1).mono ?_; rintro e w' ⟨rfl, rfl⟩; rw [KB.out]) | (go_at_call 128; refine (signals_any _ _ g0 g1).mono ?_; rintro e w' ⟨rfl, rfl⟩; rw [SB.out]))
          rw [rounds_succ]
          go_wp2
          go_ret2
          refine ⟨ret_eq (tup2 (bool_eq ?_) (int_eq ?_)), rfl⟩
          · simp [*]
          · rfl
theorem pIsZ (b : Int) (w : World) (h0 : 0 ≤ b) (h1 : b < 18446744073709551616) :
    Calls Try.prog 110 #[.int .u64 b] w fun e w' => e = .returned (.bool (isZ b)) ∧ w' = w := by
  go_enter Try.func110, Try.ntmps110
  go_wp2_with (go_at_call 48; refine (abs_any _ _ h0 h1).mono ?_; rintro e w' ⟨rfl, rfl⟩)
  go_ret
  refine ⟨ret_eq (bool_eq ?_), rfl⟩
  unfold isZ mag
  rw [Bool.eq_iff_iff, beq_iff_eq, decide_eq_true_eq]
  omega
theorem pInf (n : Bool) (w : World) :
    Calls Try.prog 112 #[.bool n] w fun e w' => e = .returned (.int .u64 (sgnB n + 9218868437227405312)) ∧ w' = w := by
  cases n
  all_goals
    go_enter Try.func112, Try.ntmps112
    go_wp2
    go_ret
    exact ⟨ret_eq rfl, rfl⟩
end Go.Proofs.Ytokgfeeaoioegaa

/-
  What soft's sum of two numbers returns: the exact sum, rounded.
-/
namespace Go.Proofs.Ytokgfeeaoioegaa
open Go.RowKit
set_option linter.unusedVariables false

theorem wid_hi (h : Int) (h0 : 0 ≤ h) : wid h 0 = h.toNat * 2 ^ 64 := by unfold wid; omega
/-- All that the walk of a sum wants to know. -/
theorem addN_facts (g s : Int) (hg : mag g < 9218868437227405312) (hs : mag s ≤ mag g) (hnz : mag g ≠ 0) :
    (let X := wid (wMant g) 0; let Y := wid (wMant s) 0; let n := (wPow g - wPow s).toNat; let lo := lostB Y n
     X < 2 ^ 117 ∧ Y / 2 ^ n + lo.toNat ≤ 2 ^ 117 ∧ clampE (wPow g - 64) = wPow g - 64
     ∧ (sgn g = sgn s → rndS (sv g + sv s) = (sgnB (sgn g) + ((numR (X + Y / 2 ^ n) (wPow g - 64) lo : Nat) : Int), ((flagR (X + Y / 2 ^ n) (wPow g - 64) lo : Nat) : Int)))
     ∧ (sgn g ≠ sgn s → Y / 2 ^ n + lo.toNat ≤ X ∧ rndS (sv g + sv s) = (sgnB (sgn g && decide (X - (Y / 2 ^ n + lo.toNat) ≠ 0)) + ((numR (X - (Y / 2 ^ n + lo.toNat)) (wPow g - 64) lo : Nat) : Int), ((flagR (X - (Y / 2 ^ n + lo.toNat)) (wPow g - 64) lo : Nat) : Int)))) := by
  obtain ⟨p1, p2, p3, p4⟩ := parts_bd g
  obtain ⟨q1, q2, q3, q4⟩ := parts_bd s
  have hVg := parts_V g hg
  have hVs := parts_V s (by omega)
  have hle := V_mono _ _ hs
  have hpos := V_pos (mag g) (by omega)
  have hP : (wMant s).toNat = 0 ∨ (wPow s ≤ wPow g ∧ (wPow g = wPow s ∨ 4503599627370496 ≤ (wMant g).toNat)) := by
    by_cases hz : mag s = 0
    · left; rw [(mant_zero s (by omega)).2 hz]; rfl
    · right; exact pow_order g s hg hs hz
  have al := add_lay (wMant g).toNat (wMant s).toNat (wPow g) (wPow s) p3 q3 hP
  have sl := sub_lay (wMant g).toNat (wMant s).toNat (wPow g) (wPow s) p3 q3 (by omega) hP (by rw [← hVg, ← hVs]; exact hle)
  rw [← hVg, ← hVs] at al sl
  simp only
  rw [wid_hi _ p1, wid_hi _ q1]
  have hb1 : (wMant g).toNat * 2 ^ 64 < 2 ^ 53 * 2 ^ 64 := Nat.mul_lt_mul_of_pos_right (by omega) (by decide)
  have hb2 : (wMant s).toNat * 2 ^ 64 < 2 ^ 53 * 2 ^ 64 := Nat.mul_lt_mul_of_pos_right (by omega) (by decide)
  rw [← Nat.pow_add] at hb1 hb2
  refine ⟨hb1, ?_, clampE_in _ (by omega) (by omega), ?_, ?_⟩
  · have h1 := Nat.div_le_self ((wMant s).toNat * 2 ^ 64) (2 ^ (wPow g - wPow s).toNat)
    have h2 : (lostB ((wMant s).toNat * 2 ^ 64) (wPow g - wPow s).toNat).toNat ≤ 1 := Bool.toNat_le _
    omega
  · intro hsg
    rw [rnd_same g s hsg hpos, ← al.1, ← al.2]
    rfl
  · intro hsg
    refine ⟨sl.1, ?_⟩
    rw [rnd_diff g s hsg hle, ← sl.2.2.1, ← sl.2.2.2]
    unfold lostB
    rw [show decide (V (mag g) ≠ V (mag s)) = decide (((wMant g).toNat * 2 ^ 64 - ((wMant s).toNat * 2 ^ 64 / 2 ^ (wPow g - wPow s).toNat + (decide ((wMant s).toNat * 2 ^ 64 % 2 ^ (wPow g - wPow s).toNat ≠ 0)).toNat)) ≠ 0) by rw [decide_eq_decide, ne_eq, ne_eq, sl.2.1]]

set_option maxRecDepth 100000 in
set_option maxHeartbeats 2000000 in
theorem pAddN (g s : Int) (w : World) (h0 : 0 ≤ g) (h1 : g < 18446744073709551616) (g0 : 0 ≤ s) (g1 : s < 18446744073709551616) (hg : mag g < 9218868437227405312) (hs : mag s ≤ mag g) (hnz : mag g ≠ 0) :
    Calls Try.prog 111 #[.int .u64 g, .int .u64 s] w fun e w' => e = .returned (.tuple #[.int .u64 (rndS (sv g + sv s)).1, .int .u8 (rndS (sv g + sv s)).2]) ∧ Below w.heap.size w w' := by
  obtain ⟨p1, p2, p3, p4⟩ := parts_bd g
  obtain ⟨q1, q2, q3, q4⟩ := parts_bd s
  obtain ⟨f1, f2, f3, f4, f5⟩ := addN_facts g s hg hs hnz
  have F : Hid (_ ∧ _ ∧ _ ∧ _ ∧ _) := ⟨f1, f2, f3, f4, f5⟩
  clear f1 f2 f3 f4 f5 hg hs hnz
  have h2 : wMant g < 18446744073709551616 := by omega
  have h3 : wMant s < 18446744073709551616 := by omega
  obtain ⟨sg, hsg⟩ : ∃ b, sgn g = b := ⟨_, rfl⟩
  obtain ⟨ss, hss⟩ : ∃ b, sgn s = b := ⟨_, rfl⟩
  rw [hsg, hss] at F
  have SG : Hid (decide (9223372036854775808 ≤ g) = sg) := hsg
  have SS : Hid (decide (9223372036854775808 ≤ s) = ss) := hss
  clear hsg hss
  go_enter Try.func111, Try.ntmps111
  go_wp2_with fail
  refine (parts_any _ _ h0 h1).mono ?_
  rintro e w1 ⟨rfl, rfl⟩
  go_wp2_with fail
  refine (parts_any _ _ g0 g1).mono ?_
  rintro e w1 ⟨rfl, rfl⟩
  go_wp2_with fail
  refine (wRight _ _ _ _ q1 h3 (by omega) (by omega) (by omega)).mono ?_
  rintro e w2 ⟨u, l, rfl, b0, b1, b2, b3, b4, hb2⟩
  have c0 := hb2.cell (p := ⟨w1.heap.size, 0, none⟩) (by simp)
  have c1 := hb2.cell (p := ⟨w1.heap.size, 1, none⟩) (by simp)
  simp [go_sem] at c0 c1
  have hbw : Below w1.heap.size w1 w2 := (bmore (Below.refl _ _) _).trans (hb2.mono (by simp))
  have hz : w1.heap.size < w2.heap.size := by have := hb2.size; simp at this; omega
  clear hb2
  obtain ⟨lo, hlo⟩ : ∃ b, lostB (wid (wMant s) 0) (wPow g - wPow s).toNat = b := ⟨_, rfl⟩
  rw [hlo]
  have FF := F.out
  simp only [hlo, ← b4] at FF
  have F2 : Hid (_ ∧ _ ∧ _ ∧ _ ∧ _) := FF
  clear F FF b4 hlo
  go_wp2_with fail
  refine (neg_any _ _ h0 h1).mono ?_
  rintro e w3 ⟨rfl, rfl⟩
  rw [SG.out]
  go_wp2_with fail
  refine (neg_any _ _ g0 g1).mono ?_
  rintro e w3 ⟨rfl, rfl⟩
  rw [SS.out]
  by_cases hss : sg = ss
  · subst hss
    go_wp2_with fail
    refine (wAdd _ _ _ _ _ p1 h2 (by omega) (by omega) b0 b1 b2 b3).mono ?_
    rintro e w4 ⟨u4, l4, rfl, d0, d1, d2, d3, d4, hb4⟩
    have R : Hid (_ = _) := F2.out.2.2.2.1 (by first | rfl | trivial)
    have hbx : Below w1.heap.size w1 w4 := (bmore hbw _).trans (hb4.mono (by simp; omega))
    clear hb4
    have D4 : Hid (wid u4 l4 = wid (wMant g) 0 + wid u l) := by
      show _ = _
      rw [d4]
      refine Nat.mod_eq_of_lt ?_
      have t1 := F2.out.1
      have t2 := F2.out.2.1
      have e1 : (2 : Nat) ^ 117 + 2 ^ 117 = 2 ^ 118 := by decide
      have e2 : (2 : Nat) ^ 118 < 2 ^ 128 := by decide
      omega
    clear d4
    go_wp2_with fail
    refine (pRound _ _ _ _ _ _ d0 d1 d2 d3).mono ?_
    rintro e w5 ⟨rfl, hb5⟩
    rw [D4.out, F2.out.2.2.1]
    have hby : Below w1.heap.size w1 w5 := (bmore hbx _).trans (hb5.mono (by simp; have := hbx.size; omega))
    go_wp2
    go_ret2
    refine ⟨?_, hby⟩
    rw [R.out]
    rfl
  · obtain ⟨R0, R1⟩ := F2.out.2.2.2.2 hss
    have E0 : Hid (_ ≤ _) := R0
    have E1 : Hid (_ = _) := R1
    clear R0 R1
    have hbn : (sg == ss) = false := by simpa using hss
    have hz2 : w2.heap.size < (w2.alloc (.cells #[.int .u64 u, .int .u64 l] 101)).heap.size := by simp
    go_upto_if 59 with fail
    go_cut [12] (fun t wx => t = .bool lo ∧ ∃ u' l' : Int, 0 ≤ u' ∧ u' < 18446744073709551616 ∧ 0 ≤ l' ∧ l' < 18446744073709551616 ∧ Hid (wid u' l' = wid u l + lo.toNat) ∧ wx.cell? ⟨w1.heap.size, 0, none⟩ = some (.int .u64 (wMant g)) ∧ wx.cell? ⟨w1.heap.size, 1, none⟩ = some (.int .u64 0) ∧ wx.cell? ⟨w2.heap.size, 0, none⟩ = some (.int .u64 u') ∧ wx.cell? ⟨w2.heap.size, 1, none⟩ = some (.int .u64 l') ∧ w2.heap.size < wx.heap.size ∧ Below w1.heap.size w1 wx)
    case first =>
      cases lo
      · go_wp2
        go_meet
        refine ⟨rfl, u, l, b0, b1, b2, b3, rfl, ?_, ?_, ?_, ?_, hz2, bmore hbw _⟩
        · simp [go_sem, *]
        · simp [go_sem, *]
        · simp [go_sem, *]
        · simp [go_sem, *]
      · go_wp2_with fail
        refine (wAdd _ _ _ _ _ b0 b1 b2 b3 (by omega) (by omega) (by omega) (by omega)).mono ?_
        rintro e w4 ⟨u4, l4, rfl, d0, d1, d2, d3, d4, hb4⟩
        have hb24 : Below w2.heap.size w2 w4 := (bmore (Below.refl _ _) _).trans (hb4.mono (by simp))
        have x0 := cell_later hb24 c0
        have x1 := cell_later hb24 c1
        have x2 := hb4.cell (p := ⟨w2.heap.size, 0, none⟩) (by simp)
        have x3 := hb4.cell (p := ⟨w2.heap.size, 1, none⟩) (by simp)
        have x4 := hb4.frozen (p := ⟨w2.heap.size, 0, none⟩) (by simp)
        have x5 := hb4.frozen (p := ⟨w2.heap.size, 1, none⟩) (by simp)
        simp [go_sem] at x2 x3 x4 x5
        have hz4 : w2.heap.size < w4.heap.size := by have := hb4.size; simp at this; omega
        have hbx : Below w1.heap.size w1 w4 := (bmore hbw _).trans (hb4.mono (by simp; omega))
        have D4 : Hid (wid u4 l4 = wid u l + (true : Bool).toNat) := by
          show _ = _
          rw [d4, show wid 0 1 = 1 from rfl]
          refine Nat.mod_eq_of_lt ?_
          have t2 := F2.out.2.1
          rw [show (true : Bool).toNat = 1 from rfl] at t2
          have e2 : (2 : Nat) ^ 117 < 2 ^ 128 := by decide
          omega
        clear hb4 d4
        go_wp2
        go_meet
        refine ⟨rfl, u4, l4, d0, d1, d2, d3, D4, ?_, ?_, ?_, ?_, by simp; omega, (hbx.setCell (by simp; omega) _).setCell (by simp; omega) _⟩
        · simp [go_sem, *]
        · simp [go_sem, *]
        · simp [go_sem, *]
        · simp [go_sem, *]
    case rest =>
      obtain ⟨rfl, u', l', k0, k1, k2, k3, K4, y0, y1, y2, y3, hzx, hbx⟩ := hcut
      clear c0 c1
      go_wp2_with fail
      refine (wSub _ _ _ _ _ p1 h2 (by omega) (by omega) k0 k1 k2 k3).mono ?_
      rintro e w5 ⟨u5, l5, rfl, d0, d1, d2, d3, d4, hb5⟩
      have hby := bstep hbx hb5
      have D4 : Hid (wid u5 l5 = wid (wMant g) 0 - (wid u l + lo.toNat)) := by
        show _ = _
        rw [d4, K4.out]
        have t1 := F2.out.1
        have t2 := E0.out
        have e2 : (2 : Nat) ^ 117 < 2 ^ 128 := by decide
        rw [show 2 ^ 128 + wid (wMant g) 0 - (wid u l + lo.toNat) = (wid (wMant g) 0 - (wid u l + lo.toNat)) + 2 ^ 128 by omega, Nat.add_mod_right]
        exact Nat.mod_eq_of_lt (by omega)
      clear hb5 d4
      have hsub : IntKind.i64.wrap (wPow g - 64) = wPow g - 64 := by rw [IntKind.wrap_i64]; omega
      cases sg
      · go_wp2_with fail
        go_region_with (first | (go_at_call 77; refine (pRound _ _ _ _ _ _ d0 d1 d2 d3).mono ?_; rintro e w7 ⟨rfl, hb7⟩; have hb57 : Below w1.heap.size w1 w7 := ((bmore hby _).drew).trans (hb7.mono (by have := hby.size; simp; omega))))
        all_goals go_wp2
        all_goals go_ret2
        all_goals (refine ⟨?_, hb57⟩; rw [E1.out, D4.out, F2.out.2.2.1]; rfl)
      · go_wp2_with fail
        go_region_held3 (fun w' => w'.cell? ⟨w5.heap.size, 0, none⟩ = some (.int .u64 u5) ∧ w'.cell? ⟨w5.heap.size, 1, none⟩ = some (.int .u64 l5)) (simp [go_sem, *])
          (first | (go_at_call 104; refine (wZero _ _ _ d0 d1 d2 d3).mono ?_; rintro e w6 ⟨rfl, hb6⟩; have v0 := hb6.cell (p := ⟨w5.heap.size, 0, none⟩) (by simp); have v1 := hb6.cell (p := ⟨w5.heap.size, 1, none⟩) (by simp); simp [go_sem] at v0 v1; have hb56 : Below w1.heap.size w1 w6 := ((bmore hby _).drew).trans (hb6.mono (by have := hby.size; simp; omega)) ) | (go_at_call 77; refine (pRound _ _ _ _ _ _ d0 d1 d2 d3).mono ?_; rintro e w7 ⟨rfl, hb7⟩; have x0 := cell_later hb7 v0; have x1 := cell_later hb7 v1))
        go_wp2
        go_ret2
        refine ⟨?_, bstep hb56 hb7⟩
        rw [E1.out, D4.out, F2.out.2.2.1]
        rw [show (!decide (wid (wMant g) 0 - (wid u l + lo.toNat) = 0)) = (true && decide (wid (wMant g) 0 - (wid u l + lo.toNat) ≠ 0)) by simp]
        rfl
end Go.Proofs.Ytokgfeeaoioegaa

/-
  What soft's Add, Sub, Mul and Div return: addS, mulS, divS, at all patterns.
-/
namespace Go.Proofs.Ytokgfeeaoioegaa
open Go.RowKit
set_option linter.unusedVariables false

theorem fin_inf (b : Int) (h : isNan b = false) : decide (b / 4503599627370496 % 2048 < 2047) = !isInf b := by
  unfold isNan mag at h
  unfold isInf mag
  rw [decide_eq_false_iff_not] at h
  rw [Bool.eq_iff_iff]
  simp only [Bool.not_eq_true', decide_eq_true_eq, decide_eq_false_iff_not]
  omega
set_option maxHeartbeats 1000000 in
theorem pAdd (a b : Int) (w : World) (h0 : 0 ≤ a) (h1 : a < 18446744073709551616) (g0 : 0 ≤ b) (g1 : b < 18446744073709551616) :
    Calls Try.prog 81 #[.int .u64 a, .int .u64 b] w fun e w' => e = .returned (.tuple #[.int .u64 (addS a b).1, .int .u8 (addS a b).2]) ∧ Below w.heap.size w w' := by
  obtain ⟨na, hna⟩ : ∃ x, isNan a = x := ⟨_, rfl⟩
  obtain ⟨nb, hnb⟩ : ∃ x, isNan b = x := ⟨_, rfl⟩
  obtain ⟨ia, hia⟩ : ∃ x, isInf a = x := ⟨_, rfl⟩
  obtain ⟨ib, hib⟩ : ∃ x, isInf b = x := ⟨_, rfl⟩
  obtain ⟨za, hza⟩ : ∃ x, isZ a = x := ⟨_, rfl⟩
  obtain ⟨zb, hzb⟩ : ∃ x, isZ b = x := ⟨_, rfl⟩
  have NA : Hid (_ = _) := hna
  have NB : Hid (_ = _) := hnb
  have IA : Hid (_ = _) := hia
  have IB : Hid (_ = _) := hib
  have ZA : Hid (_ = _) := hza
  have ZB : Hid (_ = _) := hzb
  have SA : Hid (decide (9223372036854775808 ≤ a) = sgn a) := rfl
  have SB : Hid (decide (9223372036854775808 ≤ b) = sgn b) := rfl
  have NN : Hid ((isNan a || isNan b) = (na || nb)) := by show _ = _; rw [hna, hnb]
  obtain ⟨S, hS⟩ : ∃ S, addS a b = S := ⟨_, rfl⟩
  rw [hS]
  unfold addS at hS
  rw [hna, hnb, hia, hib, hza, hzb] at hS
  have SP : Hid (_ = S) := hS
  clear hS
  clear hna hnb hia hib hza hzb
  by_cases hn : (na || nb) = true
  · have SP2 : Hid (S = (9221120237041090560, nanF a b)) := by show _ = _; rw [← SP.out, if_pos hn]
    rw [hn] at NN
    clear SP
    go_enter Try.func81, Try.ntmps81
    go_wp2_with fail
    refine (pNo _ _ _ _ h0 h1 g0 g1 (by simp [go_sem]) (by simp [go_sem])).mono ?_
    rintro e w1 ⟨rfl, rfl⟩
    rw [NN.out]
    go_wp2
    go_ret2
    refine ⟨?_, bmore (Below.refl _ _) _⟩
    rw [SP2.out]
    all_goals rfl
  · have hn2 : na = false ∧ nb = false := by revert hn; cases na <;> cases nb <;> simp
    obtain ⟨rfl, rfl⟩ := hn2
    rw [show (false || false) = false from rfl] at NN
    have FA : Hid (_ = _) := fin_inf a NA.out
    have FB : Hid (_ = _) := fin_inf b NB.out
    rw [IA.out] at FA
    rw [IB.out] at FB
    clear hn
    cases ia
    · cases ib
      · have ma := mag_fin a NA.out IA.out
        have mb := mag_fin b NB.out IB.out
        by_cases hz : (za && zb) = true
        · have hz2 : za = true ∧ zb = true := by revert hz; cases za <;> cases zb <;> simp
          obtain ⟨rfl, rfl⟩ := hz2
          have SP2 : Hid (S = (sgnB (sgn a && sgn b), 0)) := by show _ = _; rw [← SP.out]; rfl
          clear SP
          have hab : bits .and .u64 a b = sgnB (sgn a && sgn b) := by
            rcases zero_two a h0 h1 ZA.out with h | h <;> rcases zero_two b g0 g1 ZB.out with g | g <;> rw [h, g] <;> decide
          have HAB : Hid (_ = _) := hab
          clear hab
          go_enter Try.func81, Try.ntmps81
          go_wp2_with fail
          refine (pNo _ _ _ _ h0 h1 g0 g1 (by simp [go_sem]) (by simp [go_sem])).mono ?_
          rintro e w1 ⟨rfl, rfl⟩
          rw [NN.out]
          go_wp2_with (first | (go_at_call_of 57 a; refine (finite_any _ _ h0 h1).mono ?_; rintro e w' ⟨rfl, rfl⟩; rw [FA.out]) | (go_at_call_of 57 b; refine (finite_any _ _ g0 g1).mono ?_; rintro e w' ⟨rfl, rfl⟩; rw [FB.out]) | (go_at_call_of 110 a; refine (pIsZ _ _ h0 h1).mono ?_; rintro e w' ⟨rfl, rfl⟩; rw [ZA.out]) | (go_at_call_of 110 b; refine (pIsZ _ _ g0 g1).mono ?_; rintro e w' ⟨rfl, rfl⟩; rw [ZB.out]))
          go_ret2
          refine ⟨?_, bmore (Below.refl _ _) _⟩
          rw [SP2.out, HAB.out]
          all_goals rfl
        · have SP2 : Hid (S = rndS (sv a + sv b)) := by
            show _ = _
            rw [← SP.out, if_neg (by simp), if_neg (by simp), if_neg (by simp), if_neg (by simp), if_neg hz]
          have HZ : Hid (¬ (za && zb) = true) := hz
          clear SP
          have hzz : mag a ≠ 0 ∨ mag b ≠ 0 := by
            have h1 := ZA.out
            have h2 := ZB.out
            unfold isZ at h1 h2
            rcases Nat.eq_zero_or_pos (mag a) with k | k
            · rcases Nat.eq_zero_or_pos (mag b) with k2 | k2
              · exfalso; apply hz; rw [← h1, ← h2, k, k2]; rfl
              · right; omega
            · left; omega
          have HZZ : Hid (_ ∨ _) := hzz
          have MA : Hid ((mag a : Int) = a % 9223372036854775808) := by show _ = _; unfold mag; omega
          have MB : Hid ((mag b : Int) = b % 9223372036854775808) := by show _ = _; unfold mag; omega
          clear hzz hz
          by_cases hlt : a % 9223372036854775808 < b % 9223372036854775808
          · have sc : Hid (_ = _) := sv_comm a b
            cases za
            all_goals
              cases zb
              all_goals
                first
                  | (exfalso; exact HZ.out rfl; done)
                  | skip
              all_goals
                go_enter Try.func81, Try.ntmps81
                go_wp2_with fail
                refine (pNo _ _ _ _ h0 h1 g0 g1 (by simp [go_sem]) (by simp [go_sem])).mono ?_
                rintro e w1 ⟨rfl, rfl⟩
                rw [NN.out]
                go_wp2_with (first | (go_at_call_of 57 a; refine (finite_any _ _ h0 h1).mono ?_; rintro e w' ⟨rfl, rfl⟩; rw [FA.out]) | (go_at_call_of 57 b; refine (finite_any _ _ g0 g1).mono ?_; rintro e w' ⟨rfl, rfl⟩; rw [FB.out]) | (go_at_call_of 110 a; refine (pIsZ _ _ h0 h1).mono ?_; rintro e w' ⟨rfl, rfl⟩; rw [ZA.out]) | (go_at_call_of 110 b; refine (pIsZ _ _ g0 g1).mono ?_; rintro e w' ⟨rfl, rfl⟩; rw [ZB.out]) | (go_at_call_of 48 a; refine (abs_any _ _ h0 h1).mono ?_; rintro e w' ⟨rfl, rfl⟩) | (go_at_call_of 48 b; refine (abs_any _ _ g0 g1).mono ?_; rintro e w' ⟨rfl, rfl⟩) | fail)
                refine (pAddN b a _ g0 g1 h0 h1 mb (by have := MA.out; have := MB.out; omega) (by have := MA.out; have := MB.out; omega)).mono ?_
                rintro e w' ⟨rfl, hb'⟩
                go_wp2
                go_ret2
                refine ⟨?_, (bmore (Below.refl _ _) _).trans (hb'.mono (by simp))⟩
                rw [SP2.out, sc.out]
                all_goals rfl
          · cases za
            all_goals
              cases zb
              all_goals
                first
                  | (exfalso; exact HZ.out rfl; done)
                  | skip
              all_goals
                go_enter Try.func81, Try.ntmps81
                go_wp2_with fail
                refine (pNo _ _ _ _ h0 h1 g0 g1 (by simp [go_sem]) (by simp [go_sem])).mono ?_
                rintro e w1 ⟨rfl, rfl⟩
                rw [NN.out]
                go_wp2_with (first | (go_at_call_of 57 a; refine (finite_any _ _ h0 h1).mono ?_; rintro e w' ⟨rfl, rfl⟩; rw [FA.out]) | (go_at_call_of 57 b; refine (finite_any _ _ g0 g1).mono ?_; rintro e w' ⟨rfl, rfl⟩; rw [FB.out]) | (go_at_call_of 110 a; refine (pIsZ _ _ h0 h1).mono ?_; rintro e w' ⟨rfl, rfl⟩; rw [ZA.out]) | (go_at_call_of 110 b; refine (pIsZ _ _ g0 g1).mono ?_; rintro e w' ⟨rfl, rfl⟩; rw [ZB.out]) | (go_at_call_of 48 a; refine (abs_any _ _ h0 h1).mono ?_; rintro e w' ⟨rfl, rfl⟩) | (go_at_call_of 48 b; refine (abs_any _ _ g0 g1).mono ?_; rintro e w' ⟨rfl, rfl⟩) | fail)
                refine (pAddN a b _ h0 h1 g0 g1 ma (by have := MA.out; have := MB.out; omega) (by have := MA.out; have := MB.out; have := HZZ.out; omega)).mono ?_
                rintro e w' ⟨rfl, hb'⟩
                go_wp2
                go_ret2
                refine ⟨?_, (bmore (Below.refl _ _) _).trans (hb'.mono (by simp))⟩
                rw [SP2.out]
                all_goals rfl
      · have SP2 : Hid (S = (b, 0)) := by show _ = _; rw [← SP.out]; rfl
        clear SP
        go_enter Try.func81, Try.ntmps81
        go_wp2_with fail
        refine (pNo _ _ _ _ h0 h1 g0 g1 (by simp [go_sem]) (by simp [go_sem])).mono ?_
        rintro e w1 ⟨rfl, rfl⟩
        rw [NN.out]
        go_wp2_with (first | (go_at_call_of 57 a; refine (finite_any _ _ h0 h1).mono ?_; rintro e w' ⟨rfl, rfl⟩; rw [FA.out]) | (go_at_call_of 57 b; refine (finite_any _ _ g0 g1).mono ?_; rintro e w' ⟨rfl, rfl⟩; rw [FB.out]))
        go_ret2
        refine ⟨?_, bmore (Below.refl _ _) _⟩
        rw [SP2.out]
        all_goals rfl
    · cases ib
      · have SP2 : Hid (S = (a, 0)) := by show _ = _; rw [← SP.out]; rfl
        clear SP
        go_enter Try.func81, Try.ntmps81
        go_wp2_with fail
        refine (pNo _ _ _ _ h0 h1 g0 g1 (by simp [go_sem]) (by simp [go_sem])).mono ?_
        rintro e w1 ⟨rfl, rfl⟩
        rw [NN.out]
        go_wp2_with (first | (go_at_call_of 57 a; refine (finite_any _ _ h0 h1).mono ?_; rintro e w' ⟨rfl, rfl⟩; rw [FA.out]) | (go_at_call_of 57 b; refine (finite_any _ _ g0 g1).mono ?_; rintro e w' ⟨rfl, rfl⟩; rw [FB.out]))
        go_ret2
        refine ⟨?_, bmore (Below.refl _ _) _⟩
        rw [SP2.out]
        all_goals rfl
      · by_cases hab : a = b
        · have SP2 : Hid (S = (a, 0)) := by show _ = _; rw [← SP.out, decide_eq_false (fun k => k hab)]; rfl
          clear SP
          subst hab
          go_enter Try.func81, Try.ntmps81
          go_wp2_with fail
          refine (pNo _ _ _ _ h0 h1 g0 g1 (by simp [go_sem]) (by simp [go_sem])).mono ?_
          rintro e w1 ⟨rfl, rfl⟩
          rw [NN.out]
          go_wp2_with (first | (go_at_call 57; refine (finite_any _ _ h0 h1).mono ?_; rintro e w' ⟨rfl, rfl⟩; rw [FA.out]))
          go_ret2
          refine ⟨?_, bmore (Below.refl _ _) _⟩
          rw [SP2.out]
          all_goals rfl
        · have SP2 : Hid (S = (9221120237041090560, 16)) := by show _ = _; rw [← SP.out, decide_eq_true hab]; rfl
          clear SP
          go_enter Try.func81, Try.ntmps81
          go_wp2_with fail
          refine (pNo _ _ _ _ h0 h1 g0 g1 (by simp [go_sem]) (by simp [go_sem])).mono ?_
          rintro e w1 ⟨rfl, rfl⟩
          rw [NN.out]
          go_wp2_with (first | (go_at_call_of 57 a; refine (finite_any _ _ h0 h1).mono ?_; rintro e w' ⟨rfl, rfl⟩; rw [FA.out]) | (go_at_call_of 57 b; refine (finite_any _ _ g0 g1).mono ?_; rintro e w' ⟨rfl, rfl⟩; rw [FB.out]))
          go_ret2
          refine ⟨?_, bmore (Below.refl _ _) _⟩
          rw [SP2.out]
          all_goals rfl
theorem pSub (a b : Int) (w : World) (h0 : 0 ≤ a) (h1 : a < 18446744073709551616) (g0 : 0 ≤ b) (g1 : b < 18446744073709551616) :
    Calls Try.prog 83 #[.int .u64 a, .int .u64 b] w fun e w' => e = .returned (.tuple #[.int .u64 (addS a (wFlip b)).1, .int .u8 (addS a (wFlip b)).2]) ∧ Below w.heap.size w w' := by
  obtain ⟨f0, f1⟩ := wFlip_bd b
  go_enter Try.func83, Try.ntmps83
  go_wp2_with fail
  refine (flip_any _ _ g0 g1).mono ?_
  rintro e w1 ⟨rfl, rfl⟩
  go_wp2_with fail
  refine (pAdd _ _ _ h0 h1 f0 f1).mono ?_
  rintro e w2 ⟨rfl, hb2⟩
  go_wp2
  go_ret2
  exact ⟨ret_eq rfl, hb2⟩
set_option maxHeartbeats 1000000 in
theorem pMul (a b : Int) (w : World) (h0 : 0 ≤ a) (h1 : a < 18446744073709551616) (g0 : 0 ≤ b) (g1 : b < 18446744073709551616) :
    Calls Try.prog 82 #[.int .u64 a, .int .u64 b] w fun e w' => e = .returned (.tuple #[.int .u64 (mulS a b).1, .int .u8 (mulS a b).2]) ∧ Below w.heap.size w w' := by
  obtain ⟨na, hna⟩ : ∃ x, isNan a = x := ⟨_, rfl⟩
  obtain ⟨nb, hnb⟩ : ∃ x, isNan b = x := ⟨_, rfl⟩
  obtain ⟨ia, hia⟩ : ∃ x, isInf a = x := ⟨_, rfl⟩
  obtain ⟨ib, hib⟩ : ∃ x, isInf b = x := ⟨_, rfl⟩
  obtain ⟨za, hza⟩ : ∃ x, isZ a = x := ⟨_, rfl⟩
  obtain ⟨zb, hzb⟩ : ∃ x, isZ b = x := ⟨_, rfl⟩
  have NA : Hid (_ = _) := hna
  have NB : Hid (_ = _) := hnb
  have IA : Hid (_ = _) := hia
  have IB : Hid (_ = _) := hib
  have ZA : Hid (_ = _) := hza
  have ZB : Hid (_ = _) := hzb
  have SA : Hid (decide (9223372036854775808 ≤ a) = sgn a) := rfl
  have SB : Hid (decide (9223372036854775808 ≤ b) = sgn b) := rfl
  have NN : Hid ((isNan a || isNan b) = (na || nb)) := by show _ = _; rw [hna, hnb]
  obtain ⟨S, hS⟩ : ∃ S, mulS a b = S := ⟨_, rfl⟩
  rw [hS]
  unfold mulS at hS
  rw [hna, hnb, hia, hib, hza, hzb] at hS
  have SP : Hid (_ = S) := hS
  clear hS
  clear hna hnb hia hib hza hzb
  by_cases hn : (na || nb) = true
  · have SP2 : Hid (S = (9221120237041090560, nanF a b)) := by show _ = _; rw [← SP.out, if_pos hn]
    rw [hn] at NN
    clear SP
    go_enter Try.func82, Try.ntmps82
    go_wp2_with fail
    refine (pNo _ _ _ _ h0 h1 g0 g1 (by simp [go_sem]) (by simp [go_sem])).mono ?_
    rintro e w1 ⟨rfl, rfl⟩
    rw [NN.out]
    go_wp2
    go_ret2
    refine ⟨?_, bmore (Below.refl _ _) _⟩
    rw [SP2.out]
    all_goals rfl
  · have hn2 : na = false ∧ nb = false := by revert hn; cases na <;> cases nb <;> simp
    obtain ⟨rfl, rfl⟩ := hn2
    rw [show (false || false) = false from rfl] at NN
    have FA : Hid (_ = _) := fin_inf a NA.out
    have FB : Hid (_ = _) := fin_inf b NB.out
    rw [IA.out] at FA
    rw [IB.out] at FB
    clear hn
    cases ia
    · cases ib
      · have ma := mag_fin a NA.out IA.out
        have mb := mag_fin b NB.out IB.out
        obtain ⟨p1, p2, p3, p4⟩ := parts_bd a
        obtain ⟨q1, q2, q3, q4⟩ := parts_bd b
        have SP2 : Hid (S = (sgnB (sgn a != sgn b) + ((numR ((wMant a).toNat * (wMant b).toNat) (clampE (wPow a + wPow b)) false : Nat) : Int), ((flagR ((wMant a).toNat * (wMant b).toNat) (clampE (wPow a + wPow b)) false : Nat) : Int))) := by
          show _ = _
          rw [← SP.out, if_neg (by simp), if_neg (by simp), if_neg (by simp), clampE_in _ (by omega) (by omega), (numR_false _ _).1, (numR_false _ _).2, parts_V a ma, parts_V b mb, (mul_lay _ _ _ _ p3 q3).1, (mul_lay _ _ _ _ p3 q3).2]
        clear SP
        go_enter Try.func82, Try.ntmps82
        go_wp2_with fail
        refine (pNo _ _ _ _ h0 h1 g0 g1 (by simp [go_sem]) (by simp [go_sem])).mono ?_
        rintro e w1 ⟨rfl, rfl⟩
        rw [NN.out]
        go_wp2_with (first | (go_at_call_of 65 a; refine (neg_any _ _ h0 h1).mono ?_; rintro e w' ⟨rfl, rfl⟩; rw [SA.out]) | (go_at_call_of 65 b; refine (neg_any _ _ g0 g1).mono ?_; rintro e w' ⟨rfl, rfl⟩; rw [SB.out]) | (go_at_call_of 57 a; refine (finite_any _ _ h0 h1).mono ?_; rintro e w' ⟨rfl, rfl⟩; rw [FA.out]) | (go_at_call_of 57 b; refine (finite_any _ _ g0 g1).mono ?_; rintro e w' ⟨rfl, rfl⟩; rw [FB.out]) | (go_at_call_of 63 a; refine (parts_any _ _ h0 h1).mono ?_; rintro e w' ⟨rfl, rfl⟩) | (go_at_call_of 63 b; refine (parts_any _ _ g0 g1).mono ?_; rintro e w' ⟨rfl, rfl⟩) | fail)
        refine (wMul _ _ _ p1 (by omega) q1 (by omega)).mono ?_
        rintro e w2 ⟨u, l, rfl, k0, k1, k2, k3, k4, hb2⟩
        have K4 : Hid (_ = _) := k4
        clear k4
        go_wp2_with fail
        refine (pRound _ _ _ _ _ _ k0 k1 k2 k3).mono ?_
        rintro e w3 ⟨rfl, hb3⟩
        rw [K4.out]
        go_wp2
        go_ret2
        refine ⟨?_, bstep ((bmore (Below.refl _ _) _).trans (hb2.mono (by simp))) hb3⟩
        rw [SP2.out]
        all_goals rfl
      · cases za
        · have SP2 : Hid (S = (sgnB (sgn a != sgn b) + 9218868437227405312, 0)) := by show _ = _; rw [← SP.out, ← ZB.out, inf_not_z b IB.out]; rfl
          have hzb : zb = false := by rw [← ZB.out]; exact inf_not_z b IB.out
          subst hzb
          clear SP
          go_enter Try.func82, Try.ntmps82
          go_wp2_with fail
          refine (pNo _ _ _ _ h0 h1 g0 g1 (by simp [go_sem]) (by simp [go_sem])).mono ?_
          rintro e w1 ⟨rfl, rfl⟩
          rw [NN.out]
          go_wp2_with (first | (go_at_call_of 65 a; refine (neg_any _ _ h0 h1).mono ?_; rintro e w' ⟨rfl, rfl⟩; rw [SA.out]) | (go_at_call_of 65 b; refine (neg_any _ _ g0 g1).mono ?_; rintro e w' ⟨rfl, rfl⟩; rw [SB.out]) | (go_at_call_of 57 a; refine (finite_any _ _ h0 h1).mono ?_; rintro e w' ⟨rfl, rfl⟩; rw [FA.out]) | (go_at_call_of 57 b; refine (finite_any _ _ g0 g1).mono ?_; rintro e w' ⟨rfl, rfl⟩; rw [FB.out]) | (go_at_call_of 110 a; refine (pIsZ _ _ h0 h1).mono ?_; rintro e w' ⟨rfl, rfl⟩; rw [ZA.out]) | (go_at_call_of 110 b; refine (pIsZ _ _ g0 g1).mono ?_; rintro e w' ⟨rfl, rfl⟩; rw [ZB.out]) | (go_at_call 112; refine (pInf _ _).mono ?_; rintro e w' ⟨rfl, rfl⟩))
          go_ret2
          refine ⟨?_, bmore (Below.refl _ _) _⟩
          rw [SP2.out]
          all_goals rfl
        · have SP2 : Hid (S = (9221120237041090560, 16)) := by show _ = _; rw [← SP.out]; rfl
          clear SP
          go_enter Try.func82, Try.ntmps82
          go_wp2_with fail
          refine (pNo _ _ _ _ h0 h1 g0 g1 (by simp [go_sem]) (by simp [go_sem])).mono ?_
          rintro e w1 ⟨rfl, rfl⟩
          rw [NN.out]
          go_wp2_with (first | (go_at_call_of 65 a; refine (neg_any _ _ h0 h1).mono ?_; rintro e w' ⟨rfl, rfl⟩; rw [SA.out]) | (go_at_call_of 65 b; refine (neg_any _ _ g0 g1).mono ?_; rintro e w' ⟨rfl, rfl⟩; rw [SB.out]) | (go_at_call_of 57 a; refine (finite_any _ _ h0 h1).mono ?_; rintro e w' ⟨rfl, rfl⟩; rw [FA.out]) | (go_at_call_of 57 b; refine (finite_any _ _ g0 g1).mono ?_; rintro e w' ⟨rfl, rfl⟩; rw [FB.out]) | (go_at_call_of 110 a; refine (pIsZ _ _ h0 h1).mono ?_; rintro e w' ⟨rfl, rfl⟩; rw [ZA.out]) | (go_at_call_of 110 b; refine (pIsZ _ _ g0 g1).mono ?_; rintro e w' ⟨rfl, rfl⟩; rw [ZB.out]) | (go_at_call 112; refine (pInf _ _).mono ?_; rintro e w' ⟨rfl, rfl⟩))
          go_ret2
          refine ⟨?_, bmore (Below.refl _ _) _⟩
          rw [SP2.out]
          all_goals rfl
    · have hza : za = false := by rw [← ZA.out]; exact inf_not_z a IA.out
      subst hza
      cases zb
      · have SP2 : Hid (S = (sgnB (sgn a != sgn b) + 9218868437227405312, 0)) := by show _ = _; rw [← SP.out]; cases ib <;> rfl
        clear SP
        go_enter Try.func82, Try.ntmps82
        go_wp2_with fail
        refine (pNo _ _ _ _ h0 h1 g0 g1 (by simp [go_sem]) (by simp [go_sem])).mono ?_
        rintro e w1 ⟨rfl, rfl⟩
        rw [NN.out]
        go_wp2_with (first | (go_at_call_of 65 a; refine (neg_any _ _ h0 h1).mono ?_; rintro e w' ⟨rfl, rfl⟩; rw [SA.out]) | (go_at_call_of 65 b; refine (neg_any _ _ g0 g1).mono ?_; rintro e w' ⟨rfl, rfl⟩; rw [SB.out]) | (go_at_call_of 57 a; refine (finite_any _ _ h0 h1).mono ?_; rintro e w' ⟨rfl, rfl⟩; rw [FA.out]) | (go_at_call_of 57 b; refine (finite_any _ _ g0 g1).mono ?_; rintro e w' ⟨rfl, rfl⟩; rw [FB.out]) | (go_at_call_of 110 a; refine (pIsZ _ _ h0 h1).mono ?_; rintro e w' ⟨rfl, rfl⟩; rw [ZA.out]) | (go_at_call_of 110 b; refine (pIsZ _ _ g0 g1).mono ?_; rintro e w' ⟨rfl, rfl⟩; rw [ZB.out]) | (go_at_call 112; refine (pInf _ _).mono ?_; rintro e w' ⟨rfl, rfl⟩))
        go_ret2
        refine ⟨?_, bmore (Below.refl _ _) _⟩
        rw [SP2.out]
        all_goals rfl
      · have SP2 : Hid (S = (9221120237041090560, 16)) := by show _ = _; rw [← SP.out]; cases ib <;> rfl
        clear SP
        go_enter Try.func82, Try.ntmps82
        go_wp2_with fail
        refine (pNo _ _ _ _ h0 h1 g0 g1 (by simp [go_sem]) (by simp [go_sem])).mono ?_
        rintro e w1 ⟨rfl, rfl⟩
        rw [NN.out]
        go_wp2_with (first | (go_at_call_of 65 a; refine (neg_any _ _ h0 h1).mono ?_; rintro e w' ⟨rfl, rfl⟩; rw [SA.out]) | (go_at_call_of 65 b; refine (neg_any _ _ g0 g1).mono ?_; rintro e w' ⟨rfl, rfl⟩; rw [SB.out]) | (go_at_call_of 57 a; refine (finite_any _ _ h0 h1).mono ?_; rintro e w' ⟨rfl, rfl⟩; rw [FA.out]) | (go_at_call_of 57 b; refine (finite_any _ _ g0 g1).mono ?_; rintro e w' ⟨rfl, rfl⟩; rw [FB.out]) | (go_at_call_of 110 a; refine (pIsZ _ _ h0 h1).mono ?_; rintro e w' ⟨rfl, rfl⟩; rw [ZA.out]) | (go_at_call_of 110 b; refine (pIsZ _ _ g0 g1).mono ?_; rintro e w' ⟨rfl, rfl⟩; rw [ZB.out]) | (go_at_call 112; refine (pInf _ _).mono ?_; rintro e w' ⟨rfl, rfl⟩))
        go_ret2
        refine ⟨?_, bmore (Below.refl _ _) _⟩
        rw [SP2.out]
        all_goals rfl
end Go.Proofs.Ytokgfeeaoioegaa

/-
  What soft's Div returns: divS, at all patterns.
-/
namespace Go.Proofs.Ytokgfeeaoioegaa
open Go.RowKit
set_option linter.unusedVariables false

theorem shl_fit (m k : Nat) (h : m * 2 ^ k < 18014398509481984) : IntKind.u64.wrap ((m : Int) * 2 ^ k) = ((m * 2 ^ k : Nat) : Int) := by
  rw [IntKind.wrap_u64, show ((m : Int) * 2 ^ k) = ((m * 2 ^ k : Nat) : Int) by push_cast; rfl]
  omega
theorem grow (m n : Nat) (hm : 0 < m) (hn : (bl m).length ≤ n) : 2 ^ (n - 1) ≤ m * 2 ^ (n - (bl m).length) ∧ m * 2 ^ (n - (bl m).length) < 2 ^ n := by
  have h1 := (bl_length_le m (bl m).length).1 (Nat.le_refl _)
  have h0 : 0 < (bl m).length := (bl_length_lt m 0).2 (by rw [Nat.pow_zero]; exact hm)
  have h2 := (bl_length_lt m ((bl m).length - 1)).1 (by omega)
  refine ⟨?_, ?_⟩
  · have := Nat.mul_le_mul_right (2 ^ (n - (bl m).length)) h2
    rwa [← Nat.pow_add, show (bl m).length - 1 + (n - (bl m).length) = n - 1 by omega] at this
  · have := Nat.mul_lt_mul_of_pos_right h1 (Nat.two_pow_pos (n - (bl m).length))
    rwa [← Nat.pow_add, show (bl m).length + (n - (bl m).length) = n by omega] at this
end Go.Proofs.Ytokgfeeaoioegaa

/-
  What a Calc's methods return: the numbers of soft's own; F gets all flags that come; a nil Calc: the numbers alone.
-/
namespace Go.Proofs.Ytokgfeeaoioegaa
open Go.RowKit
set_option linter.unusedVariables false

theorem cNote0 (b f : Int) (w : World) :
    Calls Try.prog 80 #[.pointer none, .int .u64 b, .int .u8 f] w fun e w' => e = .returned (.int .u64 b) ∧ w' = w := by
  go_enter Try.func80, Try.ntmps80
  go_wp2
  go_ret
  exact ⟨ret_eq rfl, rfl⟩
theorem cNote (k : Nat) (b f F : Int) (w : World) (c : w.cell? ⟨k, 0, none⟩ = some (.int .u8 F)) (z : w.frozen? ⟨k, 0, none⟩ = false) :
    Calls Try.prog 80 #[.pointer (some ⟨k, 0, none⟩), .int .u64 b, .int .u8 f] w fun e w' => e = .returned (.int .u64 b) ∧ w' = w.setCell ⟨k, 0, none⟩ (.int .u8 (bits .or .u8 F f)) := by
  go_enter Try.func80, Try.ntmps80
  go_wp2
  go_ret
  exact ⟨ret_eq rfl, rfl⟩
theorem cAdd0 (a b : Int) (w : World) (h0 : 0 ≤ a) (h1 : a < 18446744073709551616) (g0 : 0 ≤ b) (g1 : b < 18446744073709551616) :
    Calls Try.prog 44 #[.pointer none, .int .u64 a, .int .u64 b] w fun e w' => e = .returned (.int .u64 (addS a b).1) ∧ Below w.heap.size w w' := by
  go_enter Try.func44, Try.ntmps44
  go_wp2_with fail
  refine (pAdd _ _ _ h0 h1 g0 g1).mono ?_
  rintro e w1 ⟨rfl, hb1⟩
  go_wp2_with fail
  refine (cNote0 _ _ _).mono ?_
  rintro e w2 ⟨rfl, rfl⟩
  go_wp2
  go_ret
  exact ⟨ret_eq rfl, hb1⟩
theorem cAdd (k : Nat) (a b F : Int) (w : World) (h0 : 0 ≤ a) (h1 : a < 18446744073709551616) (g0 : 0 ≤ b) (g1 : b < 18446744073709551616) (hk : k < w.heap.size) (c : w.cell? ⟨k, 0, none⟩ = some (.int .u8 F)) (z : w.frozen? ⟨k, 0, none⟩ = false) :
    Calls Try.prog 44 #[.pointer (some ⟨k, 0, none⟩), .int .u64 a, .int .u64 b] w fun e w' => e = .returned (.int .u64 (addS a b).1) ∧ ∃ w1, Below w.heap.size w w1 ∧ w' = w1.setCell ⟨k, 0, none⟩ (.int .u8 (bits .or .u8 F (addS a b).2)) := by
  go_enter Try.func44, Try.ntmps44
  go_wp2_with fail
  refine (pAdd _ _ _ h0 h1 g0 g1).mono ?_
  rintro e w1 ⟨rfl, hb1⟩
  have c1 := cell_later hb1 c
  have z1 := (hb1.frozen (p := ⟨k, 0, none⟩) hk).trans z
  go_wp2_with fail
  refine (cNote _ _ _ _ _ c1 z1).mono ?_
  rintro e w2 ⟨rfl, rfl⟩
  go_wp2
  go_ret
  exact ⟨ret_eq rfl, w1, hb1, rfl⟩
theorem cSub0 (a b : Int) (w : World) (h0 : 0 ≤ a) (h1 : a < 18446744073709551616) (g0 : 0 ≤ b) (g1 : b < 18446744073709551616) :
    Calls Try.prog 46 #[.pointer none, .int .u64 a, .int .u64 b] w fun e w' => e = .returned (.int .u64 (addS a (wFlip b)).1) ∧ Below w.heap.size w w' := by
  go_enter Try.func46, Try.ntmps46
  go_wp2_with fail
  refine (pSub _ _ _ h0 h1 g0 g1).mono ?_
  rintro e w1 ⟨rfl, hb1⟩
  go_wp2_with fail
  refine (cNote0 _ _ _).mono ?_
  rintro e w2 ⟨rfl, rfl⟩
  go_wp2
  go_ret
  exact ⟨ret_eq rfl, hb1⟩
theorem cSub (k : Nat) (a b F : Int) (w : World) (h0 : 0 ≤ a) (h1 : a < 18446744073709551616) (g0 : 0 ≤ b) (g1 : b < 18446744073709551616) (hk : k < w.heap.size) (c : w.cell? ⟨k, 0, none⟩ = some (.int .u8 F)) (z : w.frozen? ⟨k, 0, none⟩ = false) :
    Calls Try.prog 46 #[.pointer (some ⟨k, 0, none⟩), .int .u64 a, .int .u64 b] w fun e w' => e = .returned (.int .u64 (addS a (wFlip b)).1) ∧ ∃ w1, Below w.heap.size w w1 ∧ w' = w1.setCell ⟨k, 0, none⟩ (.int .u8 (bits .or .u8 F (addS a (wFlip b)).2)) := by
  go_enter Try.func46, Try.ntmps46
  go_wp2_with fail
  refine (pSub _ _ _ h0 h1 g0 g1).mono ?_
  rintro e w1 ⟨rfl, hb1⟩
  have c1 := cell_later hb1 c
  have z1 := (hb1.frozen (p := ⟨k, 0, none⟩) hk).trans z
  go_wp2_with fail
  refine (cNote _ _ _ _ _ c1 z1).mono ?_
  rintro e w2 ⟨rfl, rfl⟩
  go_wp2
  go_ret
  exact ⟨ret_eq rfl, w1, hb1, rfl⟩
theorem cMul0 (a b : Int) (w : World) (h0 : 0 ≤ a) (h1 : a < 18446744073709551616) (g0 : 0 ≤ b) (g1 : b < 18446744073709551616) :
    Calls Try.prog 45 #[.pointer none, .int .u64 a, .int .u64 b] w fun e w' => e = .returned (.int .u64 (mulS a b).1) ∧ Below w.heap.size w w' := by
  go_enter Try.func45, Try.ntmps45
  go_wp2_with fail
  refine (pMul _ _ _ h0 h1 g0 g1).mono ?_
  rintro e w1 ⟨rfl, hb1⟩
  go_wp2_with fail
  refine (cNote0 _ _ _).mono ?_
  rintro e w2 ⟨rfl, rfl⟩
  go_wp2
  go_ret
  exact ⟨ret_eq rfl, hb1⟩
theorem cMul (k : Nat) (a b F : Int) (w : World) (h0 : 0 ≤ a) (h1 : a < 18446744073709551616) (g0 : 0 ≤ b) (g1 : b < 18446744073709551616) (hk : k < w.heap.size) (c : w.cell? ⟨k, 0, none⟩ = some (.int .u8 F)) (z : w.frozen? ⟨k, 0, none⟩ = false) :
    Calls Try.prog 45 #[.pointer (some ⟨k, 0, none⟩), .int .u64 a, .int .u64 b] w fun e w' => e = .returned (.int .u64 (mulS a b).1) ∧ ∃ w1, Below w.heap.size w w1 ∧ w' = w1.setCell ⟨k, 0, none⟩ (.int .u8 (bits .or .u8 F (mulS a b).2)) := by
  go_enter Try.func45, Try.ntmps45
  go_wp2_with fail
  refine (pMul _ _ _ h0 h1 g0 g1).mono ?_
  rintro e w1 ⟨rfl, hb1⟩
  have c1 := cell_later hb1 c
  have z1 := (hb1.frozen (p := ⟨k, 0, none⟩) hk).trans z
  go_wp2_with fail
  refine (cNote _ _ _ _ _ c1 z1).mono ?_
  rintro e w2 ⟨rfl, rfl⟩
  go_wp2
  go_ret
  exact ⟨ret_eq rfl, w1, hb1, rfl⟩
end Go.Proofs.Ytokgfeeaoioegaa

/-
  What the functions of package more return (Fma apart): sqrtS, scaleS, fromS, toS, at every argument.
-/
namespace Go.Proofs.Ytokgfeeaoioegaa
open Go.RowKit
set_option linter.unusedVariables false

theorem add_self (a : Int) (h0 : 0 ≤ a) (h1 : a < 18446744073709551616) (h : 9218868437227405312 ≤ mag a) : addS a a = if isNan a then (9221120237041090560, nanF a a) else (a, 0) := by
  unfold addS
  rw [Bool.or_self]
  by_cases hn : isNan a = true
  · rw [if_pos hn, if_pos hn]
  · have hi : isInf a = true := by
      unfold isNan at hn
      unfold isInf
      rw [decide_eq_true_eq] at hn
      rw [decide_eq_true_eq]
      omega
    rw [if_neg hn, if_neg hn, hi, if_neg (by simp), if_pos rfl]
theorem mZero (b : Int) (w : World) (h0 : 0 ≤ b) (h1 : b < 18446744073709551616) :
    Calls Try.prog 76 #[.int .u64 b] w fun e w' => e = .returned (.bool (isZ b)) ∧ w' = w := by
  go_enter Try.func76, Try.ntmps76
  go_wp2_with (go_at_call 48; refine (abs_any _ _ h0 h1).mono ?_; rintro e w' ⟨rfl, rfl⟩)
  go_ret
  refine ⟨ret_eq (bool_eq ?_), rfl⟩
  unfold isZ mag
  rw [Bool.eq_iff_iff, beq_iff_eq, decide_eq_true_eq]
  omega
theorem mNot (a : Int) (w : World) (h0 : 0 ≤ a) (h1 : a < 18446744073709551616) :
    Calls Try.prog 75 #[.int .u64 a] w fun e w' => e = .returned (.tuple #[.int .u64 (addS a a).1, .int .u8 (addS a a).2]) ∧ Below w.heap.size w w' := by
  go_enter Try.func75, Try.ntmps75
  go_wp2_with fail
  refine (pAdd _ _ _ h0 h1 h0 h1).mono ?_
  rintro e w1 ⟨rfl, hb1⟩
  go_wp2
  go_ret2
  exact ⟨ret_eq rfl, hb1⟩
theorem wid_low (l : Int) (h : 0 ≤ l) : wid 0 l = l.toNat := by unfold wid; omega
theorem fin_dec (a : Int) : decide (a / 4503599627370496 % 2048 < 2047) = decide (mag a < 9218868437227405312) := by rw [decide_eq_decide]; exact fin_mag a
theorem mScale (a n : Int) (w : World) (h0 : 0 ≤ a) (h1 : a < 18446744073709551616) (n0 : -9223372036854775808 ≤ n) (n1 : n ≤ 9223372036854775807) :
    Calls Try.prog 36 #[.int .u64 a, .int .i64 n] w fun e w' => e = .returned (.tuple #[.int .u64 (scaleS a n).1, .int .u8 (scaleS a n).2]) ∧ Below w.heap.size w w' := by
  by_cases hf : mag a < 9218868437227405312
  · obtain ⟨nn, ni⟩ := fin_facts a hf
    by_cases hz : mag a = 0
    · have S : Hid (scaleS a n = (a, 0)) := by
        show _ = _
        unfold scaleS
        rw [nn, if_neg (by simp), (z_iff a).2 hz, Bool.or_true, if_pos rfl]
      have Z : Hid (isZ a = true) := (z_iff a).2 hz
      have F : Hid (decide (a / 4503599627370496 % 2048 < 2047) = true) := by show _ = _; rw [fin_dec]; exact decide_eq_true hf
      clear hf hz nn ni
      go_enter Try.func36, Try.ntmps36
      go_wp2_with (first | (go_at_call 57; refine (finite_any _ _ h0 h1).mono ?_; rintro e w' ⟨rfl, rfl⟩; rw [F.out]) | (go_at_call 76; refine (mZero _ _ h0 h1).mono ?_; rintro e w' ⟨rfl, rfl⟩; rw [Z.out]))
      go_ret2
      refine ⟨?_, Below.refl _ _⟩
      rw [S.out]
      all_goals rfl
    · obtain ⟨p1, p2, p3, p4⟩ := parts_bd a
      have mp := mant_pos a hf hz
      have sc := scale_parts a n hf
      have cl := num_clamp (wMant a).toNat (wPow a) n 10000 mp (by omega) p3 p4 (by omega)
      have S : Hid (scaleS a n = (sgnB (sgn a) + ((numP (wMant a).toNat (wPow a + min (max n (-10000)) 10000) : Nat) : Int), ((flagP (wMant a).toNat (wPow a + min (max n (-10000)) 10000) : Nat) : Int))) := by
        show _ = _
        unfold scaleS
        rw [nn, if_neg (by simp), ni, (z_not a).2 hz, if_neg (by simp), sc.1, sc.2, cl.1, cl.2]
      have Z : Hid (isZ a = false) := (z_not a).2 hz
      have F : Hid (decide (a / 4503599627370496 % 2048 < 2047) = true) := by show _ = _; rw [fin_dec]; exact decide_eq_true hf
      have SG : Hid (decide (9223372036854775808 ≤ a) = sgn a) := rfl
      obtain ⟨N, hN⟩ : ∃ N, min (max n (-10000)) 10000 = N := ⟨_, rfl⟩
      have hN0 : -10000 ≤ N := by omega
      have hN1 : N ≤ 10000 := by omega
      rw [hN] at S
      have CE := clampE_in (wPow a + N) (by omega) (by omega)
      have HN : Hid (_ = _) := hN
      have HC : Hid (_ = _) := CE
      have WL : Hid (wid 0 (wMant a) = (wMant a).toNat) := wid_low _ p1
      clear hf hz nn ni sc cl hN CE
      by_cases c1 : n < -10000
      · obtain rfl : N = -10000 := by have := HN.out; omega
        go_enter Try.func36, Try.ntmps36
        go_wp2_with (first | (go_at_call 57; refine (finite_any _ _ h0 h1).mono ?_; rintro e w' ⟨rfl, rfl⟩; rw [F.out]) | (go_at_call 76; refine (mZero _ _ h0 h1).mono ?_; rintro e w' ⟨rfl, rfl⟩; rw [Z.out]) | (go_at_call 63; refine (parts_any _ _ h0 h1).mono ?_; rintro e w' ⟨rfl, rfl⟩) | (go_at_call 65; refine (neg_any _ _ h0 h1).mono ?_; rintro e w' ⟨rfl, rfl⟩; rw [SG.out]) | fail)
        refine (pRound _ _ _ _ _ _ (by omega) (by omega) (by omega) (by omega)).mono ?_
        rintro e w2 ⟨rfl, hb2⟩
        rw [WL.out, HC.out, (numR_false _ _).1, (numR_false _ _).2]
        go_wp2
        go_ret2
        refine ⟨?_, by first | exact hb2 | exact bstep (bmore (Below.refl _ _) _) hb2⟩
        rw [S.out]
        rfl
      · by_cases c2 : 10000 < n
        · obtain rfl : N = 10000 := by have := HN.out; omega
          go_enter Try.func36, Try.ntmps36
          go_wp2_with (first | (go_at_call 57; refine (finite_any _ _ h0 h1).mono ?_; rintro e w' ⟨rfl, rfl⟩; rw [F.out]) | (go_at_call 76; refine (mZero _ _ h0 h1).mono ?_; rintro e w' ⟨rfl, rfl⟩; rw [Z.out]) | (go_at_call 63; refine (parts_any _ _ h0 h1).mono ?_; rintro e w' ⟨rfl, rfl⟩) | (go_at_call 65; refine (neg_any _ _ h0 h1).mono ?_; rintro e w' ⟨rfl, rfl⟩; rw [SG.out]) | fail)
          refine (pRound _ _ _ _ _ _ (by omega) (by omega) (by omega) (by omega)).mono ?_
          rintro e w2 ⟨rfl, hb2⟩
          rw [WL.out, HC.out, (numR_false _ _).1, (numR_false _ _).2]
          go_wp2
          go_ret2
          refine ⟨?_, by first | exact hb2 | exact bstep (bmore (Below.refl _ _) _) hb2⟩
          rw [S.out]
          rfl
        · obtain rfl : N = n := by have := HN.out; omega
          go_enter Try.func36, Try.ntmps36
          go_wp2_with (first | (go_at_call 57; refine (finite_any _ _ h0 h1).mono ?_; rintro e w' ⟨rfl, rfl⟩; rw [F.out]) | (go_at_call 76; refine (mZero _ _ h0 h1).mono ?_; rintro e w' ⟨rfl, rfl⟩; rw [Z.out]) | (go_at_call 63; refine (parts_any _ _ h0 h1).mono ?_; rintro e w' ⟨rfl, rfl⟩) | (go_at_call 65; refine (neg_any _ _ h0 h1).mono ?_; rintro e w' ⟨rfl, rfl⟩; rw [SG.out]) | fail)
          refine (pRound _ _ _ _ _ _ (by omega) (by omega) (by omega) (by omega)).mono ?_
          rintro e w2 ⟨rfl, hb2⟩
          rw [WL.out, HC.out, (numR_false _ _).1, (numR_false _ _).2]
          go_wp2
          go_ret2
          refine ⟨?_, by first | exact hb2 | exact bstep (bmore (Below.refl _ _) _) hb2⟩
          rw [S.out]
          rfl
  · have S : Hid (scaleS a n = addS a a) := by
      show _ = _
      rw [add_self a h0 h1 (by omega)]
      unfold scaleS
      by_cases hn : isNan a = true
      · rw [if_pos hn, if_pos hn]
      · have hi : isInf a = true := by
          unfold isNan at hn
          unfold isInf
          rw [decide_eq_true_eq] at hn
          rw [decide_eq_true_eq]
          omega
        rw [if_neg hn, if_neg hn, hi, if_pos (by simp)]
    have F : Hid (decide (a / 4503599627370496 % 2048 < 2047) = false) := by show _ = _; rw [fin_dec]; exact decide_eq_false hf
    clear hf
    go_enter Try.func36, Try.ntmps36
    go_wp2_with (first | (go_at_call 57; refine (finite_any _ _ h0 h1).mono ?_; rintro e w' ⟨rfl, rfl⟩; rw [F.out]) | fail)
    refine (mNot _ _ h0 h1).mono ?_
    rintro e w2 ⟨rfl, hb2⟩
    go_wp2
    go_ret2
    refine ⟨?_, hb2⟩
    rw [S.out]
    rfl
def wpN (a : Int) : Nat := if 0 < wPow a then (wMant a).toNat * 2 ^ (min (wPow a) 64).toNat else (wMant a).toNat / 2 ^ (-wPow a).toNat
def wpL (a : Int) : Bool := if 0 < wPow a then false else decide ((wMant a).toNat % 2 ^ (-wPow a).toNat ≠ 0)
theorem wp_math (a : Int) (hf : mag a < 9218868437227405312) :
    (∀ M : Nat, M ≤ 9223372036854775808 → (M < wpN a ↔ M < V (mag a) / 2 ^ uu)) ∧ (wpN a ≤ 9223372036854775808 → wpN a = V (mag a) / 2 ^ uu) ∧ wpL a = decide (V (mag a) % 2 ^ uu ≠ 0) := by
  obtain ⟨p1, p2, p3, p4⟩ := parts_bd a
  rw [parts_V a hf]
  unfold wpN wpL
  by_cases hp : 0 < wPow a
  · obtain ⟨u1, u2⟩ := whole_up (wMant a).toNat (wPow a) (by omega)
    rw [if_pos hp, if_pos hp, u1, u2]
    have hm : 4503599627370496 ≤ (wMant a).toNat := by
      unfold wPow at hp
      unfold wMant
      unfold wKind at *
      repeat' split at hp
      all_goals first | omega | (rw [if_pos (by assumption)]; omega)
    generalize (wMant a).toNat = m at *
    have big : 64 < wPow a → 9223372036854775808 < m * 2 ^ 64 ∧ m * 2 ^ 64 ≤ m * 2 ^ (wPow a).toNat := by
      intro h
      have h1 : 4503599627370496 * 2 ^ 64 ≤ m * 2 ^ 64 := Nat.mul_le_mul_right _ hm
      rw [show 4503599627370496 * 2 ^ 64 = 83076749736557242056487941267521536 by decide] at h1
      exact ⟨by omega, Nat.mul_le_mul_left _ (Nat.pow_le_pow_right (by decide) (by omega))⟩
    refine ⟨?_, ?_, by simp⟩
    · intro M hM
      by_cases h : 64 < wPow a
      · obtain ⟨b1, b2⟩ := big h
        rw [show (min (wPow a) 64).toNat = 64 by omega]
        omega
      · rw [show min (wPow a) 64 = wPow a by omega]
    · intro hM
      by_cases h : 64 < wPow a
      · obtain ⟨b1, b2⟩ := big h
        rw [show (min (wPow a) 64).toNat = 64 by omega] at hM
        omega
      · rw [show min (wPow a) 64 = wPow a by omega]
  · obtain ⟨u1, u2⟩ := whole_down (wMant a).toNat (wPow a) (by omega) p3
    rw [if_neg hp, if_neg hp, u1]
    refine ⟨fun _ _ => Iff.rfl, fun _ => rfl, ?_⟩
    rw [decide_eq_decide]
    exact u2.symm
theorem run_lo2 (h l : Int) (w : World) : (Instr.field 101 (.agg #[.int .u64 h, .int .u64 l]) 1).run Try.prog w = .ok (.int .u64 l) w := by kernel_rfl
end Go.Proofs.Ytokgfeeaoioegaa

/-
  What more's Sqrt returns: sqrtS, at every pattern.
-/
namespace Go.Proofs.Ytokgfeeaoioegaa
open Go.RowKit
set_option linter.unusedVariables false

theorem root_fits (m L : Nat) (hm : 0 < m) (hL : (bl m).length = L) (hL1 : L ≤ 53) (n : Nat) (hn0 : 127 - L ≤ n) (hn1 : n ≤ 128 - L) : 2 ^ n * m < 2 ^ 128 ∧ 18014398509481984 ≤ isq (m * 2 ^ n) := by
  have h1 := (bl_length_le m L).1 (by omega)
  have h0 : 0 < (bl m).length := (bl_length_lt m 0).2 (by rw [Nat.pow_zero]; exact hm)
  have h2 := (bl_length_lt m (L - 1)).1 (by omega)
  constructor
  · have t : 2 ^ n * m < 2 ^ n * 2 ^ L := Nat.mul_lt_mul_of_pos_left h1 (Nat.two_pow_pos n)
    rw [← Nat.pow_add] at t
    exact Nat.lt_of_lt_of_le t (Nat.pow_le_pow_right (by decide) (by omega))
  · refine isq_le _ _ ?_
    have t : 2 ^ (L - 1) * 2 ^ n ≤ m * 2 ^ n := Nat.mul_le_mul_right _ h2
    rw [← Nat.pow_add] at t
    have u : 2 ^ 126 ≤ 2 ^ (L - 1 + n) := Nat.pow_le_pow_right (by decide) (by omega)
    have h3 : 18014398509481984 * 18014398509481984 ≤ 2 ^ 126 := by decide
    omega
/-- What the root's rounding comes to. -/
theorem root_end (a : Int) (n : Nat) (H r : Int) (X : Nat) (hf : mag a < 9218868437227405312) (hz : mag a ≠ 0) (hn : n ≤ 128) (hH : wPow a - n = 2 * H) (r0 : 0 ≤ r) (hX : X = (wMant a).toNat * 2 ^ n) (hb : 18014398509481984 ≤ isq X) (h1 : r.toNat * r.toNat ≤ X) (h2 : X < (r.toNat + 1) * (r.toNat + 1)) :
    numR (wid 0 r) (clampE H) (!decide (r.toNat * r.toNat = X)) = rootN (V (mag a)) ∧ flagR (wid 0 r) (clampE H) (!decide (r.toNat * r.toNat = X)) = rootF (V (mag a)) := by
  obtain ⟨p1, p2, p3, p4⟩ := parts_bd a
  have e := isq_uniq X r.toNat h1 h2
  have ra := root_at (wMant a).toNat n (wPow a) H p3 (by omega) hH (by rw [← hX]; exact hb)
  rw [← hX, ← parts_V a hf] at ra
  rw [wid_low r r0, clampE_in H (by omega) (by omega), ← ra.1, ← ra.2, ← e]
  have hlen : 54 < (bl (isq X)).length := (bl_length_lt _ 54).2 hb
  have hd : H < lastP (isq X) H := by unfold lastP; omega
  have hdec : (!decide (isq X * isq X = X)) = decide (isq X * isq X ≠ X) := by rw [Bool.eq_iff_iff]; simp
  rw [hdec]
  exact numR_more _ H _ (by omega) hd
set_option maxRecDepth 100000 in
set_option maxHeartbeats 2000000 in
theorem mRoot (a : Int) (w : World) (h0 : 0 ≤ a) (h1 : a < 18446744073709551616) (hf : mag a < 9218868437227405312) (hz : mag a ≠ 0) :
    Calls Try.prog 88 #[.int .u64 a] w fun e w' => e = .returned (.tuple #[.int .u64 ((rootN (V (mag a)) : Nat) : Int), .int .u8 ((rootF (V (mag a)) : Nat) : Int)]) ∧ Below w.heap.size w w' := by
  obtain ⟨p1, p2, p3, p4⟩ := parts_bd a
  have hm0 := mant_pos a hf hz
  have WL : Hid (wid 0 (wMant a) = (wMant a).toNat) := wid_low _ p1
  obtain ⟨L, hL⟩ : ∃ L : Nat, (bl (wMant a).toNat).length = L := ⟨_, rfl⟩
  have hL1 : L ≤ 53 := by rw [← hL]; exact (bl_length_le _ 53).2 (by omega)
  have hL0 : 1 ≤ L := by rw [← hL]; exact (bl_length_lt _ 0).2 (by rw [Nat.pow_zero]; exact hm0)
  have RF : Hid (∀ n : Nat, 127 - L ≤ n → n ≤ 128 - L → 2 ^ n * (wMant a).toNat < 2 ^ 128 ∧ 18014398509481984 ≤ isq ((wMant a).toNat * 2 ^ n)) := root_fits _ L hm0 hL hL1
  have HL : Hid (_ = _) := hL
  have RE : Hid (∀ (n : Nat) (H r : Int) (X : Nat), n ≤ 128 → wPow a - n = 2 * H → 0 ≤ r → X = (wMant a).toNat * 2 ^ n → 18014398509481984 ≤ isq X → r.toNat * r.toNat ≤ X → X < (r.toNat + 1) * (r.toNat + 1) → numR (wid 0 r) (clampE H) (!decide (r.toNat * r.toNat = X)) = rootN (V (mag a)) ∧ flagR (wid 0 r) (clampE H) (!decide (r.toNat * r.toNat = X)) = rootF (V (mag a))) := fun n H r X hn => root_end a n H r X hf hz hn
  clear hL hf hz
  by_cases hpar : (wPow a - (128 - (L : Int))) % 2 = 0
  · obtain ⟨H, hH⟩ : ∃ H, wPow a - (128 - (L : Int)) = 2 * H := ⟨(wPow a - (128 - (L : Int))) / 2, by omega⟩
    have t1 : (wPow a - (128 - (L : Int))).tmod 2 = 0 := by rw [hH]; exact Int.mul_tmod_right _ _
    have t2 : (wPow a - (128 - (L : Int))).tdiv 2 = H := by rw [hH]; exact Int.mul_tdiv_cancel_left _ (by decide)
    have HH : Hid (_ = _) := hH
    have hHb : -700 ≤ H ∧ H ≤ 600 := by omega
    clear hH hpar
    go_enter Try.func88, Try.ntmps88
    go_wp2_with fail
    refine (parts_any _ _ h0 h1).mono ?_
    rintro e w1 ⟨rfl, rfl⟩
    go_wp2_with fail
    refine (wLen _ _ _ (by omega) (by omega) (by omega) (by omega)).mono ?_
    rintro e w2 ⟨rfl, hb2⟩
    rw [WL.out, HL.out]
    have c0 := hb2.cell (p := ⟨w1.heap.size, 0, none⟩) (by simp)
    have c1 := hb2.cell (p := ⟨w1.heap.size, 1, none⟩) (by simp)
    simp [go_sem] at c0 c1
    have hbw := bstep (bmore (Below.refl _ _) _) hb2
    clear hb2
    go_wp2_with fail
    refine (wLeft _ _ _ _ (by omega) (by omega) (by omega) (by omega) (by omega)).mono ?_
    rintro e w3 ⟨h, l, rfl, k0, k1, k2, k3, k4, hb3⟩
    have K4 : Hid (wid h l = (wMant a).toNat * 2 ^ (128 - L)) := by
      show _ = _
      rw [k4, WL.out, show (128 - (L : Int) : Int).toNat = (128 - L) by omega, Nat.mod_eq_of_lt (RF.out (128 - L) (by omega) (by omega)).1, Nat.mul_comm]
    have hbx := bstep hbw hb3
    clear k4 hbw hb3 c0 c1
    go_wp2_with fail
    refine (wSqrt _ _ _ k0 k1 k2 k3).mono ?_
    rintro e w4 ⟨r, rfl, r0, r1, r2, r3, hb4⟩
    have RR : Hid (_ ∧ _) := RE.out (128 - L) H r (wid h l) (by omega) (by have := HH.out; omega) r0 K4.out (by rw [K4.out]; exact (RF.out (128 - L) (by omega) (by omega)).2) r2 r3
    have hby := bstep hbx hb4
    obtain ⟨X, hX⟩ : ∃ X, wid h l = X := ⟨_, rfl⟩
    rw [hX] at RR
    rw [hX]
    obtain ⟨ex, hex⟩ : ∃ b, decide (r.toNat * r.toNat = X) = b := ⟨_, rfl⟩
    rw [hex] at RR
    rw [hex]
    clear r2 r3 hbx hb4 hX hex K4 RE RF
    go_wp2_with fail
    refine (pRound _ _ _ _ _ _ (by omega) (by omega) r0 r1).mono ?_
    rintro e w5 ⟨rfl, hb5⟩
    rw [RR.out.1, RR.out.2]
    have hbz := bstep hby hb5
    go_wp2
    go_ret2
    refine ⟨ret_eq (tup2 (int_eq ?_) rfl), hbz⟩
    unfold sgnB
    simp
  · obtain ⟨H, hH⟩ : ∃ H, wPow a - (128 - (L : Int) - 1) = 2 * H := ⟨(wPow a - (128 - (L : Int) - 1)) / 2, by omega⟩
    have t2 : (wPow a - (128 - (L : Int) - 1)).tdiv 2 = H := by rw [hH]; exact Int.mul_tdiv_cancel_left _ (by decide)
    obtain ⟨t, t1⟩ : ∃ t, (wPow a - (128 - (L : Int))).tmod 2 = t := ⟨_, rfl⟩
    have t3 : t ≠ 0 := by
      intro h
      rw [← t1] at h
      have := Int.dvd_of_tmod_eq_zero h
      omega
    have HH : Hid (_ = _) := hH
    have hHb : -700 ≤ H ∧ H ≤ 600 := by omega
    clear hH hpar
    go_enter Try.func88, Try.ntmps88
    go_wp2_with fail
    refine (parts_any _ _ h0 h1).mono ?_
    rintro e w1 ⟨rfl, rfl⟩
    go_wp2_with fail
    refine (wLen _ _ _ (by omega) (by omega) (by omega) (by omega)).mono ?_
    rintro e w2 ⟨rfl, hb2⟩
    rw [WL.out, HL.out]
    have c0 := hb2.cell (p := ⟨w1.heap.size, 0, none⟩) (by simp)
    have c1 := hb2.cell (p := ⟨w1.heap.size, 1, none⟩) (by simp)
    simp [go_sem] at c0 c1
    have hbw := bstep (bmore (Below.refl _ _) _) hb2
    clear hb2
    go_wp2_with fail
    refine (wLeft _ _ _ _ (by omega) (by omega) (by omega) (by omega) (by omega)).mono ?_
    rintro e w3 ⟨h, l, rfl, k0, k1, k2, k3, k4, hb3⟩
    have K4 : Hid (wid h l = (wMant a).toNat * 2 ^ (127 - L)) := by
      show _ = _
      rw [k4, WL.out, show (128 - (L : Int) - 1 : Int).toNat = (127 - L) by omega, Nat.mod_eq_of_lt (RF.out (127 - L) (by omega) (by omega)).1, Nat.mul_comm]
    have hbx := bstep hbw hb3
    clear k4 hbw hb3 c0 c1
    go_wp2_with fail
    refine (wSqrt _ _ _ k0 k1 k2 k3).mono ?_
    rintro e w4 ⟨r, rfl, r0, r1, r2, r3, hb4⟩
    have RR : Hid (_ ∧ _) := RE.out (127 - L) H r (wid h l) (by omega) (by have := HH.out; omega) r0 K4.out (by rw [K4.out]; exact (RF.out (127 - L) (by omega) (by omega)).2) r2 r3
    have hby := bstep hbx hb4
    obtain ⟨X, hX⟩ : ∃ X, wid h l = X := ⟨_, rfl⟩
    rw [hX] at RR
    rw [hX]
    obtain ⟨ex, hex⟩ : ∃ b, decide (r.toNat * r.toNat = X) = b := ⟨_, rfl⟩
    rw [hex] at RR
    rw [hex]
    clear r2 r3 hbx hb4 hX hex K4 RE RF
    go_wp2_with fail
    refine (pRound _ _ _ _ _ _ (by omega) (by omega) r0 r1).mono ?_
    rintro e w5 ⟨rfl, hb5⟩
    rw [RR.out.1, RR.out.2]
    have hbz := bstep hby hb5
    go_wp2
    go_ret2
    refine ⟨ret_eq (tup2 (int_eq ?_) rfl), hbz⟩
    unfold sgnB
    simp
theorem fin_inf2 (a : Int) (hf : ¬ mag a < 9218868437227405312) (hn : isNan a = false) : isInf a = true := by
  unfold isNan at hn
  unfold isInf
  rw [decide_eq_false_iff_not] at hn
  rw [decide_eq_true_eq]
  omega
theorem mSqrt (a : Int) (w : World) (h0 : 0 ≤ a) (h1 : a < 18446744073709551616) :
    Calls Try.prog 54 #[.int .u64 a] w fun e w' => e = .returned (.tuple #[.int .u64 (sqrtS a).1, .int .u8 (sqrtS a).2]) ∧ Below w.heap.size w w' := by
  obtain ⟨ka, hka⟩ : ∃ k, wKind a = k := ⟨_, rfl⟩
  have KA : Hid (_ = _) := hka
  have nk := isNan_kind a
  rw [hka] at nk
  have SG : Hid (decide (9223372036854775808 ≤ a) = sgn a) := rfl
  by_cases hn : ka = 5
  · have S : Hid (sqrtS a = addS a a) := by
      show _ = _
      have nn : isNan a = true := by rw [nk]; exact decide_eq_true hn
      have : 9218868437227405312 ≤ mag a := by unfold isNan at nn; rw [decide_eq_true_eq] at nn; omega
      rw [add_self a h0 h1 this]
      unfold sqrtS
      rw [if_pos nn, if_pos nn]
    subst hn
    clear hka nk
    go_enter Try.func54, Try.ntmps54
    go_wp2_with (first | (go_at_call 87; refine (kind_any _ _ h0 h1).mono ?_; rintro e w' ⟨rfl, rfl⟩; rw [KA.out]) | fail)
    refine (mNot _ _ h0 h1).mono ?_
    rintro e w2 ⟨rfl, hb2⟩
    go_wp2
    go_ret2
    refine ⟨?_, hb2⟩
    rw [S.out]
    rfl
  · have nn : isNan a = false := by rw [nk]; exact decide_eq_false hn
    have hk5 : (ka == 5) = false := by rw [beq_eq_false_iff_ne]; exact hn
    by_cases hz : mag a = 0
    · have S : Hid (sqrtS a = (a, 0)) := by
        show _ = _
        unfold sqrtS
        rw [nn, if_neg (by simp), (z_iff a).2 hz, if_pos rfl]
      have Z : Hid (isZ a = true) := (z_iff a).2 hz
      clear hka nk hz nn
      go_enter Try.func54, Try.ntmps54
      go_wp2_with (first | (go_at_call 87; refine (kind_any _ _ h0 h1).mono ?_; rintro e w' ⟨rfl, rfl⟩; rw [KA.out]) | (go_at_call 76; refine (mZero _ _ h0 h1).mono ?_; rintro e w' ⟨rfl, rfl⟩; rw [Z.out]))
      go_ret2
      refine ⟨?_, Below.refl _ _⟩
      rw [S.out]
      all_goals rfl
    · have Z : Hid (isZ a = false) := (z_not a).2 hz
      by_cases hi : a = 9218868437227405312
      · have S : Hid (sqrtS a = (a, 0)) := by
          show _ = _
          unfold sqrtS
          rw [nn, if_neg (by simp), (z_not a).2 hz, if_neg (by simp), if_pos hi]
        subst hi
        clear hka nk hz nn
        go_enter Try.func54, Try.ntmps54
        go_wp2_with (first | (go_at_call 87; refine (kind_any _ _ h0 h1).mono ?_; rintro e w' ⟨rfl, rfl⟩; rw [KA.out]) | (go_at_call 76; refine (mZero _ _ h0 h1).mono ?_; rintro e w' ⟨rfl, rfl⟩; rw [Z.out]))
        go_ret2
        refine ⟨?_, Below.refl _ _⟩
        rw [S.out]
        all_goals rfl
      · have hi2 : (a == 9218868437227405312) = false := by rw [beq_eq_false_iff_ne]; exact hi
        obtain ⟨sg, hsg⟩ : ∃ s, sgn a = s := ⟨_, rfl⟩
        rw [hsg] at SG
        cases sg
        · have hf : mag a < 9218868437227405312 := by
            unfold isNan at nn
            rw [decide_eq_false_iff_not] at nn
            unfold sgn at hsg
            rw [decide_eq_false_iff_not] at hsg
            unfold mag at *
            omega
          have S : Hid (sqrtS a = (((rootN (V (mag a)) : Nat) : Int), ((rootF (V (mag a)) : Nat) : Int))) := by
            show _ = _
            unfold sqrtS
            rw [nn, if_neg (by simp), (z_not a).2 hz, if_neg (by simp), if_neg hi, hsg, if_neg (by simp)]
          have HF : Hid (_ < _) := hf
          have HZ : Hid (¬ _) := hz
          clear hka nk nn hsg hi hf hz
          go_enter Try.func54, Try.ntmps54
          go_wp2_with (first | (go_at_call 87; refine (kind_any _ _ h0 h1).mono ?_; rintro e w' ⟨rfl, rfl⟩; rw [KA.out]) | (go_at_call 76; refine (mZero _ _ h0 h1).mono ?_; rintro e w' ⟨rfl, rfl⟩; rw [Z.out]) | (go_at_call 65; refine (neg_any _ _ h0 h1).mono ?_; rintro e w' ⟨rfl, rfl⟩; rw [SG.out]) | fail)
          refine (mRoot _ _ h0 h1 HF.out HZ.out).mono ?_
          rintro e w2 ⟨rfl, hb2⟩
          go_wp2
          go_ret2
          refine ⟨?_, hb2⟩
          rw [S.out]
          rfl
        · have S : Hid (sqrtS a = (9221120237041090560, 16)) := by
            show _ = _
            unfold sqrtS
            rw [nn, if_neg (by simp), (z_not a).2 hz, if_neg (by simp), if_neg hi, hsg, if_pos rfl]
          clear hka nk nn hsg hi hz
          go_enter Try.func54, Try.ntmps54
          go_wp2_with (first | (go_at_call 87; refine (kind_any _ _ h0 h1).mono ?_; rintro e w' ⟨rfl, rfl⟩; rw [KA.out]) | (go_at_call 76; refine (mZero _ _ h0 h1).mono ?_; rintro e w' ⟨rfl, rfl⟩; rw [Z.out]) | (go_at_call 65; refine (neg_any _ _ h0 h1).mono ?_; rintro e w' ⟨rfl, rfl⟩; rw [SG.out]))
          go_ret2
          refine ⟨?_, Below.refl _ _⟩
          rw [S.out]
          all_goals rfl
end Go.Proofs.Ytokgfeeaoioegaa

/-
  What each function of package order returns, at every pattern in [0, 2^64) (Greatest apart).
-/
namespace Go.Proofs.Ytokgfeeaoioegaa
open Go.RowKit
set_option linter.unusedVariables false

/-- -1, 0 or 1. -/
def cmpW (x y : Int) : Int := if x < y then -1 else if y < x then 1 else 0
def place (b : Int) : Int := if 9223372036854775808 ≤ b then 18446744073709551615 - b else b + 9223372036854775808
def totS (a b : Int) : Int := cmpW (place a) (place b)
def cmpS (a b : Int) : Int := if isNan a || isNan b then 0 else cmpW (keyS a) (keyS b)
def lessS (a b : Int) : Bool := !(isNan a || isNan b) && decide (keyS a < keyS b)
def sameS (a b : Int) : Bool := !(isNan a || isNan b) && decide (keyS a = keyS b)
def maxS (a b : Int) : Int × Int := if isNan a || isNan b then (9221120237041090560, nanF a b) else (if totS a b < 0 then b else a, 0)
def minS (a b : Int) : Int × Int := if isNan a || isNan b then (9221120237041090560, nanF a b) else (if totS a b < 0 then a else b, 0)

theorem key_bd (b : Int) : -9223372036854775807 ≤ keyS b ∧ keyS b ≤ 9223372036854775807 := by
  have := mag_lt b
  unfold keyS
  split <;> omega
theorem oNan (b : Int) (w : World) (h0 : 0 ≤ b) (h1 : b < 18446744073709551616) :
    Calls Try.prog 84 #[.int .u64 b] w fun e w' => e = .returned (.bool (isNan b)) ∧ w' = w := by
  go_enter Try.func84, Try.ntmps84
  go_wp2_with (go_at_call 87; refine (kind_any _ _ h0 h1).mono ?_; rintro e w' ⟨rfl, rfl⟩)
  go_ret
  refine ⟨ret_eq (bool_eq ?_), rfl⟩
  rw [isNan_kind, Bool.eq_iff_iff, beq_iff_eq, decide_eq_true_eq]
theorem oCmpU (a b : Int) (w : World) :
    Calls Try.prog 85 #[.int .u64 a, .int .u64 b] w fun e w' => e = .returned (.int .i64 (cmpW a b)) ∧ w' = w := by
  go_enter Try.func85, Try.ntmps85
  go_wp2
  all_goals go_ret
  all_goals refine ⟨ret_eq (int_eq ?_), rfl⟩
  all_goals (unfold cmpW; (try simp at *); (repeat' split) <;> omega)
theorem xor_max (b : Int) (h0 : 0 ≤ b) (h1 : b < 18446744073709551616) : bits .xor .u64 IntKind.u64.max b = 18446744073709551615 - b := by
  have e : BitVec.ofInt 64 IntKind.u64.max = BitVec.allOnes 64 := by decide +kernel
  have key : (BitVec.ofInt 64 IntKind.u64.max ^^^ BitVec.ofInt 64 b).toNat = 18446744073709551615 - b.toNat := by
    rw [e, BitVec.allOnes_xor, BitVec.toNat_not, BitVec.toNat_ofInt]
    omega
  show IntKind.u64.wrap ((BitVec.ofInt 64 IntKind.u64.max ^^^ BitVec.ofInt 64 b).toNat : Nat) = _
  rw [key, IntKind.wrap_u64]
  omega
theorem less_eq (a b : Int) : lessS a b = (!(isNan a || isNan b) && decide (cmpS a b < 0)) := by
  unfold lessS cmpS cmpW
  cases isNan a <;> cases isNan b <;> simp
  repeat' split
  all_goals omega
theorem same_eq (a b : Int) : sameS a b = (!(isNan a || isNan b) && decide (cmpS a b = 0)) := by
  unfold sameS cmpS cmpW
  cases isNan a <;> cases isNan b <;> simp
  repeat' split
  all_goals omega
end Go.Proofs.Ytokgfeeaoioegaa

/-
  A slice of uint64 that came in: what its cells hold; the greatest of some without their signs.
-/
namespace Go.Proofs.Ytokgfeeaoioegaa
open Go.RowKit
set_option linter.unusedVariables false

/-- The slice holds, at each place below len, the number Z i. -/
def URow (w : World) (a : Option Addr) (len cap : Nat) (Z : Nat → Int) : Prop :=
  len ≤ cap ∧ cap ≤ maxLen ∧ (∀ i, 0 ≤ Z i ∧ Z i < 18446744073709551616) ∧ (0 < len → ∃ b o, a = some ⟨b, o, none⟩ ∧ b < w.heap.size ∧ ∀ i, i < len → w.cell? ⟨b, o + i, none⟩ = some (.int .u64 (Z i)))
theorem URow.below {w w' : World} {a : Option Addr} {len cap : Nat} {Z : Nat → Int} (h : URow w a len cap Z) (hb : Below w.heap.size w w') : URow w' a len cap Z := by
  obtain ⟨h1, h2, h3, h4⟩ := h
  refine ⟨h1, h2, h3, fun hp => ?_⟩
  obtain ⟨b, o, e, hlt, hc⟩ := h4 hp
  have := hb.size
  exact ⟨b, o, e, by omega, fun i hi => (hb.cell (p := ⟨b, o + i, none⟩) hlt).trans (hc i hi)⟩
/-- The greatest of the first k without their signs is B, at place t (the first such one). -/
def GS (k : Nat) (Z : Nat → Int) (B t : Int) : Prop :=
  (∀ i, i < k → isNan (Z i) = false) ∧ ((k = 0 ∧ B = 0 ∧ t = -1) ∨ ∃ j : Nat, t = (j : Int) ∧ j < k ∧ B = Z j % 9223372036854775808 ∧ ∀ i, i < k → Z i % 9223372036854775808 ≤ B ∧ (i < j → Z i % 9223372036854775808 < B))
theorem GS.zero (Z : Nat → Int) : GS 0 Z 0 (-1) := ⟨fun i h => absurd h (Nat.not_lt_zero i), Or.inl ⟨rfl, rfl, rfl⟩⟩
theorem GS.bd {k : Nat} {Z : Nat → Int} {B t : Int} (h : GS k Z B t) : 0 ≤ B ∧ B < 9223372036854775808 ∧ -1 ≤ t ∧ t < k := by
  obtain ⟨_, ⟨h1, h2, h3⟩ | ⟨j, h1, h2, h3, h4⟩⟩ := h
  · omega
  · omega
theorem GS.take {k : Nat} {Z : Nat → Int} {B t : Int} (h : GS k Z B t) (hn : isNan (Z k) = false) (hg : t < 0 ∨ B < Z k % 9223372036854775808) : GS (k + 1) Z (Z k % 9223372036854775808) (k : Int) := by
  obtain ⟨h0, h⟩ := h
  refine ⟨fun i hi => ?_, Or.inr ⟨k, rfl, by omega, rfl, fun i hi => ?_⟩⟩
  · rcases Nat.lt_or_ge i k with g | g
    · exact h0 i g
    · rw [show i = k by omega]; exact hn
  · rcases Nat.lt_or_ge i k with g | g
    · rcases h with ⟨h1, h2, h3⟩ | ⟨j, h1, h2, h3, h4⟩
      · omega
      · have := (h4 i g).1
        constructor
        · omega
        · intro _; omega
    · rw [show i = k by omega]
      exact ⟨Int.le_refl _, fun h => absurd h (Nat.lt_irrefl _)⟩
theorem GS.stay {k : Nat} {Z : Nat → Int} {B t : Int} (h : GS k Z B t) (hn : isNan (Z k) = false) (hg : ¬ t < 0) (hg2 : ¬ B < Z k % 9223372036854775808) : GS (k + 1) Z B t := by
  obtain ⟨h0, h⟩ := h
  rcases h with ⟨h1, h2, h3⟩ | ⟨j, h1, h2, h3, h4⟩
  · omega
  · refine ⟨fun i hi => ?_, Or.inr ⟨j, h1, by omega, h3, fun i hi => ?_⟩⟩
    · rcases Nat.lt_or_ge i k with g | g
      · exact h0 i g
      · rw [show i = k by omega]; exact hn
    · rcases Nat.lt_or_ge i k with g | g
      · exact h4 i g
      · rw [show i = k by omega]
        exact ⟨by omega, fun h => by omega⟩
theorem cmpW_pos (x y : Int) : (y < x → 0 < cmpW x y) ∧ (¬ y < x → ¬ 0 < cmpW x y) := by
  unfold cmpW
  constructor
  · intro h; rw [if_neg (by omega)]; split <;> omega
  · intro h; repeat' split
    all_goals omega
/-- What Greatest answers: Quiet and the first Nan's place; or the greatest, and its place. -/
def Great (len : Nat) (Z : Nat → Int) (B t : Int) : Prop := (∃ k : Nat, k < len ∧ isNan (Z k) = true ∧ (∀ i, i < k → isNan (Z i) = false) ∧ B = 9221120237041090560 ∧ t = (k : Int)) ∨ GS len Z B t
set_option maxHeartbeats 2000000 in
theorem oGreat (a : Option Addr) (len cap : Nat) (Z : Nat → Int) (w : World) (h : URow w a len cap Z) (hl : len ≤ 60) :
    Calls Try.prog 52 #[.slice a len cap] w fun e w' => ∃ B t : Int, e = .returned (.tuple #[.int .u64 B, .int .i64 t]) ∧ Great len Z B t ∧ w' = w := by
  obtain ⟨h1, h2, hz, h4⟩ := h
  have HZ : Hid (∀ i, 0 ≤ Z i ∧ Z i < 18446744073709551616) := hz
  clear hz
  by_cases hp : 0 < len
  · obtain ⟨b, o, rfl, hb, hcell⟩ := h4 hp
    have HC : Hid (∀ i, i < len → w.cell? ⟨b, o + i, none⟩ = some (.int .u64 (Z i))) := hcell
    clear h4 hcell
    go_enter Try.func52, Try.ntmps52
    go_wp2
    go_loopw [4, 5, 11] (fun m t i wr => ∃ (k : Nat) (B T : Int), m = .int .u64 B ∧ t = .int .i64 T ∧ i = .int .i64 (k : Int) ∧ k ≤ len ∧ GS k Z B T ∧ wr = w) (fun _ _ i _ => len - (intOf i).toNat)
    case atStart => exact ⟨0, 0, -1, rfl, rfl, rfl, by omega, GS.zero Z, rfl⟩
    case round =>
      obtain ⟨k, B, T, rfl, rfl, rfl, hk, hgs, rfl⟩ := hrel
      obtain ⟨B0, B1, T0, T1⟩ := hgs.bd
      have HG : Hid (GS k Z B T) := hgs
      clear hgs
      by_cases hlt : (k : Int) < (len : Int)
      · have c1 := HC.out k (by omega)
        obtain ⟨z0, z1⟩ := HZ.out k
        obtain ⟨x, hx⟩ : ∃ x, Z k = x := ⟨_, rfl⟩
        have TK : Hid (isNan x = false → T < 0 ∨ B < x % 9223372036854775808 → GS (k + 1) Z (x % 9223372036854775808) (k : Int)) := by
          show _ → _ → _
          rw [← hx]
          exact fun q1 q2 => HG.out.take q1 q2
        have ST : Hid (isNan x = false → ¬ T < 0 → ¬ B < x % 9223372036854775808 → GS (k + 1) Z B T) := by
          show _ → _ → _ → _
          rw [← hx]
          exact fun q1 q2 q3 => HG.out.stay q1 q2 q3
        have NK : Hid (isNan x = true → Great len Z 9221120237041090560 (k : Int)) := by
          show _ → _
          rw [← hx]
          exact fun q => Or.inl ⟨k, by omega, q, HG.out.1, rfl, rfl⟩
        rw [hx] at c1 z0 z1
        clear hx
        obtain ⟨nn, hnn⟩ : ∃ n, isNan x = n := ⟨_, rfl⟩
        rw [hnn] at TK ST NK
        have NN : Hid (_ = _) := hnn
        clear hnn
        obtain ⟨y, hy⟩ : ∃ y, x % 9223372036854775808 = y := ⟨_, rfl⟩
        rw [hy] at TK ST
        have HY : Hid (_ = _) := hy
        have y0 : 0 ≤ y := by omega
        clear hy
        cases nn
        · have cp := cmpW_pos y B
          obtain ⟨C, hC⟩ : ∃ C, cmpW y B = C := ⟨_, rfl⟩
          rw [hC] at cp
          have HCC : Hid (_ = _) := hC
          clear hC
          by_cases ht : T < 0
          · have G2 : Hid (GS _ _ _ _) := TK.out (by first | rfl | trivial) (Or.inl ht)
            clear TK ST NK HG cp
            go_wp2_with (first | (go_at_call 84; refine (oNan _ _ z0 z1).mono ?_; rintro e w' ⟨rfl, rfl⟩; rw [NN.out]) | (go_at_call 48; refine (abs_any _ _ z0 z1).mono ?_; rintro e w' ⟨rfl, rfl⟩; rw [HY.out]))
            go_roundw
            case rel => exact ⟨k + 1, y, (k : Int), rfl, rfl, by go_num, by omega, G2.out, by first | rfl | trivial⟩
            case measure => simp [intOf]; omega
          · by_cases hlt2 : B < y
            · have G2 : Hid (GS _ _ _ _) := TK.out (by first | rfl | trivial) (Or.inr hlt2)
              have hc := cp.1 hlt2
              clear TK ST NK HG cp
              go_wp2_with (first | (go_at_call 84; refine (oNan _ _ z0 z1).mono ?_; rintro e w' ⟨rfl, rfl⟩; rw [NN.out]) | (go_at_call 48; refine (abs_any _ _ z0 z1).mono ?_; rintro e w' ⟨rfl, rfl⟩; rw [HY.out]) | (go_at_call 85; refine (oCmpU _ _ _).mono ?_; rintro e w' ⟨rfl, rfl⟩; rw [HCC.out]))
              go_roundw
              case rel => exact ⟨k + 1, y, (k : Int), rfl, rfl, by go_num, by omega, G2.out, by first | rfl | trivial⟩
              case measure => simp [intOf]; omega
            · have G2 : Hid (GS _ _ _ _) := ST.out (by first | rfl | trivial) (by omega) (by omega)
              have hc := cp.2 hlt2
              clear TK ST NK HG cp
              go_wp2_with (first | (go_at_call 84; refine (oNan _ _ z0 z1).mono ?_; rintro e w' ⟨rfl, rfl⟩; rw [NN.out]) | (go_at_call 48; refine (abs_any _ _ z0 z1).mono ?_; rintro e w' ⟨rfl, rfl⟩; rw [HY.out]) | (go_at_call 85; refine (oCmpU _ _ _).mono ?_; rintro e w' ⟨rfl, rfl⟩; rw [HCC.out]))
              go_roundw
              case rel => exact ⟨k + 1, B, T, rfl, rfl, by go_num, by omega, G2.out, by first | rfl | trivial⟩
              case measure => simp [intOf]; omega
        · have R : Hid (Great len Z 9221120237041090560 (k : Int)) := NK.out (by first | rfl | trivial)
          clear TK ST NK HG
          go_wp2_with (first | (go_at_call 84; refine (oNan _ _ z0 z1).mono ?_; rintro e w' ⟨rfl, rfl⟩; rw [NN.out]))
          go_ret2
          exact ⟨_, _, rfl, R.out, rfl⟩
      · have e : k = len := by omega
        subst e
        go_wp2
        go_ret2
        exact ⟨_, _, rfl, Or.inr HG.out, rfl⟩
  · have e : len = 0 := by omega
    subst e
    clear h4
    go_enter Try.func52, Try.ntmps52
    go_wp2
    refine wp_loop_rounds 1 ?_
    rw [rounds_succ]
    go_wp2
    go_ret2
    exact ⟨_, _, rfl, Or.inr (GS.zero Z), rfl⟩
end Go.Proofs.Ytokgfeeaoioegaa
