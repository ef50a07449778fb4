/-
  What the sum of two terms of package more returns: the sum of their numbers, rounded once.
-/
import Derived.Test.YteohkpiecidicaaMoreT
import Derived.RegionTactic
import Derived.Deep.RegionWith
import Derived.Deep.RegionHeld3
import Derived.ChangeAlike
import Derived.Deep.DeepCutAuto
namespace Go.Proofs.Yteohkpiecidicaa
open Go.RowKit
set_option linter.unusedVariables false

theorem term_pack (ng ns : Bool) (G S : Nat) (eg es : Int) (T : Int × Int) (hT : rnd3 (tv ng G eg + tv ns S es) = T) (h0 : -2300 ≤ es) (h : es ≤ eg) (hle : S ≤ G * 2 ^ (eg - es).toNat) (hG : 42535295865117307932921825928971026432 ≤ G) (hS : S < 85070591730234615865843651857942052864) (hz : S % 1048576 = 0) (lo : Bool) (hlo : lostB S (eg - es).toNat = lo) (q : Nat) (hq : S / 2 ^ (eg - es).toNat = q) :
    q + lo.toNat ≤ 85070591730234615865843651857942052864 ∧ (ng = ns → T = (sgnB ng + ((numR (G + q) eg lo : Nat) : Int), ((flagR (G + q) eg lo : Nat) : Int))) ∧
    (ng ≠ ns → q + lo.toNat ≤ G ∧ T = (sgnB (ng && !decide (G - (q + lo.toNat) = 0)) + ((numR (G - (q + lo.toNat)) eg lo : Nat) : Int), ((flagR (G - (q + lo.toNat)) eg lo : Nat) : Int))) := by
  subst hT hq
  unfold lostB at hlo
  subst hlo
  refine ⟨?_, ?_, ?_⟩
  · have h1 := Nat.div_le_self S (2 ^ (eg - es).toNat)
    have h2 : (decide (S % 2 ^ (eg - es).toNat ≠ 0)).toNat ≤ 1 := Bool.toNat_le _
    omega
  · intro hn
    subst hn
    exact term_add ng G S eg es h0 h hG
  · intro hn
    exact term_sub ng ns G S eg es hn h0 h hle hG hS hz
theorem less_order (G S : Nat) (e f : Int) (hG : 42535295865117307932921825928971026432 ≤ G) (hS : S < 85070591730234615865843651857942052864) (hS0 : 42535295865117307932921825928971026432 ≤ S) (hG2 : G < 85070591730234615865843651857942052864) (b : Bool) (hb : (if e = f then decide (cmpI G S < 0) else decide (e < f)) = b) :
    (b = false → f ≤ e ∧ S ≤ G * 2 ^ (e - f).toNat) ∧ (b = true → e ≤ f ∧ G ≤ S * 2 ^ (f - e).toNat) := by
  have step : ∀ (x y : Nat) (d : Int), 42535295865117307932921825928971026432 ≤ x → y < 85070591730234615865843651857942052864 → 0 < d → y ≤ x * 2 ^ d.toNat := by
    intro x y d hx hy hd
    have h1 : 2 ^ 1 ≤ 2 ^ d.toNat := Nat.pow_le_pow_right (by decide) (by omega)
    have h2 := Nat.mul_le_mul_left x h1
    omega
  have hc : cmpI G S < 0 ↔ G < S := by
    unfold cmpI
    repeat' split
    all_goals omega
  by_cases hef : e = f
  · subst hef
    rw [if_pos rfl] at hb
    rw [Int.sub_self, show (0 : Int).toNat = 0 from rfl, Nat.pow_zero, Nat.mul_one, Nat.mul_one]
    refine ⟨fun g => ?_, fun g => ?_⟩
    · rw [g, decide_eq_false_iff_not, hc] at hb
      exact ⟨Int.le_refl _, by omega⟩
    · rw [g, decide_eq_true_eq, hc] at hb
      exact ⟨Int.le_refl _, by omega⟩
  · rw [if_neg hef] at hb
    refine ⟨fun g => ?_, fun g => ?_⟩
    · rw [g, decide_eq_false_iff_not] at hb
      exact ⟨by omega, step G S _ hG hS (by omega)⟩
    · rw [g, decide_eq_true_eq] at hb
      exact ⟨by omega, step S G _ hS0 hG2 (by omega)⟩
set_option maxRecDepth 100000 in
set_option maxHeartbeats 4000000 in
theorem mSum (n m : Bool) (ah al e bh cl f : Int) (G S : Nat) (w : World) (hA : isT ah al G e) (hB : isT bh cl S f) :
    Calls Try.prog 63 #[.agg #[.bool n, .int .u64 ah, .int .u64 al, .int .i64 e], .agg #[.bool m, .int .u64 bh, .int .u64 cl, .int .i64 f]] w fun r w' => r = .returned (.tuple #[.int .u64 (rnd3 (tv n G e + tv m S f)).1, .int .u8 (rnd3 (tv n G e + tv m S f)).2]) ∧ Below w.heap.size w w' := by
  obtain ⟨T, hT⟩ : ∃ T, rnd3 (tv n G e + tv m S f) = T := ⟨_, rfl⟩
  rw [hT]
  have HTT : Hid (_ = _) := hT
  have HA : Hid (isT _ _ _ _) := hA
  have HB : Hid (isT _ _ _ _) := hB
  obtain ⟨a0, a1, a2, a3, a4, a5, a6, a7, a8, a9⟩ := hA
  obtain ⟨b0, b1, b2, b3, b4, b5, b6, b7, b8, b9⟩ := hB
  obtain ⟨ls, hls⟩ : ∃ b, (if e = f then decide (cmpI (wid ah al) (wid bh cl) < 0) else decide (e < f)) = b := ⟨_, rfl⟩
  have HLS : Hid (_ = _) := hls
  rw [a4, b4] at hls
  have LO : Hid (_ ∧ _) := less_order G S e f a5 b6 b5 a6 ls hls
  clear hT a4 a5 a6 a7 b4 b5 b6 b7 hls
  go_enter Try.func63, Try.ntmps63
  go_wp2_with fail
  refine (mLess _ _ _ _ _ _ _ _ _ a0 a1 a2 a3 b0 b1 b2 b3).mono ?_
  rintro r w1 ⟨rfl, hb1⟩
  rw [HLS.out]
  have c0 := hb1.cell (p := ⟨w.heap.size, 0, none⟩) (by simp; omega)
  have c1 := hb1.cell (p := ⟨w.heap.size, 1, none⟩) (by simp; omega)
  have c2 := hb1.cell (p := ⟨w.heap.size, 2, none⟩) (by simp; omega)
  have c3 := hb1.cell (p := ⟨w.heap.size, 3, none⟩) (by simp; omega)
  have d0 := hb1.cell (p := ⟨w.heap.size + 1, 0, none⟩) (by simp)
  have d1 := hb1.cell (p := ⟨w.heap.size + 1, 1, none⟩) (by simp)
  have d2 := hb1.cell (p := ⟨w.heap.size + 1, 2, none⟩) (by simp)
  have d3 := hb1.cell (p := ⟨w.heap.size + 1, 3, none⟩) (by simp)
  have f0 := hb1.frozen (p := ⟨w.heap.size, 0, none⟩) (by simp; omega)
  have f1 := hb1.frozen (p := ⟨w.heap.size, 1, none⟩) (by simp; omega)
  have f2 := hb1.frozen (p := ⟨w.heap.size, 2, none⟩) (by simp; omega)
  have f3 := hb1.frozen (p := ⟨w.heap.size, 3, none⟩) (by simp; omega)
  have g0 := hb1.frozen (p := ⟨w.heap.size + 1, 0, none⟩) (by simp)
  have g1 := hb1.frozen (p := ⟨w.heap.size + 1, 1, none⟩) (by simp)
  have g2 := hb1.frozen (p := ⟨w.heap.size + 1, 2, none⟩) (by simp)
  have g3 := hb1.frozen (p := ⟨w.heap.size + 1, 3, none⟩) (by simp)
  simp [go_sem] at c0 c1 c2 c3 d0 d1 d2 d3 f0 f1 f2 f3 g0 g1 g2 g3
  have hz : w.heap.size + 1 < w1.heap.size := by have := hb1.size; simp at this; omega
  have hbw : Below w.heap.size w w1 := (((Below.refl _ _).alloc (Nat.le_refl _) _).alloc (by simp) _).trans (hb1.mono (by simp; omega))
  clear hb1 HLS
  go_upto_if 14 with fail
  go_cut [4] (fun t wx => t = .int .u64 0 ∧ ∃ (ng ns : Bool) (hg lg eg hs ls es : Int) (G S : Nat), isT hg lg G eg ∧ isT hs ls S es ∧ es ≤ eg ∧ S ≤ G * 2 ^ (eg - es).toNat ∧ Hid (rnd3 (tv ng G eg + tv ns S es) = T) ∧
    wx.cell? ⟨w.heap.size, 0, none⟩ = some (.bool ng) ∧ wx.cell? ⟨w.heap.size, 1, none⟩ = some (.int .u64 hg) ∧ wx.cell? ⟨w.heap.size, 2, none⟩ = some (.int .u64 lg) ∧ wx.cell? ⟨w.heap.size, 3, none⟩ = some (.int .i64 eg) ∧
    wx.cell? ⟨w.heap.size + 1, 0, none⟩ = some (.bool ns) ∧ wx.cell? ⟨w.heap.size + 1, 1, none⟩ = some (.int .u64 hs) ∧ wx.cell? ⟨w.heap.size + 1, 2, none⟩ = some (.int .u64 ls) ∧ wx.cell? ⟨w.heap.size + 1, 3, none⟩ = some (.int .i64 es) ∧ w.heap.size + 1 < wx.heap.size ∧ Below w.heap.size w wx)
  case first =>
    cases ls
    · go_wp2
      go_meet
      exact ⟨rfl, n, m, ah, al, e, bh, cl, f, G, S, HA.out, HB.out, (LO.out.1 (by first | rfl | trivial)).1, (LO.out.1 (by first | rfl | trivial)).2, HTT, c0, c1, c2, c3, d0, d1, d2, d3, hz, hbw⟩
    · go_wp2
      go_meet
      refine ⟨rfl, m, n, bh, cl, f, ah, al, e, S, G, HB.out, HA.out, (LO.out.2 (by first | rfl | trivial)).1, (LO.out.2 (by first | rfl | trivial)).2, ?_, ?_, ?_, ?_, ?_, ?_, ?_, ?_, ?_, ?_, ?_⟩
      · show _ = _
        rw [Int.add_comm]
        exact HTT.out
      · simp [go_sem, *]
      · simp [go_sem, *]
      · simp [go_sem, *]
      · simp [go_sem, *]
      · simp [go_sem, *]
      · simp [go_sem, *]
      · simp [go_sem, *]
      · simp [go_sem, *]
      · simp; exact hz
      · exact (((((((hbw.setCell (by simp) _).setCell (by simp) _).setCell (by simp) _).setCell (by simp) _).setCell (by simp) _).setCell (by simp) _).setCell (by simp) _).setCell (by simp) _
  case rest =>
    clear HA HB HTT LO a0 a1 a2 a3 a8 a9 b0 b1 b2 b3 b8 b9 c0 c1 c2 c3 d0 d1 d2 d3 f0 f1 f2 f3 g0 g1 g2 g3 hz hbw
    obtain ⟨rfl, ng, ns, hg, lg, eg, hs, lz, es, G, S, HA, HB, hee, hle, HT, c0, c1, c2, c3, d0, d1, d2, d3, hz, hbw⟩ := hcut
    obtain ⟨a0, a1, a2, a3, a4, a5, a6, a7, a8, a9⟩ := HA
    obtain ⟨b0, b1, b2, b3, b4, b5, b6, b7, b8, b9⟩ := HB
    obtain ⟨lo, hlo⟩ : ∃ b, lostB S (eg - es).toNat = b := ⟨_, rfl⟩
    obtain ⟨q, hq⟩ : ∃ q, S / 2 ^ (eg - es).toNat = q := ⟨_, rfl⟩
    have F2 : Hid (_ ∧ _ ∧ _) := term_pack ng ns G S eg es T HT.out (by omega) hee hle a5 b6 b7 lo hlo q hq
    have HG : Hid (G < 85070591730234615865843651857942052864) := a6
    have A4 : Hid (_ = _) := a4
    have B4 : Hid (_ = _) := b4
    have HLO : Hid (_ = _) := hlo
    have HQ : Hid (_ = _) := hq
    have CE : Hid (clampE eg = eg) := clampE_in eg (by omega) (by omega)
    clear hle HT a4 a5 a6 a7 b4 b5 b6 b7 hlo hq
    go_wp2_with fail
    refine (wRight _ _ _ _ b0 b1 b2 b3 (by omega)).mono ?_
    rintro r w2 ⟨u, l, rfl, k0, k1, k2, k3, k4, hb2⟩
    rw [B4.out, HQ.out] at k4
    rw [B4.out, HLO.out]
    have K4 : Hid (_ = _) := k4
    have x0 := cell_later hb2 c0
    have x1 := cell_later hb2 c1
    have x2 := cell_later hb2 c2
    have x3 := cell_later hb2 c3
    have y0 := cell_later hb2 d0
    have hz2 : w.heap.size + 1 < w2.heap.size := by have := hb2.size; omega
    have hz2a : w.heap.size < w2.heap.size := by omega
    have hbx := bstep hbw hb2
    clear hb2 hbw k4 c0 c1 c2 c3 d0 d1 d2 d3 hz HQ HLO B4
    by_cases hss : ng = ns
    · subst hss
      have R : Hid (_ = _) := F2.out.2.1 (by first | rfl | trivial)
      go_wp2_with fail
      refine (wAdd _ _ _ _ _ a0 a1 a2 a3 k0 k1 k2 k3).mono ?_
      rintro r w4 ⟨u4, l4, rfl, m0, m1, m2, m3, m4, hb4⟩
      have D4 : Hid (wid u4 l4 = G + q) := by
        show _ = _
        rw [m4, A4.out, K4.out]
        refine Nat.mod_eq_of_lt ?_
        have t1 := F2.out.1
        have t2 := HG.out
        rw [show (2 : Nat) ^ 128 = 340282366920938463463374607431768211456 by decide]
        omega
      have z0 := cell_later hb4 (show (w2.alloc (.cells #[.int .u64 u, .int .u64 l] 69)).cell? ⟨w.heap.size, 0, none⟩ = some (.bool ng) by simp [go_sem, *])
      have z3 := cell_later hb4 (show (w2.alloc (.cells #[.int .u64 u, .int .u64 l] 69)).cell? ⟨w.heap.size, 3, none⟩ = some (.int .i64 eg) by simp [go_sem, *])
      have hz4 : w.heap.size + 1 < w4.heap.size := by have := hb4.size; simp at this; omega
      have hz4a : w.heap.size < w4.heap.size := by omega
      have hby : Below w.heap.size w w4 := (bmore hbx _).trans (hb4.mono (by simp; omega))
      clear hb4 m4 x0 x1 x2 x3 y0 F2
      go_wp2_with fail
      refine (pRound _ _ _ _ _ _ m0 m1 m2 m3).mono ?_
      rintro r w5 ⟨rfl, hb5⟩
      rw [D4.out, CE.out]
      have hbz : Below w.heap.size w w5 := (bmore hby _).trans (hb5.mono (by simp; omega))
      go_wp2
      go_ret2
      refine ⟨?_, hbz⟩
      rw [R.out]
      rfl
    · obtain ⟨R0, R1⟩ := F2.out.2.2 hss
      have E0 : Hid (_ ≤ _) := R0
      have E1 : Hid (_ = _) := R1
      have E2 : Hid (_ ≤ _) := F2.out.1
      clear R0 R1 F2
      have hbn : (ng == ns) = false := by simpa using hss
      go_upto_if 49 with fail
      go_cut [7] (fun t wx => t = .bool lo ∧ ∃ u' l' : Int, 0 ≤ u' ∧ u' < 18446744073709551616 ∧ 0 ≤ l' ∧ l' < 18446744073709551616 ∧ Hid (wid u' l' = q + lo.toNat) ∧ wx.cell? ⟨w.heap.size, 0, none⟩ = some (.bool ng) ∧ wx.cell? ⟨w.heap.size, 1, none⟩ = some (.int .u64 hg) ∧ wx.cell? ⟨w.heap.size, 2, none⟩ = some (.int .u64 lg) ∧ wx.cell? ⟨w.heap.size, 3, none⟩ = some (.int .i64 eg) ∧ wx.cell? ⟨w2.heap.size, 0, none⟩ = some (.int .u64 u') ∧ wx.cell? ⟨w2.heap.size, 1, none⟩ = some (.int .u64 l') ∧ w2.heap.size < wx.heap.size ∧ Below w.heap.size w wx)
      case first =>
        cases lo
        · go_wp2
          go_meet
          refine ⟨rfl, u, l, k0, k1, k2, k3, K4, ?_, ?_, ?_, ?_, ?_, ?_, ?_, bmore hbx _⟩
          · simp [go_sem, *]
          · simp [go_sem, *]
          · simp [go_sem, *]
          · simp [go_sem, *]
          · simp [go_sem, *]
          · simp [go_sem, *]
          · simp
        · go_wp2_with fail
          refine (wAdd _ _ _ _ _ k0 k1 k2 k3 (by omega) (by omega) (by omega) (by omega)).mono ?_
          rintro r w4 ⟨u4, l4, rfl, m0, m1, m2, m3, m4, hb4⟩
          have hb24 : Below w2.heap.size w2 w4 := (bmore (Below.refl _ _) _).trans (hb4.mono (by simp))
          have z0 := cell_later hb24 x0
          have z1 := cell_later hb24 x1
          have z2 := cell_later hb24 x2
          have z3 := cell_later hb24 x3
          have v2 := hb4.cell (p := ⟨w2.heap.size, 0, none⟩) (by simp)
          have v3 := hb4.cell (p := ⟨w2.heap.size, 1, none⟩) (by simp)
          have v4 := hb4.frozen (p := ⟨w2.heap.size, 0, none⟩) (by simp)
          have v5 := hb4.frozen (p := ⟨w2.heap.size, 1, none⟩) (by simp)
          simp [go_sem] at v2 v3 v4 v5
          have hz4 : w2.heap.size < w4.heap.size := by have := hb4.size; simp at this; omega
          have hby : Below w.heap.size w w4 := bstep hbx hb24
          have D4 : Hid (wid u4 l4 = q + (true : Bool).toNat) := by
            show _ = _
            rw [m4, K4.out, show wid 0 1 = 1 from rfl, show (true : Bool).toNat = 1 from rfl]
            refine Nat.mod_eq_of_lt ?_
            have t1 := E2.out
            rw [show (true : Bool).toNat = 1 from rfl] at t1
            rw [show (2 : Nat) ^ 128 = 340282366920938463463374607431768211456 by decide]
            omega
          clear hb4 m4 hb24
          go_wp2
          go_meet
          refine ⟨rfl, u4, l4, m0, m1, m2, m3, D4, ?_, ?_, ?_, ?_, ?_, ?_, by simp; omega, (hby.setCell (by simp; omega) _).setCell (by simp; omega) _⟩
          · simp [go_sem, *]
          · simp [go_sem, *]
          · simp [go_sem, *]
          · simp [go_sem, *]
          · simp [go_sem, *]
          · simp [go_sem, *]
      case rest =>
        clear x0 x1 x2 x3 y0 K4 k0 k1 k2 k3
        obtain ⟨rfl, u', l', k0, k1, k2, k3, K4, x0, x1, x2, x3, y2, y3, hzx, hbv⟩ := hcut
        go_wp2_with fail
        refine (wSub _ _ _ _ _ a0 a1 a2 a3 k0 k1 k2 k3).mono ?_
        rintro r w5 ⟨u5, l5, rfl, m0, m1, m2, m3, m4, hb5⟩
        have hby := bstep hbv hb5
        have D4 : Hid (wid u5 l5 = G - (q + lo.toNat)) := by
          show _ = _
          rw [m4, A4.out, K4.out]
          have t1 := HG.out
          have t2 := E0.out
          rw [show (2 : Nat) ^ 128 = 340282366920938463463374607431768211456 by decide]
          rw [show 340282366920938463463374607431768211456 + G - (q + lo.toNat) = (G - (q + lo.toNat)) + 340282366920938463463374607431768211456 by omega, Nat.add_mod_right]
          exact Nat.mod_eq_of_lt (by omega)
        have z0 := cell_later hb5 x0
        have z3 := cell_later hb5 x3
        have hz5 : w.heap.size + 1 < w5.heap.size := by have := hb5.size; omega
        have hz5a : w.heap.size < w5.heap.size := by omega
        clear hb5 m4 x0 x1 x2 x3 y2 y3
        cases ng
        · go_wp2_with fail
          have s0 : (w5.alloc (.cells #[.int .u64 u5, .int .u64 l5] 69)).drew.cell? ⟨w5.heap.size, 0, none⟩ = some (.int .u64 u5) := by simp [go_sem, *]
          have s1 : (w5.alloc (.cells #[.int .u64 u5, .int .u64 l5] 69)).drew.cell? ⟨w5.heap.size, 1, none⟩ = some (.int .u64 l5) := by simp [go_sem, *]
          have s2 : (w5.alloc (.cells #[.int .u64 u5, .int .u64 l5] 69)).drew.cell? ⟨w.heap.size, 0, none⟩ = some (.bool false) := by simp [go_sem, *]
          have s3 : (w5.alloc (.cells #[.int .u64 u5, .int .u64 l5] 69)).drew.cell? ⟨w.heap.size, 3, none⟩ = some (.int .i64 eg) := by simp [go_sem, *]
          refine wp_region_noPanic ?_
          refine wp_region_held_drew (S := (fun w' => w'.cell? ⟨w5.heap.size, 0, none⟩ = some (.int .u64 u5) ∧ w'.cell? ⟨w5.heap.size, 1, none⟩ = some (.int .u64 l5) ∧ w'.cell? ⟨w.heap.size, 0, none⟩ = some (.bool false) ∧ w'.cell? ⟨w.heap.size, 3, none⟩ = some (.int .i64 eg))) (by kernel_rfl) ⟨s0, s1, s2, s3⟩ (fun hHeld => ?_)
          refine wpAnyH_take (i := 0) (oi := ({ dst := some 63, op := Op.fieldAddr _ (Operand.tmp 2) 0, type := _, pos := _, after := _, guard := none } : Oper)) (v := ?_) rfl (by kernel_rfl) (by kernel_rfl) (by kernel_rfl) (fun _ _ _ h => h) (Or.inl ⟨by rfl, ?_⟩) (by assumption) ?_
          rotate_left
          · intro w' hSw; (try dsimp only at hSw); go_simp <;> (try with_reducible rfl)
          (try simp only [Act.put, List.setIfInBounds_toArray, List.set_cons_zero, List.set_cons_succ])
          refine wpAnyH_take (i := 1) (oi := ({ dst := some 64, op := Op.load _ (Operand.tmp 63), type := _, pos := _, after := _, guard := none } : Oper)) (v := ?_) rfl (by kernel_rfl) (by kernel_rfl) (by kernel_rfl) (fun _ _ _ h => h) (Or.inl ⟨by rfl, ?_⟩) (by assumption) ?_
          rotate_left
          · intro w' hSw; (try dsimp only at hSw); go_simp <;> (try with_reducible rfl)
          (try simp only [Act.put, List.setIfInBounds_toArray, List.set_cons_zero, List.set_cons_succ])
          refine wpAnyH_take (i := 2) (oi := ({ dst := some 65, op := Op.move (Operand.tmp 64), type := _, pos := _, after := _, guard := none } : Oper)) (v := ?_) rfl (by kernel_rfl) (by kernel_rfl) (by kernel_rfl) (fun _ _ _ h => h) (Or.inl ⟨by rfl, ?_⟩) (by assumption) ?_
          rotate_left
          · intro w' hSw; (try dsimp only at hSw); go_simp <;> (try with_reducible rfl)
          (try simp only [Act.put, List.setIfInBounds_toArray, List.set_cons_zero, List.set_cons_succ])
          refine wpAnyH_take (i := 3) (oi := ({ dst := some 66, op := Op.load _ (Operand.tmp 10), type := _, pos := _, after := _, guard := some (2, true) } : Oper)) (v := undef) rfl (by kernel_rfl) (by kernel_rfl) (by kernel_rfl) (fun _ _ _ h => h) (Or.inr ⟨by kernel_rfl, rfl⟩) (by assumption) ?_
          (try simp only [Act.put, List.setIfInBounds_toArray, List.set_cons_zero, List.set_cons_succ])
          refine wpAnyH_take (i := 4) (oi := ({ dst := some 67, op := Op.call { callee := Callee.value (Operand.func _), args := #[Operand.tmp 66], argTypes := _ }, type := _, pos := _, after := _, guard := some (2, true) } : Oper)) (v := undef) rfl (by kernel_rfl) (by kernel_rfl) (by kernel_rfl) (fun _ _ _ h => h) (Or.inr ⟨by kernel_rfl, rfl⟩) (by assumption) ?_
          (try simp only [Act.put, List.setIfInBounds_toArray, List.set_cons_zero, List.set_cons_succ])
          refine wpAnyH_take (i := 5) (oi := ({ dst := some 68, op := Op.unOp UnOp.not _ (Operand.tmp 67), type := _, pos := _, after := _, guard := some (2, true) } : Oper)) (v := undef) rfl (by kernel_rfl) (by kernel_rfl) (by kernel_rfl) (fun _ _ _ h => h) (Or.inr ⟨by kernel_rfl, rfl⟩) (by assumption) ?_
          (try simp only [Act.put, List.setIfInBounds_toArray, List.set_cons_zero, List.set_cons_succ])
          refine wpAnyH_take (i := 6) (oi := ({ dst := some 69, op := Op.pick (Operand.tmp 65) (Operand.tmp 68) (Operand.const (Value.bool false)), type := _, pos := _, after := _, guard := none } : Oper)) (v := ?_) rfl (by kernel_rfl) (by kernel_rfl) (by kernel_rfl) (fun _ _ _ h => h) (Or.inl ⟨by rfl, ?_⟩) (by assumption) ?_
          rotate_left
          · intro w' hSw; (try dsimp only at hSw); go_simp <;> (try with_reducible rfl)
          (try simp only [Act.put, List.setIfInBounds_toArray, List.set_cons_zero, List.set_cons_succ])
          refine wpAnyH_take (i := 7) (oi := ({ dst := some 70, op := Op.load _ (Operand.tmp 10), type := _, pos := _, after := _, guard := none } : Oper)) (v := ?_) rfl (by kernel_rfl) (by kernel_rfl) (by kernel_rfl) (fun _ _ _ h => h) (Or.inl ⟨by rfl, ?_⟩) (by assumption) ?_
          rotate_left
          · intro w' hSw; (try dsimp only at hSw); go_simp <;> (try with_reducible rfl)
          (try simp only [Act.put, List.setIfInBounds_toArray, List.set_cons_zero, List.set_cons_succ])
          refine wpAnyH_take (i := 8) (oi := ({ dst := some 71, op := Op.fieldAddr _ (Operand.tmp 2) 2, type := _, pos := _, after := _, guard := none } : Oper)) (v := ?_) rfl (by kernel_rfl) (by kernel_rfl) (by kernel_rfl) (fun _ _ _ h => h) (Or.inl ⟨by rfl, ?_⟩) (by assumption) ?_
          rotate_left
          · intro w' hSw; (try dsimp only at hSw); go_simp <;> (try with_reducible rfl)
          (try simp only [Act.put, List.setIfInBounds_toArray, List.set_cons_zero, List.set_cons_succ])
          refine wpAnyH_take (i := 9) (oi := ({ dst := some 72, op := Op.load _ (Operand.tmp 71), type := _, pos := _, after := _, guard := none } : Oper)) (v := ?_) rfl (by kernel_rfl) (by kernel_rfl) (by kernel_rfl) (fun _ _ _ h => h) (Or.inl ⟨by rfl, ?_⟩) (by assumption) ?_
          rotate_left
          · intro w' hSw; (try dsimp only at hSw); go_simp <;> (try with_reducible rfl)
          (try simp only [Act.put, List.setIfInBounds_toArray, List.set_cons_zero, List.set_cons_succ])
          refine wpAnyH_take (i := 10) (oi := ({ dst := some 73, op := Op.move (Operand.tmp 7), type := _, pos := _, after := _, guard := none } : Oper)) (v := ?_) rfl (by kernel_rfl) (by kernel_rfl) (by kernel_rfl) (fun _ _ _ h => h) (Or.inl ⟨by rfl, ?_⟩) (by assumption) ?_
          rotate_left
          · intro w' hSw; (try dsimp only at hSw); go_simp <;> (try with_reducible rfl)
          (try simp only [Act.put, List.setIfInBounds_toArray, List.set_cons_zero, List.set_cons_succ])
          refine wpAnyH_ready (rs := [11]) (by kernel_rfl) (by simp) ?_
          refine AllReadyH.cons (o := ({ dst := some 74, op := Op.call { callee := Callee.value (Operand.func _), args := #[Operand.tmp 69, Operand.tmp 70, Operand.tmp 72, Operand.tmp 73], argTypes := _ }, type := _, pos := _, after := _, guard := none } : Oper)) rfl (fun K hK => ?_) AllReadyH.nil
          go_simp
          refine (pRound _ _ _ _ _ _ m0 m1 m2 m3).mono ?_
          rintro e w7 ⟨rfl, hb7⟩
          have x0 := cell_later hb7 s0
          have x1 := cell_later hb7 s1
          have x2 := cell_later hb7 s2
          have x3 := cell_later hb7 s3
          (try go_wp2_with fail)
          refine hK.out _ _ ?_ (fun hHeld => ?_)
          · (try dsimp only); exact ⟨x0, x1, x2, x3⟩
          clear hK K
          (try simp only [Act.put, List.setIfInBounds_toArray, List.set_cons_zero, List.set_cons_succ])
          refine wpAnyH_take (i := 12) (oi := ({ dst := some 75, op := Op.extract (Operand.tmp 74) 0, type := _, pos := _, after := _, guard := none } : Oper)) (v := ?_) rfl (by kernel_rfl) (by kernel_rfl) (by kernel_rfl) (fun _ _ _ h => h) (Or.inl ⟨by rfl, ?_⟩) (by assumption) ?_
          rotate_left
          · intro w' hSw; (try dsimp only at hSw); go_simp <;> (try with_reducible rfl)
          (try simp only [Act.put, List.setIfInBounds_toArray, List.set_cons_zero, List.set_cons_succ])
          refine wpAnyH_take (i := 13) (oi := ({ dst := some 76, op := Op.extract (Operand.tmp 74) 1, type := _, pos := _, after := _, guard := none } : Oper)) (v := ?_) rfl (by kernel_rfl) (by kernel_rfl) (by kernel_rfl) (fun _ _ _ h => h) (Or.inl ⟨by rfl, ?_⟩) (by assumption) ?_
          rotate_left
          · intro w' hSw; (try dsimp only at hSw); go_simp <;> (try with_reducible rfl)
          (try simp only [Act.put, List.setIfInBounds_toArray, List.set_cons_zero, List.set_cons_succ])
          refine wpAnyH_take (i := 14) (oi := ({ dst := some 4, op := Op.assign (Operand.tmp 75), type := _, pos := _, after := _, guard := none } : Oper)) (v := ?_) rfl (by kernel_rfl) (by kernel_rfl) (by kernel_rfl) (fun _ _ _ h => h) (Or.inl ⟨by rfl, ?_⟩) (by assumption) ?_
          rotate_left
          · intro w' hSw; (try dsimp only at hSw); go_simp <;> (try with_reducible rfl)
          (try simp only [Act.put, List.setIfInBounds_toArray, List.set_cons_zero, List.set_cons_succ])
          refine wpAnyH_take (i := 15) (oi := ({ dst := some 5, op := Op.assign (Operand.tmp 76), type := _, pos := _, after := _, guard := none } : Oper)) (v := ?_) rfl (by kernel_rfl) (by kernel_rfl) (by kernel_rfl) (fun _ _ _ h => h) (Or.inl ⟨by rfl, ?_⟩) (by assumption) ?_
          rotate_left
          · intro w' hSw; (try dsimp only at hSw); go_simp <;> (try with_reducible rfl)
          (try simp only [Act.put, List.setIfInBounds_toArray, List.set_cons_zero, List.set_cons_succ])
          refine wpAnyH_done (by kernel_rfl) ?_ _
          refine NoPanic.normal ?_
          have hb57 : Below w.heap.size w w7 := ((bmore hby _).drew).trans (hb7.mono (by have := hby.size; simp; omega))
          go_wp2
          go_ret2
          refine ⟨?_, hb57⟩
          rw [E1.out, D4.out, CE.out]
          rfl
        · go_wp2_with fail
          go_region_held3 (fun w' => w'.cell? ⟨w5.heap.size, 0, none⟩ = some (.int .u64 u5) ∧ w'.cell? ⟨w5.heap.size, 1, none⟩ = some (.int .u64 l5) ∧ w'.cell? ⟨w.heap.size, 0, none⟩ = some (.bool true) ∧ w'.cell? ⟨w.heap.size, 3, none⟩ = some (.int .i64 eg)) (simp [go_sem, *])
            (first | (go_at_call 94; refine (wZero _ _ _ m0 m1 m2 m3).mono ?_; rintro e w6 ⟨rfl, hb6⟩; have v0 := hb6.cell (p := ⟨w5.heap.size, 0, none⟩) (by simp); have v1 := hb6.cell (p := ⟨w5.heap.size, 1, none⟩) (by simp); have v2 := hb6.cell (p := ⟨w.heap.size, 0, none⟩) (by simp; omega); have v3 := hb6.cell (p := ⟨w.heap.size, 3, none⟩) (by simp; omega); simp [go_sem, *] at v0 v1 v2 v3; have hb56 : Below w.heap.size w w6 := ((bmore hby _).drew).trans (hb6.mono (by have := hby.size; simp; omega)) ) | (go_at_call 71; refine (pRound _ _ _ _ _ _ m0 m1 m2 m3).mono ?_; rintro e w7 ⟨rfl, hb7⟩; have x0 := cell_later hb7 v0; have x1 := cell_later hb7 v1; have x2 := cell_later hb7 v2; have x3 := cell_later hb7 v3))
          go_wp2
          go_ret2
          refine ⟨?_, bstep hb56 hb7⟩
          rw [E1.out, D4.out, CE.out, Bool.true_and]
          rfl
end Go.Proofs.Yteohkpiecidicaa
