/-
  What wide's Right, Div and Sqrt return: divided by 2^n and whether a 1 fell out; the quotient and what is left; the root and whether it is exact.
-/
import Derived.Test.YtokgfeeaoioegaaWideC
import Derived.Deep.RegionHeld3
import Derived.WalkSpells
namespace Go.Proofs.Ytokgfeeaoioegaa
open Go.RowKit
set_option linter.unusedVariables false

set_option maxHeartbeats 1000000 in
theorem wRight (ah al n : Int) (w : World) (a0 : 0 ≤ ah) (a1 : ah < 18446744073709551616) (a2 : 0 ≤ al) (a3 : al < 18446744073709551616) (n1 : n ≤ 9223372036854775807) :
    Calls Try.prog 127 #[.agg #[.int .u64 ah, .int .u64 al], .int .i64 n] w fun e w' => ∃ h l, e = .returned (.tuple #[.agg #[.int .u64 h, .int .u64 l], .bool (lostB (wid ah al) n.toNat)]) ∧ 0 ≤ h ∧ h < 18446744073709551616 ∧ 0 ≤ l ∧ l < 18446744073709551616 ∧ wid h l = wid ah al / 2 ^ n.toNat ∧ Below w.heap.size w w' := by
  go_enter Try.func127, Try.ntmps127
  go_wp2_with fail
  refine (wDown _ _ _ _ a0 a1 a2 a3 n1).mono ?_
  rintro e w1 ⟨h, l, rfl, g0, g1, g2, g3, g4, hb1⟩
  have f0 := hb1.cell (p := ⟨w.heap.size, 0, none⟩) (by simp; omega)
  have f1 := hb1.cell (p := ⟨w.heap.size, 1, none⟩) (by simp; omega)
  have f2 := hb1.cell (p := ⟨w.heap.size + 1, 0, none⟩) (by simp)
  have f3 := hb1.cell (p := ⟨w.heap.size + 1, 1, none⟩) (by simp)
  have f4 := hb1.frozen (p := ⟨w.heap.size + 1, 0, none⟩) (by simp)
  have f5 := hb1.frozen (p := ⟨w.heap.size + 1, 1, none⟩) (by simp)
  have hz : w.heap.size + 1 < w1.heap.size := by have := hb1.size; simp at this; omega
  simp [go_sem] at f0 f1 f2 f3 f4 f5
  have hz0 : w.heap.size < w1.heap.size := by omega
  have hn0 : ¬ w.heap.size = w1.heap.size := by omega
  have hn1 : ¬ w.heap.size + 1 = w1.heap.size := by omega
  have hn2 : ¬ w1.heap.size = w.heap.size := by omega
  have hn3 : ¬ w1.heap.size = w.heap.size + 1 := by omega
  have hbw : Below w.heap.size w w1 := (((Below.refl _ _).alloc (Nat.le_refl _) _).alloc (by simp) _).trans (hb1.mono (by simp; omega))
  have G : Hid (_ = _) := g4
  clear g4 hb1
  have LW : Hid (∀ h2 l2 : Int, 0 ≤ h2 → h2 < 18446744073709551616 → 0 ≤ l2 → l2 < 18446744073709551616 → wid h2 l2 = 2 ^ n.toNat * wid h l % 2 ^ 128 → (decide (h2 = ah ∧ l2 = al) = !(lostB (wid ah al) n.toNat))) := by
    intro h2 l2 b0 b1 b2 b3 e
    rw [G.out] at e
    have hl := lost_wid (wid ah al) n.toNat (wid_lt ah al a0 a1 a2 a3)
    rw [← e] at hl
    unfold lostB
    rw [Bool.eq_iff_iff, decide_eq_true_eq]
    simp only [Bool.not_eq_true', decide_eq_false_iff_not, ← hl, Decidable.not_not]
    constructor
    · rintro ⟨rfl, rfl⟩; rfl
    · intro e; exact wid_inj h2 l2 ah al b0 b1 b2 b3 a0 a1 a2 a3 e
  obtain ⟨H2, L2, b0, b1, b2, b3, e4⟩ : ∃ H2 L2 : Int, 0 ≤ H2 ∧ H2 < 18446744073709551616 ∧ 0 ≤ L2 ∧ L2 < 18446744073709551616 ∧ wid H2 L2 = 2 ^ n.toNat * wid h l % 2 ^ 128 := by
    refine ⟨((2 ^ n.toNat * wid h l % 2 ^ 128 / 18446744073709551616 : Nat) : Int), ((2 ^ n.toNat * wid h l % 2 ^ 128 % 18446744073709551616 : Nat) : Int), ?_⟩
    have : 2 ^ n.toNat * wid h l % 2 ^ 128 < 2 ^ 128 := Nat.mod_lt _ (by decide)
    generalize 2 ^ n.toNat * wid h l % 2 ^ 128 = X at *
    unfold wid
    refine ⟨by omega, by omega, by omega, by omega, by omega⟩
  have lw := LW.out H2 L2 b0 b1 b2 b3 e4
  have E4 : Hid (_ = _) := e4
  clear e4 LW
  by_cases p1 : H2 = ah
  · by_cases p2 : L2 = al
    · subst p1 p2
      have hlo : Hid (lostB (wid H2 L2) n.toNat = false) := by show _ = _; simpa using lw
      clear lw
      go_wp2_with fail
      go_region_held3 (fun w' => w'.cell? ⟨w.heap.size, 0, none⟩ = some (.int .u64 H2) ∧ w'.cell? ⟨w.heap.size, 1, none⟩ = some (.int .u64 L2) ∧ w'.cell? ⟨w1.heap.size, 0, none⟩ = some (.int .u64 h) ∧ w'.cell? ⟨w1.heap.size, 1, none⟩ = some (.int .u64 l)) (simp [go_sem, *])
        (first | (go_at_call 91; refine (wLeft _ _ _ _ g0 g1 g2 g3 n1).mono ?_; rintro e w2 ⟨h2, l2, rfl, k0, k1, k2, k3, k4, hb2⟩; have hbx : Below w1.heap.size w1 w2 := ((((Below.refl _ _).alloc (Nat.le_refl _) _).drew).trans (hb2.mono (by simp))); have q0 := cell_later hbx f0; have q1 := cell_later hbx f1; have q2 := cell_later hbx f2; have q3 := cell_later hbx f3; have q4 := (hbx.frozen (p := ⟨w.heap.size + 1, 0, none⟩) (by simp; omega)).trans f4; have q5 := (hbx.frozen (p := ⟨w.heap.size + 1, 1, none⟩) (by simp; omega)).trans f5; have q6 := hb2.cell (p := ⟨w1.heap.size, 0, none⟩) (by simp); have q7 := hb2.cell (p := ⟨w1.heap.size, 1, none⟩) (by simp); simp [go_sem] at q6 q7; have hz2 := hbx.size; obtain ⟨rfl, rfl⟩ := wid_inj h2 l2 H2 L2 k0 k1 k2 k3 b0 b1 b2 b3 (k4.trans E4.out.symm); clear k4 hb2))
      go_wp2
      refine bodyPost_ret (v := .tuple #[.agg #[.int .u64 h, .int .u64 l], .bool false]) (by simp [results, Try.results127, go_sem, *]) rfl ⟨_, _, ret_eq (tup2 rfl (bool_eq hlo.out.symm)), g0, g1, g2, g3, G.out, ((hbw.trans (hbx.mono (by omega))).setCell (by simp) _).setCell (by simp) _⟩
    · subst p1
      have hlo : Hid (lostB (wid H2 al) n.toNat = true) := by show _ = _; simpa [p2] using lw
      clear lw
      go_wp2_with fail
      go_region_held3 (fun w' => w'.cell? ⟨w.heap.size, 0, none⟩ = some (.int .u64 H2) ∧ w'.cell? ⟨w.heap.size, 1, none⟩ = some (.int .u64 al) ∧ w'.cell? ⟨w1.heap.size, 0, none⟩ = some (.int .u64 h) ∧ w'.cell? ⟨w1.heap.size, 1, none⟩ = some (.int .u64 l)) (simp [go_sem, *])
        (first | (go_at_call 91; refine (wLeft _ _ _ _ g0 g1 g2 g3 n1).mono ?_; rintro e w2 ⟨h2, l2, rfl, k0, k1, k2, k3, k4, hb2⟩; have hbx : Below w1.heap.size w1 w2 := ((((Below.refl _ _).alloc (Nat.le_refl _) _).drew).trans (hb2.mono (by simp))); have q0 := cell_later hbx f0; have q1 := cell_later hbx f1; have q2 := cell_later hbx f2; have q3 := cell_later hbx f3; have q4 := (hbx.frozen (p := ⟨w.heap.size + 1, 0, none⟩) (by simp; omega)).trans f4; have q5 := (hbx.frozen (p := ⟨w.heap.size + 1, 1, none⟩) (by simp; omega)).trans f5; have q6 := hb2.cell (p := ⟨w1.heap.size, 0, none⟩) (by simp); have q7 := hb2.cell (p := ⟨w1.heap.size, 1, none⟩) (by simp); simp [go_sem] at q6 q7; have hz2 := hbx.size; obtain ⟨rfl, rfl⟩ := wid_inj h2 l2 H2 L2 k0 k1 k2 k3 b0 b1 b2 b3 (k4.trans E4.out.symm); clear k4 hb2))
      go_wp2
      refine bodyPost_ret (v := .tuple #[.agg #[.int .u64 h, .int .u64 l], .bool true]) (by simp [results, Try.results127, go_sem, *]) rfl ⟨_, _, ret_eq (tup2 rfl (bool_eq hlo.out.symm)), g0, g1, g2, g3, G.out, ((hbw.trans (hbx.mono (by omega))).setCell (by simp) _).setCell (by simp) _⟩
  · have hlo : Hid (lostB (wid ah al) n.toNat = true) := by show _ = _; simpa [p1] using lw
    clear lw
    go_wp2_with fail
    go_region_held3 (fun w' => w'.cell? ⟨w.heap.size, 0, none⟩ = some (.int .u64 ah) ∧ w'.cell? ⟨w.heap.size, 1, none⟩ = some (.int .u64 al) ∧ w'.cell? ⟨w1.heap.size, 0, none⟩ = some (.int .u64 h) ∧ w'.cell? ⟨w1.heap.size, 1, none⟩ = some (.int .u64 l)) (simp [go_sem, *])
      (first | (go_at_call 91; refine (wLeft _ _ _ _ g0 g1 g2 g3 n1).mono ?_; rintro e w2 ⟨h2, l2, rfl, k0, k1, k2, k3, k4, hb2⟩; have hbx : Below w1.heap.size w1 w2 := ((((Below.refl _ _).alloc (Nat.le_refl _) _).drew).trans (hb2.mono (by simp))); have q0 := cell_later hbx f0; have q1 := cell_later hbx f1; have q2 := cell_later hbx f2; have q3 := cell_later hbx f3; have q4 := (hbx.frozen (p := ⟨w.heap.size + 1, 0, none⟩) (by simp; omega)).trans f4; have q5 := (hbx.frozen (p := ⟨w.heap.size + 1, 1, none⟩) (by simp; omega)).trans f5; have q6 := hb2.cell (p := ⟨w1.heap.size, 0, none⟩) (by simp); have q7 := hb2.cell (p := ⟨w1.heap.size, 1, none⟩) (by simp); simp [go_sem] at q6 q7; have hz2 := hbx.size; obtain ⟨rfl, rfl⟩ := wid_inj h2 l2 H2 L2 k0 k1 k2 k3 b0 b1 b2 b3 (k4.trans E4.out.symm); clear k4 hb2))
    go_wp2
    refine bodyPost_ret (v := .tuple #[.agg #[.int .u64 h, .int .u64 l], .bool true]) (by simp [results, Try.results127, go_sem, *]) rfl ⟨_, _, ret_eq (tup2 rfl (bool_eq hlo.out.symm)), g0, g1, g2, g3, G.out, ((hbw.trans (hbx.mono (by omega))).setCell (by simp) _).setCell (by simp) _⟩
end Go.Proofs.Ytokgfeeaoioegaa
