/-
  What lead of package dyad returns: the highest bits of a number, their power, and whether there is more. Conditions: lists are short, places small.
-/
import Derived.Test.YtgpgmnmifhkmbaaLeadM
import Derived.Test.YtgpgmnmifhkmbaaCmpC
import Derived.Test.YtgpgmnmifhkmbaaMulC
import Derived.Test.YtgpgmnmifhkmbaaWideD
namespace Go.Proofs.Ytgpgmnmifhkmbaa
open Go.RowKit
set_option linter.unusedVariables false
set_option linter.unusedSimpArgs false

theorem andnot_1 (d : Nat) (h : d < 64) : bits .andNot .i64 (d : Int) 1 = ((d / 2 * 2 : Nat) : Int) := by
  have key : ∀ d : Fin 64, bits .andNot .i64 ((d.val : Nat) : Int) 1 = ((d.val / 2 * 2 : Nat) : Int) := by decide +kernel
  exact key ⟨d, h⟩
theorem shr_run (X s : Nat) (hs : s ≤ 63) : Op.shift .shr .u64 (X : Int) .i64 (64 - (s : Int)) = (pure (.int .u64 ((X / 2 ^ (64 - s) : Nat) : Int)) : Sem Value) := by
  rw [shift_shr_any _ _ _ _ (by omega)]
  have : min (64 - (s : Int)).toNat IntKind.u64.bits = 64 - s := by
    show min (64 - (s : Int)).toNat 64 = 64 - s
    omega
  rw [this]
  congr 2
theorem shl_run (X s : Nat) (hs : s ≤ 63) : Op.shift .shl .u64 (X : Int) .i64 (s : Int) = (pure (.int .u64 ((X * 2 ^ s % 18446744073709551616 : Nat) : Int)) : Sem Value) := by
  rw [shift_shl_any _ _ _ _ (by omega)]
  have : min (s : Int).toNat IntKind.u64.bits = s := by
    show min (s : Int).toNat 64 = s
    omega
  rw [this, show (X : Int) * 2 ^ s = ((X * 2 ^ s : Nat) : Int) by push_cast; rfl, wrap_nat]
theorem low_zero (h l W s : Nat) (hs : s ≤ 63) (e : h * 18446744073709551616 + l = W * 2 ^ s) : l % 2 ^ s = 0 := by
  have hp := pow_split s (by omega)
  have a : (h * 18446744073709551616 + l) % 2 ^ s = 0 := by rw [e]; exact Nat.mul_mod_left _ _
  rw [← hp, show h * (2 ^ s * 2 ^ (64 - s)) = 2 ^ s * (h * 2 ^ (64 - s)) by grind, Nat.mul_add_mod] at a
  exact a
theorem or_fit (l Y s : Nat) (hs : s ≤ 63) (hl : l < 18446744073709551616) (h0 : l % 2 ^ s = 0) (hY : Y < 2 ^ s) : l + Y < 18446744073709551616 := by
  have hp := pow_split s (by omega)
  have hd := Nat.div_add_mod l (2 ^ s)
  rw [h0, Nat.add_zero] at hd
  rw [← hp] at hl ⊢
  rw [← hd] at hl ⊢
  have := Nat.lt_of_mul_lt_mul_left hl
  have c := Nat.mul_le_mul_left (2 ^ s) (show l / 2 ^ s + 1 ≤ 2 ^ (64 - s) by omega)
  rw [Nat.mul_add, Nat.mul_one] at c
  omega
theorem third_lt (X s : Nat) (hs : s ≤ 63) (hX : X < 18446744073709551616) : X / 2 ^ (64 - s) < 2 ^ s := by
  rw [Nat.div_lt_iff_lt_mul (Nat.two_pow_pos _), pow_split s (by omega)]
  exact hX
set_option maxHeartbeats 4000000 in
theorem dLead (na : Bool) (sa : Value) (ws : List Int) (p : Int) (w : World) (B : Nat) (ha : SeesW w B sa ws) (hN : Norm ws) (hne : ws ≠ []) (lx : ws.length ≤ 10000) (p0 : -10000 ≤ p) (p1 : p ≤ 10000) :
    Calls Try.prog 49 #[.agg #[.bool na, sa, .int .i64 p, .slice none 0 0]] w fun e w' => ∃ (h l : Int) (s : Nat) (more : Bool), e = .returned (.tuple #[.agg #[.int .u64 h, .int .u64 l], .int .i64 (64 * (p + ws.length - 2) - s), .bool more]) ∧ 0 ≤ h ∧ h < 18446744073709551616 ∧ 0 ≤ l ∧ l < 18446744073709551616 ∧ s ≤ 63 ∧ 2 ^ 126 ≤ wid h l ∧ wid h l = (dv ws).toNat * 2 ^ (128 + s) / 2 ^ (64 * ws.length) ∧ more = decide ((dv ws).toNat * 2 ^ (128 + s) % 2 ^ (64 * ws.length) ≠ 0) ∧ Below w.heap.size w w' := by
  have S1 : Hid (SeesW w B sa ws) := ha
  obtain ⟨A1, c1, rfl⟩ := ha.len
  have t1 := topW_in ws hN.1 1
  have t2 := topW_in ws hN.1 2
  have t3 := topW_in ws hN.1 3
  have tf := top_first ws hN hne
  have LA := lead_all ws hN hne
  have TW1 : Hid ((if (ws.length : Int) - 1 < 0 then 0 else ws[((ws.length : Int) - 1).toNat]?.getD 0) = topW ws 1) := rfl
  have TW2 : Hid ((if (ws.length : Int) - 2 < 0 then 0 else ws[((ws.length : Int) - 2).toNat]?.getD 0) = topW ws 2) := rfl
  have TW3 : Hid ((if (ws.length : Int) - 3 < 0 then 0 else ws[((ws.length : Int) - 3).toNat]?.getD 0) = topW ws 3) := rfl
  generalize topW ws 1 = x1 at *
  generalize topW ws 2 = x2 at *
  generalize topW ws 3 = x3 at *
  obtain ⟨X3, rfl⟩ := Int.eq_ofNat_of_zero_le t3.1
  obtain ⟨L, hL⟩ : ∃ L, (bl (wid x1 x2)).length = L := ⟨_, rfl⟩
  have L1 : 65 ≤ L := by
    rw [← hL]
    refine (bl_length_lt _ 64).2 ?_
    unfold wid
    omega
  have L2 : L ≤ 128 := by
    rw [← hL]
    exact (bl_length_le _ 128).2 (wid_lt x1 x2 t1.1 t1.2 t2.1 t2.2)
  obtain ⟨s, hs⟩ : ∃ s, s = evenS L := ⟨_, rfl⟩
  have LB := lead_big (wid x1 x2) L s hL L1 L2 hs
  have HL : Hid (_ = _) := hL
  have an := andnot_1 (128 - L) (by omega)
  rw [show (((128 - L : Nat) : Int)) = 128 - (L : Int) by omega, show (128 - L) / 2 * 2 = s by rw [hs]; rfl] at an
  have LB1 : Hid (_ < _) := LB.1
  have LB2 : Hid (_ ≤ _) := LB.2.1
  have s63 := LB.2.2
  have LA' : Hid (∀ s : Nat, s ≤ 63 → _) := LA
  obtain ⟨a0, a1⟩ := t1
  obtain ⟨b0, b1⟩ := t2
  have c1' := t3.2
  obtain ⟨n, hn⟩ : ∃ n, n = ws.length := ⟨_, rfl⟩
  have N1 : Hid (_ = _) := hn
  have LX : Hid (_ ≤ _) := lx
  rw [← hn] at S1 lx TW1 TW2 TW3 ⊢
  have hn0 : 0 < n := by rw [hn]; exact List.length_pos_iff.2 hne
  clear hL LB LA hn ha hN t3 hs
  go_enter Try.func49, Try.ntmps49
  go_wp2_with fail
  have wr1 : IntKind.i64.wrap ((n : Int) - 1) = (n : Int) - 1 := by rw [IntKind.wrap_i64]; omega
  have wr2 : IntKind.i64.wrap ((n : Int) - 2) = (n : Int) - 2 := by rw [IntKind.wrap_i64]; omega
  go_region_held3 (fun w' => w'.cell? ⟨w.heap.size, 1, none⟩ = some (.slice A1 n c1)) (simp [go_sem, *]) (first | (go_at_call 74; refine (dWordAt _ ws _ B _ (S1.out.below (by repeat (first | (refine Below.drew ?_) | (refine Below.alloc ?_ (by first | omega | (simp <;> omega)) _) | (refine Below.setCell ?_ (by first | omega | (simp <;> omega)) _) | exact Below.refl _ _))) (by have := LX.out; omega) (by omega) (by omega)).mono ?_; rintro e w' ⟨rfl, rfl⟩; rw [TW1.out]) | (go_at_call 74; refine (dWordAt _ ws _ B _ (S1.out.below (by repeat (first | (refine Below.drew ?_) | (refine Below.alloc ?_ (by first | omega | (simp <;> omega)) _) | (refine Below.setCell ?_ (by first | omega | (simp <;> omega)) _) | exact Below.refl _ _))) (by have := LX.out; omega) (by omega) (by omega)).mono ?_; rintro e w' ⟨rfl, rfl⟩; rw [TW2.out]))
  go_wp2_with (first | (go_at_call 74; refine (dWordAt _ ws _ B _ (S1.out.below (by repeat (first | (refine Below.drew ?_) | (refine Below.alloc ?_ (by first | omega | (simp <;> omega)) _) | (refine Below.setCell ?_ (by first | omega | (simp <;> omega)) _) | exact Below.refl _ _))) (by have := LX.out; omega) (by omega) (by omega)).mono ?_; rintro e w' ⟨rfl, rfl⟩; rw [TW3.out]))
  refine (wLen _ _ _ a0 a1 b0 b1).mono ?_
  rintro e w1 ⟨rfl, hb1⟩
  rw [HL.out]
  have hx1 : Below w.heap.size w w1 := Below.trans (by repeat (first | (refine Below.drew ?_) | (refine Below.alloc ?_ (by first | omega | (simp <;> omega)) _) | (refine Below.setCell ?_ (by first | omega | (simp <;> omega)) _) | exact Below.refl _ _)) (hb1.mono (by first | omega | (simp <;> omega)))
  have e0 : w1.cell? ⟨w.heap.size + 1, 0, none⟩ = some (.int .u64 x1) := (hb1.cell (p := ⟨w.heap.size + 1, 0, none⟩) (by simp [drew_heap])).trans (by simp [go_sem])
  have e1 : w1.cell? ⟨w.heap.size + 1, 1, none⟩ = some (.int .u64 x2) := (hb1.cell (p := ⟨w.heap.size + 1, 1, none⟩) (by simp [drew_heap])).trans (by simp [go_sem])
  have f0 : w1.frozen? ⟨w.heap.size + 1, 0, none⟩ = false := (hb1.frozen (p := ⟨w.heap.size + 1, 0, none⟩) (by simp [drew_heap])).trans (by simp [go_sem])
  have f1 : w1.frozen? ⟨w.heap.size + 1, 1, none⟩ = false := (hb1.frozen (p := ⟨w.heap.size + 1, 1, none⟩) (by simp [drew_heap])).trans (by simp [go_sem])
  have g0 : w1.cell? ⟨w.heap.size, 0, none⟩ = some (.bool na) := (hb1.cell (p := ⟨w.heap.size, 0, none⟩) (by simp [drew_heap]; omega)).trans (by simp [go_sem])
  have g1 : w1.cell? ⟨w.heap.size, 1, none⟩ = some (.slice A1 n c1) := (hb1.cell (p := ⟨w.heap.size, 1, none⟩) (by simp [drew_heap]; omega)).trans (by simp [go_sem])
  have g2 : w1.cell? ⟨w.heap.size, 2, none⟩ = some (.int .i64 p) := (hb1.cell (p := ⟨w.heap.size, 2, none⟩) (by simp [drew_heap]; omega)).trans (by simp [go_sem])
  have g3 : w1.cell? ⟨w.heap.size, 3, none⟩ = some (.slice none 0 0) := (hb1.cell (p := ⟨w.heap.size, 3, none⟩) (by simp [drew_heap]; omega)).trans (by simp [go_sem])
  have hz1 : w.heap.size + 1 < w1.heap.size := by have := hb1.size; simp [drew_heap] at this; omega
  clear hb1
  go_wp2_with fail
  refine (wLeft _ _ _ _ a0 a1 b0 b1 (by omega)).mono ?_
  rintro e w2 ⟨h1, l1, rfl, k0, k1, k2, k3, k4, hb2⟩
  rw [Int.toNat_natCast, Nat.mul_comm, Nat.mod_eq_of_lt LB1.out] at k4
  have K4 : Hid (wid h1 l1 = wid x1 x2 * 2 ^ s) := k4
  obtain ⟨l, rfl⟩ := Int.eq_ofNat_of_zero_le k2
  obtain ⟨h, rfl⟩ := Int.eq_ofNat_of_zero_le k0
  have lz := low_zero h l (wid x1 x2) s s63 (by rw [← k4, wid_nat])
  have y3 := third_lt X3 s s63 (by omega)
  have fit := or_fit l (X3 / 2 ^ (64 - s)) s s63 (by omega) lz y3
  have orr := or_nat l (X3 / 2 ^ (64 - s)) s (by omega) (by omega) lz y3
  rw [show (((X3 / 2 ^ (64 - s) : Nat) : Int)) = (X3 : Int) / 2 ^ (64 - s) by rw [Int.natCast_ediv, Int.natCast_pow]; rfl] at orr
  have srun := shr_run X3 s s63
  have lrun := shl_run X3 s s63
  have LO := shl_low X3 s s63
  have LA1 := LA'.out s s63
  rw [Int.toNat_natCast] at LA1
  have QQ : Hid (∀ Y, Y = X3 / 2 ^ (64 - s) → wid (h : Int) ((l + Y : Nat) : Int) = wid x1 x2 * 2 ^ s + X3 / 2 ^ (64 - s)) := by
    rintro Y rfl
    rw [← k4, wid_nat, wid_nat]
    omega
  have wrs : IntKind.i64.wrap (64 - (s : Int)) = 64 - (s : Int) := by rw [IntKind.wrap_i64]; omega
  obtain ⟨Y, hY⟩ : ∃ Y, Y = X3 / 2 ^ (64 - s) := ⟨_, rfl⟩
  obtain ⟨Z, hZ⟩ : ∃ Z, Z = X3 * 2 ^ s % 18446744073709551616 := ⟨_, rfl⟩
  rw [← hY] at fit srun
  rw [show l + X3 / 2 ^ (64 - s) = l + Y by rw [hY]] at orr
  rw [← hZ] at lrun LO
  have HY : Hid (_ = _) := hY
  have HZ : Hid (_ = _) := hZ
  have HLO : Hid (_ ↔ _) := LO
  have HLA : Hid (_ ∧ _) := LA1
  clear hY hZ LO LA1 lz y3
  have hx2 : Below w.heap.size w w2 := hx1.trans (hb2.mono (by omega))
  obtain ⟨hc2, hf2⟩ := bcell hb2
  have hz2 : w.heap.size + 1 < w2.heap.size := by have := hb2.size; omega
  have hy1 : w.heap.size < w1.heap.size := by omega
  have hy2 : w.heap.size < w2.heap.size := by omega
  have e0' : w2.cell? ⟨w.heap.size + 1, 0, none⟩ = some (.int .u64 x1) := (hb2.cell (p := ⟨w.heap.size + 1, 0, none⟩) (by simp; omega)).trans e0
  have e1' : w2.cell? ⟨w.heap.size + 1, 1, none⟩ = some (.int .u64 x2) := (hb2.cell (p := ⟨w.heap.size + 1, 1, none⟩) (by simp; omega)).trans e1
  have f0' : w2.frozen? ⟨w.heap.size + 1, 0, none⟩ = false := (hb2.frozen (p := ⟨w.heap.size + 1, 0, none⟩) (by simp; omega)).trans f0
  have f1' : w2.frozen? ⟨w.heap.size + 1, 1, none⟩ = false := (hb2.frozen (p := ⟨w.heap.size + 1, 1, none⟩) (by simp; omega)).trans f1
  have g0' : w2.cell? ⟨w.heap.size, 0, none⟩ = some (.bool na) := (hb2.cell (p := ⟨w.heap.size, 0, none⟩) (by simp; omega)).trans g0
  have g1' : w2.cell? ⟨w.heap.size, 1, none⟩ = some (.slice A1 n c1) := (hb2.cell (p := ⟨w.heap.size, 1, none⟩) (by simp; omega)).trans g1
  have g2' : w2.cell? ⟨w.heap.size, 2, none⟩ = some (.int .i64 p) := (hb2.cell (p := ⟨w.heap.size, 2, none⟩) (by simp; omega)).trans g2
  have g3' : w2.cell? ⟨w.heap.size, 3, none⟩ = some (.slice none 0 0) := (hb2.cell (p := ⟨w.heap.size, 3, none⟩) (by simp; omega)).trans g3
  clear hc2 hf2 hb2 k4 e0 e1 f0 f1 g0 g1 g2 g3
  go_wp2_with fail
  have s0 : ((w2.setCell ⟨w.heap.size + 1, 0, none⟩ (.int .u64 (h : Int))).setCell ⟨w.heap.size + 1, 1, none⟩ (.int .u64 (l : Int))).cell? ⟨w.heap.size + 1, 0, none⟩ = some (.int .u64 (h : Int)) := by simp [cell_some, cell_if, e0', e1']
  have s1 : ((w2.setCell ⟨w.heap.size + 1, 0, none⟩ (.int .u64 (h : Int))).setCell ⟨w.heap.size + 1, 1, none⟩ (.int .u64 (l : Int))).cell? ⟨w.heap.size + 1, 1, none⟩ = some (.int .u64 (l : Int)) := by simp [cell_some, cell_if, e0', e1']
  have s2 : ((w2.setCell ⟨w.heap.size + 1, 0, none⟩ (.int .u64 (h : Int))).setCell ⟨w.heap.size + 1, 1, none⟩ (.int .u64 (l : Int))).frozen? ⟨w.heap.size + 1, 1, none⟩ = false := by simp [go_sem, f1']
  have s2' : ((w2.setCell ⟨w.heap.size + 1, 0, none⟩ (.int .u64 (h : Int))).setCell ⟨w.heap.size + 1, 1, none⟩ (.int .u64 (l : Int))).frozen? ⟨w.heap.size + 1, 0, none⟩ = false := by simp [go_sem, f0']
  have s3 : ((w2.setCell ⟨w.heap.size + 1, 0, none⟩ (.int .u64 (h : Int))).setCell ⟨w.heap.size + 1, 1, none⟩ (.int .u64 (l : Int))).cell? ⟨w.heap.size, 0, none⟩ = some (.bool na) := keep_other (by simp) (keep_other (by simp) g0')
  have s4 : ((w2.setCell ⟨w.heap.size + 1, 0, none⟩ (.int .u64 (h : Int))).setCell ⟨w.heap.size + 1, 1, none⟩ (.int .u64 (l : Int))).cell? ⟨w.heap.size, 1, none⟩ = some (.slice A1 n c1) := keep_other (by simp) (keep_other (by simp) g1')
  have s5 : ((w2.setCell ⟨w.heap.size + 1, 0, none⟩ (.int .u64 (h : Int))).setCell ⟨w.heap.size + 1, 1, none⟩ (.int .u64 (l : Int))).cell? ⟨w.heap.size, 2, none⟩ = some (.int .i64 p) := keep_other (by simp) (keep_other (by simp) g2')
  have s6 : ((w2.setCell ⟨w.heap.size + 1, 0, none⟩ (.int .u64 (h : Int))).setCell ⟨w.heap.size + 1, 1, none⟩ (.int .u64 (l : Int))).cell? ⟨w.heap.size, 3, none⟩ = some (.slice none 0 0) := keep_other (by simp) (keep_other (by simp) g3')
  have s7 : Below w.heap.size w ((w2.setCell ⟨w.heap.size + 1, 0, none⟩ (.int .u64 (h : Int))).setCell ⟨w.heap.size + 1, 1, none⟩ (.int .u64 (l : Int))) := (by repeat (first | exact hx2 | (refine Below.drew ?_) | (refine Below.alloc ?_ (by first | omega | (simp <;> omega)) _) | (refine Below.setCell ?_ (by first | omega | (simp <;> omega)) _) | exact Below.refl _ _))
  have s8 : w.heap.size + 1 < ((w2.setCell ⟨w.heap.size + 1, 0, none⟩ (.int .u64 (h : Int))).setCell ⟨w.heap.size + 1, 1, none⟩ (.int .u64 (l : Int))).heap.size := by simp [World.setCell]; omega
  clear e0' e1' f0' f1' g0' g1' g2' g3' hx2 hx1
  generalize (w2.setCell ⟨w.heap.size + 1, 0, none⟩ (.int .u64 (h : Int))).setCell ⟨w.heap.size + 1, 1, none⟩ (.int .u64 (l : Int)) = w4 at *
  go_region
  have k0_0 : ((w4.setCell ⟨w.heap.size + 1, 1, none⟩ (.int .u64 ((l : Int) + (Y : Int)))).drew).cell? ⟨w.heap.size, 0, none⟩ = some (.bool na) := keep_drew (keep_other (by simp) s3)
  have k1_0 : ((w4.setCell ⟨w.heap.size + 1, 1, none⟩ (.int .u64 ((l : Int) + (Y : Int)))).drew).cell? ⟨w.heap.size, 1, none⟩ = some (.slice A1 n c1) := keep_drew (keep_other (by simp) s4)
  have k2_0 : ((w4.setCell ⟨w.heap.size + 1, 1, none⟩ (.int .u64 ((l : Int) + (Y : Int)))).drew).cell? ⟨w.heap.size, 2, none⟩ = some (.int .i64 p) := keep_drew (keep_other (by simp) s5)
  have k3_0 : ((w4.setCell ⟨w.heap.size + 1, 1, none⟩ (.int .u64 ((l : Int) + (Y : Int)))).drew).cell? ⟨w.heap.size, 3, none⟩ = some (.slice none 0 0) := keep_drew (keep_other (by simp) s6)
  have k4_0 : ((w4.setCell ⟨w.heap.size + 1, 1, none⟩ (.int .u64 ((l : Int) + (Y : Int)))).drew).cell? ⟨w.heap.size + 1, 0, none⟩ = some (.int .u64 (h : Int)) := keep_drew (by simp [cell_some, cell_if, s0, s1])
  have k5_0 : ((w4.setCell ⟨w.heap.size + 1, 1, none⟩ (.int .u64 ((l : Int) + (Y : Int)))).drew).cell? ⟨w.heap.size + 1, 1, none⟩ = some (.int .u64 ((l : Int) + (Y : Int))) := keep_drew (by simp [cell_some, cell_if, s0, s1])
  have m0_0 : ((w4.setCell ⟨w.heap.size + 1, 1, none⟩ (.int .u64 ((l : Int) + (Y : Int)))).drew).frozen? ⟨w.heap.size + 1, 0, none⟩ = false := by simp [go_sem, s2']
  have m1_0 : ((w4.setCell ⟨w.heap.size + 1, 1, none⟩ (.int .u64 ((l : Int) + (Y : Int)))).drew).frozen? ⟨w.heap.size + 1, 1, none⟩ = false := by simp [go_sem, s2]
  have hx5 : Below w.heap.size w ((w4.setCell ⟨w.heap.size + 1, 1, none⟩ (.int .u64 ((l : Int) + (Y : Int)))).drew) := (by repeat (first | exact s7 | (refine Below.drew ?_) | (refine Below.alloc ?_ (by first | omega | (simp <;> omega)) _) | (refine Below.setCell ?_ (by first | omega | (simp <;> omega)) _) | exact Below.refl _ _))
  have hz5 : w.heap.size + 1 < ((w4.setCell ⟨w.heap.size + 1, 1, none⟩ (.int .u64 ((l : Int) + (Y : Int)))).drew).heap.size := by simp [World.setCell, drew_heap]; omega
  clear s0 s1 s2 s2' s3 s4 s5 s6 s7 s8
  generalize ((w4.setCell ⟨w.heap.size + 1, 1, none⟩ (.int .u64 ((l : Int) + (Y : Int)))).drew) = w5 at *
  have fin : ∀ more : Bool, more = (decide (3 < n) || decide (Z ≠ 0)) → ∀ W, Below w.heap.size w W → ∃ (h' l' : Int) (s' : Nat) (m : Bool), Ending.returned (.tuple #[.agg #[.int .u64 (h : Int), .int .u64 ((l : Int) + (Y : Int))], .int .i64 (64 * (p + n - 2) - s), .bool more]) = .returned (.tuple #[.agg #[.int .u64 h', .int .u64 l'], .int .i64 (64 * (p + n - 2) - s'), .bool m]) ∧ 0 ≤ h' ∧ h' < 18446744073709551616 ∧ 0 ≤ l' ∧ l' < 18446744073709551616 ∧ s' ≤ 63 ∧ 2 ^ 126 ≤ wid h' l' ∧ wid h' l' = (dv ws).toNat * 2 ^ (128 + s') / 2 ^ (64 * n) ∧ m = decide ((dv ws).toNat * 2 ^ (128 + s') % 2 ^ (64 * n) ≠ 0) ∧ Below w.heap.size w W := by
    intro more hm W hW
    have q := QQ.out Y HY.out
    rw [show (((l + Y : Nat) : Int)) = (l : Int) + (Y : Int) by omega] at q
    have a := HLA.out
    rw [← N1.out] at a
    refine ⟨h, (l : Int) + (Y : Int), s, more, rfl, by omega, by omega, by omega, by omega, s63, ?_, ?_, ?_, hW⟩
    · rw [q]; exact Nat.le_trans LB2.out (Nat.le_add_right _ _)
    · rw [q]; exact a.1.symm
    · rw [hm, Bool.eq_iff_iff, Bool.or_eq_true, decide_eq_true_eq, decide_eq_true_eq, decide_eq_true_eq, a.2]
      have b := HLO.out
      constructor
      · rintro (c | c)
        · exact .inr c
        · exact .inl (fun d => c (b.2 d))
      · rintro (c | c)
        · exact .inr (fun d => c (b.1 d))
        · exact .inl c
  have FIN : Hid (∀ more : Bool, _) := fin
  clear fin QQ HLA HLO HY
  have wz : IntKind.u64.wrap ((X3 : Int) * 2 ^ s) = (Z : Int) := by
    rw [show (X3 : Int) * 2 ^ s = ((X3 * 2 ^ s : Nat) : Int) by push_cast; rfl, wrap_nat, ← HZ.out]
  have wq1 : IntKind.i64.wrap (p + (n : Int) - 2) = p + (n : Int) - 2 := by rw [IntKind.wrap_i64]; omega
  have wq2 : IntKind.i64.wrap (64 * (p + (n : Int) - 2)) = 64 * (p + (n : Int) - 2) := by rw [IntKind.wrap_i64]; omega
  have wq3 : IntKind.i64.wrap (64 * (p + (n : Int) - 2) - (s : Int)) = 64 * (p + (n : Int) - 2) - (s : Int) := by rw [IntKind.wrap_i64]; omega
  have key : ∃ more : Bool, more = (decide (3 < n) || decide (Z ≠ 0)) ∧ ((3 : Int) < (n : Int) ∧ more = true ∨ ¬ (3 : Int) < (n : Int) ∧ (Z : Int) ≠ 0 ∧ more = true ∨ ¬ (3 : Int) < (n : Int) ∧ (Z : Int) = 0 ∧ more = false) := by
    refine ⟨_, rfl, ?_⟩
    by_cases a : 3 < n
    · exact .inl ⟨by omega, by simp [a]⟩
    · by_cases b : Z = 0
      · exact .inr (.inr ⟨by omega, by omega, by simp [a, b]⟩)
      · exact .inr (.inl ⟨by omega, by omega, by simp [a, b]⟩)
  obtain ⟨more, hm, key⟩ := key
  have HM : Hid (_ = _) := hm
  clear hm
  rcases key with ⟨h3, rfl⟩ | ⟨h3, hz0, rfl⟩ | ⟨h3, hz0, rfl⟩
  all_goals
    go_wp2_with fail
    go_region_held3 (fun w' => w'.cell? ⟨w.heap.size, 0, none⟩ = some (.bool na) ∧ w'.cell? ⟨w.heap.size, 1, none⟩ = some (.slice A1 n c1) ∧ w'.cell? ⟨w.heap.size, 2, none⟩ = some (.int .i64 p) ∧ w'.cell? ⟨w.heap.size, 3, none⟩ = some (.slice none 0 0) ∧ w'.cell? ⟨w.heap.size + 1, 0, none⟩ = some (.int .u64 (h : Int)) ∧ w'.cell? ⟨w.heap.size + 1, 1, none⟩ = some (.int .u64 ((l : Int) + (Y : Int)))) (refine ⟨?_, ?_, ?_, ?_, ?_, ?_⟩ <;> (repeat (first | assumption | (refine keep_drew ?_) | (refine keep_set ?_ (by simp))))) (first | (go_at_call 63; refine (dTop _ _ _ _ _ _ (by omega) (by omega) (by omega)).mono ?_; rintro e w6 ⟨rfl, hb6⟩; have hq6 := hb6.size; (try simp only [drew_heap] at hq6); have k0_6 := (hb6.cell (p := ⟨w.heap.size, 0, none⟩) (by simp [drew_heap]; omega)).trans k0_0; have k1_6 := (hb6.cell (p := ⟨w.heap.size, 1, none⟩) (by simp [drew_heap]; omega)).trans k1_0; have k2_6 := (hb6.cell (p := ⟨w.heap.size, 2, none⟩) (by simp [drew_heap]; omega)).trans k2_0; have k3_6 := (hb6.cell (p := ⟨w.heap.size, 3, none⟩) (by simp [drew_heap]; omega)).trans k3_0; have k4_6 := (hb6.cell (p := ⟨w.heap.size + 1, 0, none⟩) (by simp [drew_heap]; omega)).trans k4_0; have k5_6 := (hb6.cell (p := ⟨w.heap.size + 1, 1, none⟩) (by simp [drew_heap]; omega)).trans k5_0; have m0_6 := (hb6.frozen (p := ⟨w.heap.size + 1, 0, none⟩) (by simp [drew_heap]; omega)).trans m0_0; have m1_6 := (hb6.frozen (p := ⟨w.heap.size + 1, 1, none⟩) (by simp [drew_heap]; omega)).trans m1_0; have hx6 : Below w.heap.size w w6 := (Below.trans (by repeat (first | exact hx5 | (refine Below.drew ?_) | (refine Below.alloc ?_ (by first | omega | (simp <;> omega)) _) | (refine Below.setCell ?_ (by first | omega | (simp <;> omega)) _) | exact Below.refl _ _)) (hb6.mono (by first | omega | (simp <;> omega)))); have hz6 : w.heap.size + 1 < w6.heap.size := (by omega); clear hb6 hq6) | (go_at_call 76; refine (dNear _ _ (by omega) (by omega)).mono ?_; rintro e w7 ⟨rfl, hb7⟩; have hq7 := hb7.size; (try simp only [drew_heap] at hq7); have k0_7 := (hb7.cell (p := ⟨w.heap.size, 0, none⟩) (by simp [drew_heap]; omega)).trans k0_6; have k1_7 := (hb7.cell (p := ⟨w.heap.size, 1, none⟩) (by simp [drew_heap]; omega)).trans k1_6; have k2_7 := (hb7.cell (p := ⟨w.heap.size, 2, none⟩) (by simp [drew_heap]; omega)).trans k2_6; have k3_7 := (hb7.cell (p := ⟨w.heap.size, 3, none⟩) (by simp [drew_heap]; omega)).trans k3_6; have k4_7 := (hb7.cell (p := ⟨w.heap.size + 1, 0, none⟩) (by simp [drew_heap]; omega)).trans k4_6; have k5_7 := (hb7.cell (p := ⟨w.heap.size + 1, 1, none⟩) (by simp [drew_heap]; omega)).trans k5_6; have m0_7 := (hb7.frozen (p := ⟨w.heap.size + 1, 0, none⟩) (by simp [drew_heap]; omega)).trans m0_6; have m1_7 := (hb7.frozen (p := ⟨w.heap.size + 1, 1, none⟩) (by simp [drew_heap]; omega)).trans m1_6; have hx7 : Below w.heap.size w w7 := (Below.trans (by repeat (first | exact hx6 | (refine Below.drew ?_) | (refine Below.alloc ?_ (by first | omega | (simp <;> omega)) _) | (refine Below.setCell ?_ (by first | omega | (simp <;> omega)) _) | exact Below.refl _ _)) (hb7.mono (by first | omega | (simp <;> omega)))); have hz7 : w.heap.size + 1 < w7.heap.size := (by omega); clear hb7 hq7))
    all_goals
      go_wp2
      refine bodyPost_ret (v := .tuple #[.agg #[.int .u64 (h : Int), .int .u64 ((l : Int) + (Y : Int))], .int .i64 (64 * (p + n - 2) - s), .bool _]) (by simp [results, Try.results49, go_sem, k4_7, k5_7, cell_some, cell_if] <;> omega) rfl (FIN.out _ HM.out _ (by repeat (first | exact hx7 | (refine Below.drew ?_) | (refine Below.alloc ?_ (by first | omega | (simp <;> omega)) _) | (refine Below.setCell ?_ (by first | omega | (simp <;> omega)) _) | exact Below.refl _ _)))
end Go.Proofs.Ytgpgmnmifhkmbaa
