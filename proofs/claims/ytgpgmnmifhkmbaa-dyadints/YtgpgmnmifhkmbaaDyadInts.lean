/-
  The law DyadInts returns true at every input, and leaves its arguments as they were. No conditions.
-/
import Derived.Test.YtgpgmnmifhkmbaaRows
import Derived.WalkKit
import Derived.ProofKit
import Derived.OpenShut
import Derived.Deep.RegionWith
import Derived.Test.YtgpgmnmifhkmbaaBoxM
import Derived.Lib.SmallJoins
import Derived.Below
namespace Go.Proofs.Ytgpgmnmifhkmbaa.dyadInts
open Go.ChangeShapes Go.WideShapes Go.ChangeAt Go.RowKit
open Go.Joins (open_agg2 shut_agg2)
set_option linter.unusedVariables false

theorem own : ownKnob Try.prog.godebug = none := by kernel_rfl

set_option maxRecDepth 100000 in
set_option maxHeartbeats 20000000 in
set_option linter.unusedSimpArgs false in
theorem walk (a0 : Int) (a1 : Int) (w : World) (w0 : (Lit.int .i64 a0).wf = true) (w1 : (Lit.int .i64 a1).wf = true) :
    Calls Try.prog 6 #[.int .i64 a0, .int .i64 a1] w fun e w' => e = .returned (.bool true) ∧ Below w.heap.size w w' := by
  obtain ⟨h0, h1⟩ := bounds_i64 w0
  obtain ⟨g0, g1⟩ := bounds_i64 w1
  clear w0 w1
  obtain ⟨sn, hsn⟩ : ∃ b, decide (a0 < 0) = b := ⟨_, rfl⟩
  obtain ⟨M, hM⟩ : ∃ M : Nat, M = a0.natAbs := ⟨_, rfl⟩
  have HM : Hid (_ = _) := hM
  have hM64 : Hid (M < 18446744073709551616) := by show _ < _; omega
  have wn : ∀ (h : a0 < 0), IntKind.u64.wrap a0 = a0 + 18446744073709551616 ∧ IntKind.u64.wrap (-(a0 + 18446744073709551616)) = (M : Int) := fun h => ⟨by rw [IntKind.wrap_u64]; omega, by rw [IntKind.wrap_u64]; omega⟩
  have wp : ∀ (h : ¬ a0 < 0), IntKind.u64.wrap a0 = (M : Int) := fun h => by rw [IntKind.wrap_u64]; omega
  clear hM hsn
  by_cases hn : a0 < 0
  · obtain ⟨wn1, wn2⟩ := wn hn
    have wn3 : IntKind.u64.wrap (0 - (a0 + 18446744073709551616)) = (M : Int) := by rw [← wn2]; congr 1; omega
    clear wn wp
    go_enter Try.func6, Try.ntmps6
    go_wp2_with (first | (go_at_call 7; refine (lHead7 _).mono ?_; rintro e W0 ⟨rfl, hbx⟩; have hx0 : Below w.heap.size w W0 := hbx; have hz0 : w.heap.size ≤ W0.heap.size := hbx.size; clear hbx) | (go_at_call 29; refine (dInt _ _ (by omega) (by omega)).mono ?_; rintro e W1 ⟨v, rfl, ht, hb1⟩; obtain ⟨nx, Ax, kx, cx, px, rfl⟩ := ht.form; have Tx : Hid (Tell W1 0 _ _ _ _) := (ht.base (Nat.zero_le _)); have hx1 : Below w.heap.size w W1 := (hx0.trans (hb1.mono hz0)); have hz1 : w.heap.size ≤ W1.heap.size := hx1.size; clear ht hb1))
    go_loopw [8] (fun iv wr => ∃ (i : Nat) (ny : Bool) (Ay : Option Addr) (ky cy : Nat) (py : Int), iv = .int .i64 ((i : Int) - 1) ∧ i ≤ 64 ∧ Hid (BoxF wr (W1.heap.size + 1) (.bool ny) (.slice Ay ky cy) (.int .i64 py) (.slice none 0 0)) ∧ Hid (Tell wr 0 (.agg #[.bool ny, .slice Ay ky cy, .int .i64 py, .slice none 0 0]) 0 (2 + 2 * (64 - (i : Int))) ((M / 2 ^ i : Nat) : Int)) ∧ Hid (Below (W1.heap.size + 1) (W1.alloc (.cells #[.bool nx, .slice Ax kx cx, .int .i64 px, .slice none 0 0] 38)) wr)) (fun iv _ => (intOf iv + 1).toNat)
    case atStart =>
      refine ⟨64, false, none, 0, 0, 0, rfl, Nat.le_refl _, ?_, ?_, ?_⟩
      · have := BoxF.made (W1.alloc (.cells #[.bool nx, .slice Ax kx cx, .int .i64 px, .slice none 0 0] 38)) (.bool false) (.slice none 0 0) (.int .i64 0) (.slice none 0 0) 38
        simp at this
        exact this
      · have e : M / 2 ^ 64 = 0 := Nat.div_eq_of_lt hM64.out
        show Tell _ _ _ _ _ _
        rw [e]
        exact Tell.zero _ _ _ _ _ (by omega)
      · exact (Below.refl _ _).alloc (by simp) _
    case round =>
      obtain ⟨i, ny, Ay, ky, cy, py, rfl, hi, BF, TY, HB⟩ := hrel
      have bf := BF.out
      obtain ⟨⟨k0, k1, k2, k3⟩, ⟨f0, f1, f2, f3⟩, lb⟩ := bf
      by_cases hi0 : i = 0
      · subst hi0
        have TY0 : Hid (Tell wr 0 _ 0 (2 + 2 * (64 - ((0 : Nat) : Int))) (M : Int)) := TY.out.eq (by rw [Nat.pow_zero, Nat.div_one])
        have AM : Hid (-(M : Int) = a0) := by show _ = _; have := HM.out; omega
        have e1 := and_1023_i a1
        obtain ⟨E, hE⟩ : ∃ E : Nat, (E : Int) = a1 % 1024 := ⟨(a1 % 1024).toNat, by omega⟩
        rw [← hE] at e1
        have E0 : (0 : Int) ≤ (E : Int) := by omega
        have E1 : (E : Int) ≤ 1023 := by omega
        have e2 := and_31_i (E : Int)
        obtain ⟨F, hF⟩ : ∃ F : Nat, (F : Int) = (E : Int) % 32 := ⟨((E : Int) % 32).toNat, by omega⟩
        rw [← hF] at e2
        have F0 : (0 : Int) ≤ (F : Int) := by omega
        have F1 : (F : Int) ≤ 31 := by omega
        have CE1 : Hid (clampT (E : Int) = E) := by show _ = _; unfold clampT; omega
        have CE2 : Hid (clampT (-(E : Int)) = -(E : Int)) := by show _ = _; unfold clampT; omega
        have CF : Hid (clampT (F : Int) = F) := by show _ = _; unfold clampT; omega
        have C0 : Hid (clampT 0 = 0) := by show _ = _; decide
        clear TY hE hF
        go_wp2_with (first | (go_at_call 28; refine (dNeg _ _ 0 0 _ _ TY0.out (by omega) (by omega)).mono ?_; rintro e wq ⟨v, rfl, ht, hbq⟩; rw [AM.out] at ht; obtain ⟨nq_, Aq_, kq_, cq_, pq_, rfl⟩ := ht.form; have TQ : Hid (Tell _ _ _ _ _ _) := ht; have BQ : Hid (BoxF wq _ _ _ _ _) := BF.out.below hbq; have HQ : Hid (Below (W1.heap.size + 1) (W1.alloc (.cells #[.bool nx, .slice Ax kx cx, .int .i64 px, .slice none 0 0] 38)) wq) := HB.out.trans (hbq.mono (by omega)); have hsq := hbq.size; obtain ⟨hcq, hfq⟩ := bcell hbq; clear hbq ht) | fail)
        have BE := BQ.out.put (.bool nq_) (.slice Aq_ kq_ cq_) (.int .i64 pq_) (.slice none 0 0)
        have TE := (TQ.out.put (b := W1.heap.size + 1) lb (.bool nq_) (.slice Aq_ kq_ cq_) (.int .i64 pq_) (.slice none 0 0)).base (Nat.zero_le _)
        have HE := below_put HQ.out (b := W1.heap.size + 1) (Nat.le_refl _) (.bool nq_) (.slice Aq_ kq_ cq_) (.int .i64 pq_) (.slice none 0 0)
        generalize (((wq.setCell ⟨W1.heap.size + 1, 0, none⟩ (.bool nq_)).setCell ⟨W1.heap.size + 1, 1, none⟩ (.slice Aq_ kq_ cq_)).setCell ⟨W1.heap.size + 1, 2, none⟩ (.int .i64 pq_)).setCell ⟨W1.heap.size + 1, 3, none⟩ (.slice none 0 0) = wE at BE TE HE ⊢
        have BY : Hid (BoxF wE _ _ _ _ _) := BE
        have TYE : Hid (Tell wE _ _ _ _ _) := TE
        have BX : Hid (BoxF wE W1.heap.size (.bool nx) (.slice Ax kx cx) (.int .i64 px) (.slice none 0 0)) := (BoxF.made W1 _ _ _ _ _).below (HE.mono (by simp))
        have TXE : Hid (Tell wE _ _ _ _ _) := Tx.out.below (Below.trans ((Below.refl _ _).alloc (Nat.le_refl _) _) (HE.mono (by simp)))
        have HWE : Hid (Below w.heap.size w wE) := hx1.trans (Below.trans ((Below.refl _ _).alloc hz1 _) (HE.mono (by omega)))
        have hszE := HWE.out.size
        obtain ⟨⟨e0_, e1_, e2_, e3_⟩, ⟨d0, d1, d2, d3⟩, le⟩ := BE
        clear TE HE BQ TQ HQ hcq hfq hsq k0 k1 k2 k3 f0 f1 f2 f3 BF TY0 HB lb e0_ e1_ e2_ e3_ d0 d1 d2 d3
        go_wp2_with fail
        refine (dTwo _ _).mono ?_
        rintro e w2 ⟨v2, rfl, t2, hb2⟩
        have t2' := t2 16 18 (by rw [CE1.out]; omega) (by rw [CE1.out]; omega) (by omega)
        rw [CE1.out] at t2'
        obtain ⟨n2_, A2, k2, c2, p2, rfl⟩ := t2'.form
        have T2 : Hid (Tell w2 0 _ _ _ _) := t2'.base (Nat.zero_le _)
        clear t2 t2'
        go_wp2_with fail
        refine (dTwo _ _).mono ?_
        rintro e w3 ⟨v3, rfl, t3, hb3⟩
        have t3' := t3 16 18 (by rw [CE2.out]; omega) (by rw [CE2.out]; omega) (by omega)
        rw [CE2.out] at t3'
        obtain ⟨n3_, A3, k3, c3, p3, rfl⟩ := t3'.form
        have T3 : Hid (Tell w3 0 _ _ _ _) := t3'.base (Nat.zero_le _)
        have T2' : Hid (Tell w3 0 _ _ _ _) := T2.out.below hb3
        have hE3 : Below wE.heap.size wE w3 := hb2.trans (hb3.mono hb2.size)
        clear t3 t3' T2 hb2 hb3
        go_wp2_with fail
        refine (dMul _ _ _ 0 16 16 18 18 _ _ T2'.out T3.out (by omega) (by omega) (by omega) (by omega) (by omega) (by omega)).mono ?_
        rintro e w4 ⟨v4, rfl, t4, hb4⟩
        obtain ⟨n4_, A4, k4, c4, p4, rfl⟩ := t4.form
        have T4 : Hid (Tell w4 0 _ _ _ _) := t4.base (Nat.zero_le _)
        have hE4 : Below wE.heap.size wE w4 := hE3.trans (hb4.mono hE3.size)
        clear t4 T2' T3 hE3 hb4
        go_wp2_with fail
        refine (dTwo _ _).mono ?_
        rintro e w5 ⟨v5, rfl, t5, hb5⟩
        have t5' := t5 0 2 (by rw [C0.out]; omega) (by rw [C0.out]; omega) (by omega)
        rw [C0.out] at t5'
        obtain ⟨n5_, A5, k5, c5, p5, rfl⟩ := t5'.form
        have T5 : Hid (Tell w5 0 _ 0 2 1) := (t5'.base (Nat.zero_le _)).eq (by decide)
        have hb5' : Below w4.heap.size w4 w5 := Below.trans ((Below.refl _ _).alloc (Nat.le_refl _) _) (hb5.mono (by simp))
        have BP : Hid (BoxF w5 w4.heap.size (.bool n4_) (.slice A4 k4 c4) (.int .i64 p4) (.slice none 0 0)) := (BoxF.made w4 _ _ _ _ _).below hb5
        have T4' : Hid (Tell w5 0 _ _ _ _) := T4.out.below hb5'
        have hE5 : Below wE.heap.size wE w5 := hE4.trans (hb5'.mono hE4.size)
        have BY5 : Hid (BoxF w5 _ _ _ _ _) := BY.out.below hE5
        have BX5 : Hid (BoxF w5 _ _ _ _ _) := BX.out.below hE5
        have TY5 : Hid (Tell w5 _ _ _ _ _) := TYE.out.below hE5
        have TX5 : Hid (Tell w5 _ _ _ _ _) := TXE.out.below hE5
        have HW5 : Hid (Below w.heap.size w w5) := HWE.out.trans (hE5.mono hszE)
        clear t5 t5' hb5 hb5' T4 hE4 hE5 BY BX TYE TXE HWE
        go_wp2_with fail
        go_loopw [11] (fun iv wr => ∃ (i : Nat) (nq : Bool) (Aq : Option Addr) (kq cq : Nat) (pq : Int), iv = .int .i64 (i : Int) ∧ i ≤ F ∧ Hid (BoxF wr w5.heap.size (.bool nq) (.slice Aq kq cq) (.int .i64 pq) (.slice none 0 0)) ∧ Hid (Tell wr 0 (.agg #[.bool nq, .slice Aq kq cq, .int .i64 pq, .slice none 0 0]) 0 (2 + (i : Int)) ((2 ^ i : Nat) : Int)) ∧ Hid (Below w5.heap.size w5 wr)) (fun iv _ => F - (intOf iv).toNat)
        case atStart => exact ⟨0, n5_, A5, k5, c5, p5, rfl, Nat.zero_le _, BoxF.made w5 _ _ _ _ _, (T5.out.below ((Below.refl _ _).alloc (Nat.le_refl _) _)).eq rfl, (Below.refl _ _).alloc (Nat.le_refl _) _⟩
        case round =>
          clear T5
          obtain ⟨i, nq, Aq, kq, cq, pq, rfl, hi, BF, TQ, HB⟩ := hrel
          by_cases hiF : i < F
          · obtain ⟨⟨k0, k1, k2, k3⟩, ⟨f0, f1, f2, f3⟩, lb⟩ := BF.out
            have hiF' : (i : Int) < (F : Int) := by omega
            go_wp2_with (first | (go_at_call 14; refine (dAdd _ _ _ 0 0 _ _ _ TQ.out TQ.out (by omega) (by omega) (by omega)).mono ?_; rintro e wq ⟨v, rfl, ht, hbq⟩; obtain ⟨nr, Ar, kr, cr, pr, rfl⟩ := ht.form; have TR : Hid (Tell _ _ _ _ _ _) := ht; have BR : Hid (BoxF wq _ _ _ _ _) := BF.out.below hbq; have HR : Hid (Below w5.heap.size w5 wq) := HB.out.trans (hbq.mono (by omega)); obtain ⟨hcq, hfq⟩ := bcell hbq; clear hbq ht))
            go_roundw
            case rel =>
              refine ⟨i + 1, nr, Ar, kr, cr, pr, by go_num, by omega, BR.out.put _ _ _ _, ?_, below_put HR.out (b := w5.heap.size) (Nat.le_refl _) _ _ _ _⟩
              refine ((TR.out.put (b := w5.heap.size) lb _ _ _ _).base (Nat.zero_le _)).wide _ (by omega) |>.eq ?_
              rw [Nat.pow_succ]
              generalize 2 ^ i = z
              omega
            case measure => simp [intOf] <;> omega
          · obtain rfl : i = F := by omega
            go_wp2_with fail
            have D1 : Hid (decide (a0 = a0) = true) := by show _ = _; simp
            have D2 : Hid (decide (((2 ^ ((E : Int) + 64 * (16 : Nat)).toNat : Nat) : Int) * ((2 ^ (-(E : Int) + 64 * (16 : Nat)).toNat : Nat) : Int) = 1 * pw (16 + 16 - 0)) = true) := by
              show _ = _
              rw [decide_eq_true_eq, Int.one_mul, pw_two, ← Int.natCast_mul, ← Nat.pow_add]
              congr 2
              omega
            have D3 : Hid (decide (((2 ^ i : Nat) : Int) = ((2 ^ (clampT (i : Int) + 64 * (0 : Nat)).toNat : Nat) : Int)) = true) := by
              show _ = _
              rw [decide_eq_true_eq, CF.out, show ((i : Int) + 64 * ((0 : Nat) : Int)).toNat = i by omega]
            have L1 : Hid (clampT 1099511627776 = 1048576) := by show _ = _; decide
            have L2 : Hid (clampT 1048576 = 1048576) := by show _ = _; decide
            have L3 : Hid (clampT (-1099511627776) = -1048576) := by show _ = _; decide
            have L4 : Hid (clampT (-1048576) = -1048576) := by show _ = _; decide
            have D4 : Hid (decide (((2 ^ (clampT 1099511627776 + 64 * (0 : Nat)).toNat : Nat) : Int) = ((2 ^ (clampT 1048576 + 64 * (0 : Nat)).toNat : Nat) : Int)) = true) := by
              show _ = _
              rw [decide_eq_true_eq, show clampT 1099511627776 = clampT 1048576 by rw [L1.out, L2.out]]
            have D5 : Hid (decide (((2 ^ (clampT (-1099511627776) + 64 * (16384 : Nat)).toNat : Nat) : Int) = ((2 ^ (clampT (-1048576) + 64 * (16384 : Nat)).toNat : Nat) : Int)) = true) := by
              show _ = _
              rw [decide_eq_true_eq, show clampT (-1099511627776) = clampT (-1048576) by rw [L3.out, L4.out]]
            obtain ⟨Kx, _, lx⟩ := BX5.out.below HB.out
            obtain ⟨Ky, _, ly⟩ := BY5.out.below HB.out
            obtain ⟨Kp, _, lp⟩ := BP.out.below HB.out
            obtain ⟨Kq, _, lq⟩ := BF.out
            have Tx_ : Hid (Tell wr 0 _ _ _ _) := TX5.out.below HB.out
            have Ty : Hid (Tell wr 0 _ _ _ _) := TY5.out.below HB.out
            have Tp : Hid (Tell wr 0 _ _ _ _) := T4'.out.below HB.out
            have HWr : Hid (Below w.heap.size w wr) := HW5.out.trans (HB.out.mono HW5.out.size)
            clear Tx BX5 BY5 BP BF TX5 TY5 T4' HB HW5
            have Tx : Hid (Tell wr 0 _ _ _ _) := Tx_
            clear Tx_
            obtain ⟨Wa, rfl⟩ : ∃ x, x = wr := ⟨wr, rfl⟩
            have HBa : Hid (Below Wa.heap.size Wa Wa) := Below.refl _ _
            have hsz := HBa.out.size
            have ct : Cnt 1 := Cnt.mk _
            have Tq := TQ
            go_region_held3 (fun w' => (w'.cell? ⟨W1.heap.size, 0, none⟩ = some (.bool nx) ∧ w'.cell? ⟨W1.heap.size, 1, none⟩ = some (.slice Ax kx cx) ∧ w'.cell? ⟨W1.heap.size, 2, none⟩ = some (.int .i64 px) ∧ w'.cell? ⟨W1.heap.size, 3, none⟩ = some (.slice none 0 0)) ∧ (w'.cell? ⟨W1.heap.size + 1, 0, none⟩ = some (.bool nq_) ∧ w'.cell? ⟨W1.heap.size + 1, 1, none⟩ = some (.slice Aq_ kq_ cq_) ∧ w'.cell? ⟨W1.heap.size + 1, 2, none⟩ = some (.int .i64 pq_) ∧ w'.cell? ⟨W1.heap.size + 1, 3, none⟩ = some (.slice none 0 0)) ∧ (w'.cell? ⟨w4.heap.size, 0, none⟩ = some (.bool n4_) ∧ w'.cell? ⟨w4.heap.size, 1, none⟩ = some (.slice A4 k4 c4) ∧ w'.cell? ⟨w4.heap.size, 2, none⟩ = some (.int .i64 p4) ∧ w'.cell? ⟨w4.heap.size, 3, none⟩ = some (.slice none 0 0)) ∧ (w'.cell? ⟨w5.heap.size, 0, none⟩ = some (.bool nq) ∧ w'.cell? ⟨w5.heap.size, 1, none⟩ = some (.slice Aq kq cq) ∧ w'.cell? ⟨w5.heap.size, 2, none⟩ = some (.int .i64 pq) ∧ w'.cell? ⟨w5.heap.size, 3, none⟩ = some (.slice none 0 0))) ((refine box4 (Wa := Wa) ?_ lx ly lp lq Kx Ky Kp Kq; repeat (first | exact HBa.out | (refine Below.drew ?_) | (refine Below.alloc ?_ (by first | omega | (simp <;> omega)) _) | (refine Below.setCell ?_ (by first | omega | (simp <;> omega)) _)))) (first | (have ck : Cnt 1 := ct; go_at_call 25; refine (dSame _ _ _ 0 0 130 _ _ ((Tx.out.below (by repeat (first | exact HBa.out | (refine Below.drew ?_) | (refine Below.alloc ?_ (by first | omega | (simp <;> omega)) _) | (refine Below.setCell ?_ (by first | omega | (simp <;> omega)) _) | exact Below.refl _ _))).wide 130 (by omega)) ((Ty.out.below (by repeat (first | exact HBa.out | (refine Below.drew ?_) | (refine Below.alloc ?_ (by first | omega | (simp <;> omega)) _) | (refine Below.setCell ?_ (by first | omega | (simp <;> omega)) _) | exact Below.refl _ _))).wide 130 (by omega)) (by omega) (by omega)).mono ?_; rintro e Wn ⟨rfl, hb⟩; rw [D1.out]; have hbt : Below Wa.heap.size Wa Wn := (Below.trans (by repeat (first | (refine Below.drew ?_) | (refine Below.alloc ?_ (by first | omega | (simp <;> omega)) _) | (refine Below.setCell ?_ (by first | omega | (simp <;> omega)) _) | exact Below.refl _ _)) (hb.mono (by first | omega | (simp <;> omega)))); replace HBa : Hid (Below Wa.heap.size Wa Wn) := hbt; have hsz := HBa.out.size; replace ct : Cnt 2 := Cnt.mk _; clear hb hbt ck; obtain ⟨Wp, rfl⟩ : ∃ x, x = Wn := ⟨Wn, rfl⟩) | (have ck : Cnt 2 := ct; go_at_call 29; refine (dInt _ _ (by omega) (by omega)).mono ?_; rintro e Wn ⟨v, rfl, ht, hb⟩; obtain ⟨ni, Ai, ki, ci, pi, rfl⟩ := ht.form; have hbt : Below Wp.heap.size Wp Wn := (Below.trans (by repeat (first | (refine Below.drew ?_) | (refine Below.alloc ?_ (by first | omega | (simp <;> omega)) _) | (refine Below.setCell ?_ (by first | omega | (simp <;> omega)) _) | exact Below.refl _ _)) (hb.mono (by first | omega | (simp <;> omega)))); have Ti : Hid (Tell Wn 0 _ _ _ _) := (ht.base (Nat.zero_le _)); replace HBa : Hid (Below Wa.heap.size Wa Wn) := HBa.out.trans (hbt.mono HBa.out.size); have hsz := HBa.out.size; replace ct : Cnt 3 := Cnt.mk _; clear hb hbt ck ht; obtain ⟨Wp, rfl⟩ : ∃ x, x = Wn := ⟨Wn, rfl⟩) | (have ck : Cnt 3 := ct; go_at_call 25; refine (dSame _ _ _ 0 (16 + 16) (18 + 18) _ _ (Tp.out.below (by repeat (first | exact HBa.out | (refine Below.drew ?_) | (refine Below.alloc ?_ (by first | omega | (simp <;> omega)) _) | (refine Below.setCell ?_ (by first | omega | (simp <;> omega)) _) | exact Below.refl _ _))) ((Ti.out.below (by repeat (first | (refine Below.drew ?_) | (refine Below.alloc ?_ (by first | omega | (simp <;> omega)) _) | (refine Below.setCell ?_ (by first | omega | (simp <;> omega)) _) | exact Below.refl _ _))).up (16 + 16) (18 + 18) (by omega) (by omega)) (by omega) (by omega)).mono ?_; rintro e Wn ⟨rfl, hb⟩; rw [D2.out]; have hbt : Below Wp.heap.size Wp Wn := (Below.trans (by repeat (first | (refine Below.drew ?_) | (refine Below.alloc ?_ (by first | omega | (simp <;> omega)) _) | (refine Below.setCell ?_ (by first | omega | (simp <;> omega)) _) | exact Below.refl _ _)) (hb.mono (by first | omega | (simp <;> omega)))); replace HBa : Hid (Below Wa.heap.size Wa Wn) := HBa.out.trans (hbt.mono HBa.out.size); have hsz := HBa.out.size; replace ct : Cnt 4 := Cnt.mk _; clear hb hbt ck; obtain ⟨Wp, rfl⟩ : ∃ x, x = Wn := ⟨Wn, rfl⟩) | (have ck : Cnt 4 := ct; go_at_call 30; refine (dTwo _ _).mono ?_; rintro e Wn ⟨v, rfl, ht0, hb⟩; have ht := ht0 0 40 (by rw [CF.out]; omega) (by rw [CF.out]; omega) (by omega); obtain ⟨nj, Aj, kj, cj, pj, rfl⟩ := ht.form; have hbt : Below Wp.heap.size Wp Wn := (Below.trans (by repeat (first | (refine Below.drew ?_) | (refine Below.alloc ?_ (by first | omega | (simp <;> omega)) _) | (refine Below.setCell ?_ (by first | omega | (simp <;> omega)) _) | exact Below.refl _ _)) (hb.mono (by first | omega | (simp <;> omega)))); have Tj : Hid (Tell Wn 0 _ _ _ _) := (ht.base (Nat.zero_le _)); replace HBa : Hid (Below Wa.heap.size Wa Wn) := HBa.out.trans (hbt.mono HBa.out.size); have hsz := HBa.out.size; replace ct : Cnt 5 := Cnt.mk _; clear hb hbt ck ht ht0; obtain ⟨Wp, rfl⟩ : ∃ x, x = Wn := ⟨Wn, rfl⟩) | (have ck : Cnt 5 := ct; go_at_call 25; refine (dSame _ _ _ 0 0 40 _ _ ((Tq.out.below (by repeat (first | exact HBa.out | (refine Below.drew ?_) | (refine Below.alloc ?_ (by first | omega | (simp <;> omega)) _) | (refine Below.setCell ?_ (by first | omega | (simp <;> omega)) _) | exact Below.refl _ _))).wide 40 (by omega)) (Tj.out.below (by repeat (first | (refine Below.drew ?_) | (refine Below.alloc ?_ (by first | omega | (simp <;> omega)) _) | (refine Below.setCell ?_ (by first | omega | (simp <;> omega)) _) | exact Below.refl _ _))) (by omega) (by omega)).mono ?_; rintro e Wn ⟨rfl, hb⟩; rw [D3.out]; have hbt : Below Wp.heap.size Wp Wn := (Below.trans (by repeat (first | (refine Below.drew ?_) | (refine Below.alloc ?_ (by first | omega | (simp <;> omega)) _) | (refine Below.setCell ?_ (by first | omega | (simp <;> omega)) _) | exact Below.refl _ _)) (hb.mono (by first | omega | (simp <;> omega)))); replace HBa : Hid (Below Wa.heap.size Wa Wn) := HBa.out.trans (hbt.mono HBa.out.size); have hsz := HBa.out.size; replace ct : Cnt 6 := Cnt.mk _; clear hb hbt ck; obtain ⟨Wp, rfl⟩ : ∃ x, x = Wn := ⟨Wn, rfl⟩) | (have ck : Cnt 6 := ct; go_at_call 30; refine (dTwo _ _).mono ?_; rintro e Wn ⟨v, rfl, ht0, hb⟩; have ht := ht0 0 16390 (by rw [L1.out]; omega) (by rw [L1.out]; omega) (by omega); obtain ⟨na, Aa, ka, ca, pa, rfl⟩ := ht.form; have hbt : Below Wp.heap.size Wp Wn := (Below.trans (by repeat (first | (refine Below.drew ?_) | (refine Below.alloc ?_ (by first | omega | (simp <;> omega)) _) | (refine Below.setCell ?_ (by first | omega | (simp <;> omega)) _) | exact Below.refl _ _)) (hb.mono (by first | omega | (simp <;> omega)))); have Ta : Hid (Tell Wn 0 _ _ _ _) := (ht.base (Nat.zero_le _)); replace HBa : Hid (Below Wa.heap.size Wa Wn) := HBa.out.trans (hbt.mono HBa.out.size); have hsz := HBa.out.size; replace ct : Cnt 7 := Cnt.mk _; clear hb hbt ck ht ht0; obtain ⟨Wp, rfl⟩ : ∃ x, x = Wn := ⟨Wn, rfl⟩) | (have ck : Cnt 7 := ct; go_at_call 30; refine (dTwo _ _).mono ?_; rintro e Wn ⟨v, rfl, ht0, hb⟩; have ht := ht0 0 16390 (by rw [L2.out]; omega) (by rw [L2.out]; omega) (by omega); obtain ⟨nb, Ab, kb, cb, pb, rfl⟩ := ht.form; have hbt : Below Wp.heap.size Wp Wn := (Below.trans (by repeat (first | (refine Below.drew ?_) | (refine Below.alloc ?_ (by first | omega | (simp <;> omega)) _) | (refine Below.setCell ?_ (by first | omega | (simp <;> omega)) _) | exact Below.refl _ _)) (hb.mono (by first | omega | (simp <;> omega)))); replace Ta : Hid (Tell Wn _ _ _ _ _) := Ta.out.below hbt; have Tb : Hid (Tell Wn 0 _ _ _ _) := (ht.base (Nat.zero_le _)); replace HBa : Hid (Below Wa.heap.size Wa Wn) := HBa.out.trans (hbt.mono HBa.out.size); have hsz := HBa.out.size; replace ct : Cnt 8 := Cnt.mk _; clear hb hbt ck ht ht0; obtain ⟨Wp, rfl⟩ : ∃ x, x = Wn := ⟨Wn, rfl⟩) | (have ck : Cnt 8 := ct; go_at_call 25; refine (dSame _ _ _ 0 0 16390 _ _ (Ta.out.below (by repeat (first | (refine Below.drew ?_) | (refine Below.alloc ?_ (by first | omega | (simp <;> omega)) _) | (refine Below.setCell ?_ (by first | omega | (simp <;> omega)) _) | exact Below.refl _ _))) (Tb.out.below (by repeat (first | (refine Below.drew ?_) | (refine Below.alloc ?_ (by first | omega | (simp <;> omega)) _) | (refine Below.setCell ?_ (by first | omega | (simp <;> omega)) _) | exact Below.refl _ _))) (by omega) (by omega)).mono ?_; rintro e Wn ⟨rfl, hb⟩; rw [D4.out]; have hbt : Below Wp.heap.size Wp Wn := (Below.trans (by repeat (first | (refine Below.drew ?_) | (refine Below.alloc ?_ (by first | omega | (simp <;> omega)) _) | (refine Below.setCell ?_ (by first | omega | (simp <;> omega)) _) | exact Below.refl _ _)) (hb.mono (by first | omega | (simp <;> omega)))); replace HBa : Hid (Below Wa.heap.size Wa Wn) := HBa.out.trans (hbt.mono HBa.out.size); have hsz := HBa.out.size; replace ct : Cnt 9 := Cnt.mk _; clear hb hbt ck; obtain ⟨Wp, rfl⟩ : ∃ x, x = Wn := ⟨Wn, rfl⟩) | (have ck : Cnt 9 := ct; go_at_call 30; refine (dTwo _ _).mono ?_; rintro e Wn ⟨v, rfl, ht0, hb⟩; have ht := ht0 16384 10 (by rw [L3.out]; omega) (by rw [L3.out]; omega) (by omega); obtain ⟨nc, Ac, kc, cc, pc, rfl⟩ := ht.form; have hbt : Below Wp.heap.size Wp Wn := (Below.trans (by repeat (first | (refine Below.drew ?_) | (refine Below.alloc ?_ (by first | omega | (simp <;> omega)) _) | (refine Below.setCell ?_ (by first | omega | (simp <;> omega)) _) | exact Below.refl _ _)) (hb.mono (by first | omega | (simp <;> omega)))); have Tc : Hid (Tell Wn 0 _ _ _ _) := (ht.base (Nat.zero_le _)); replace HBa : Hid (Below Wa.heap.size Wa Wn) := HBa.out.trans (hbt.mono HBa.out.size); have hsz := HBa.out.size; replace ct : Cnt 10 := Cnt.mk _; clear hb hbt ck ht ht0; obtain ⟨Wp, rfl⟩ : ∃ x, x = Wn := ⟨Wn, rfl⟩) | (have ck : Cnt 10 := ct; go_at_call 30; refine (dTwo _ _).mono ?_; rintro e Wn ⟨v, rfl, ht0, hb⟩; have ht := ht0 16384 10 (by rw [L4.out]; omega) (by rw [L4.out]; omega) (by omega); obtain ⟨nd, Ad, kd, cd, pd, rfl⟩ := ht.form; have hbt : Below Wp.heap.size Wp Wn := (Below.trans (by repeat (first | (refine Below.drew ?_) | (refine Below.alloc ?_ (by first | omega | (simp <;> omega)) _) | (refine Below.setCell ?_ (by first | omega | (simp <;> omega)) _) | exact Below.refl _ _)) (hb.mono (by first | omega | (simp <;> omega)))); replace Tc : Hid (Tell Wn _ _ _ _ _) := Tc.out.below hbt; have Td : Hid (Tell Wn 0 _ _ _ _) := (ht.base (Nat.zero_le _)); replace HBa : Hid (Below Wa.heap.size Wa Wn) := HBa.out.trans (hbt.mono HBa.out.size); have hsz := HBa.out.size; replace ct : Cnt 11 := Cnt.mk _; clear hb hbt ck ht ht0; obtain ⟨Wp, rfl⟩ : ∃ x, x = Wn := ⟨Wn, rfl⟩) | (have ck : Cnt 11 := ct; go_at_call 25; refine (dSame _ _ _ 0 16384 10 _ _ (Tc.out.below (by repeat (first | (refine Below.drew ?_) | (refine Below.alloc ?_ (by first | omega | (simp <;> omega)) _) | (refine Below.setCell ?_ (by first | omega | (simp <;> omega)) _) | exact Below.refl _ _))) (Td.out.below (by repeat (first | (refine Below.drew ?_) | (refine Below.alloc ?_ (by first | omega | (simp <;> omega)) _) | (refine Below.setCell ?_ (by first | omega | (simp <;> omega)) _) | exact Below.refl _ _))) (by omega) (by omega)).mono ?_; rintro e Wn ⟨rfl, hb⟩; rw [D5.out]; have hbt : Below Wp.heap.size Wp Wn := (Below.trans (by repeat (first | (refine Below.drew ?_) | (refine Below.alloc ?_ (by first | omega | (simp <;> omega)) _) | (refine Below.setCell ?_ (by first | omega | (simp <;> omega)) _) | exact Below.refl _ _)) (hb.mono (by first | omega | (simp <;> omega)))); replace HBa : Hid (Below Wa.heap.size Wa Wn) := HBa.out.trans (hbt.mono HBa.out.size); have hsz := HBa.out.size; replace ct : Cnt 12 := Cnt.mk _; clear hb hbt ck; obtain ⟨Wp, rfl⟩ : ∃ x, x = Wn := ⟨Wn, rfl⟩))
            go_wp2
            go_ret
            exact ⟨rfl, HWr.out.trans (HBa.out.mono HWr.out.size)⟩
      · obtain ⟨j, rfl⟩ : ∃ j, i = j + 1 := ⟨i - 1, by omega⟩
        rw [show (((j + 1 : Nat) : Int) - 1) = (j : Int) by omega]
        have j1 : (0 : Int) ≤ (j : Int) := by omega
        have j2 : (j : Int) ≤ 63 := by omega
        have HBIT : Hid (_ = _) := half_bit M j
        have an1 := and_1_u ((M : Int) / 2 ^ j)
        have eM : (M : Int) / 2 ^ j = ((M / 2 ^ j : Nat) : Int) := by rw [Int.natCast_ediv, Int.natCast_pow]; rfl
        by_cases hbit : M / 2 ^ j % 2 = 1
        · have an2 : bits .and .u64 ((M : Int) / 2 ^ j) 1 = 1 := by rw [an1, eM]; omega
          clear an1 eM
          go_wp2_with (first | (go_at_call 14; refine (dAdd _ _ _ 0 0 _ _ _ TY.out TY.out (by omega) (by omega) (by omega)).mono ?_; rintro e wq ⟨v, rfl, ht, hbq⟩; obtain ⟨nq, Aq, kq, cq, pq, rfl⟩ := ht.form; have TQ : Hid (Tell _ _ _ _ _ _) := ht; have BQ : Hid (BoxF wq _ _ _ _ _) := BF.out.below hbq; have HQ : Hid (Below (W1.heap.size + 1) (W1.alloc (.cells #[.bool nx, .slice Ax kx cx, .int .i64 px, .slice none 0 0] 38)) wq) := HB.out.trans (hbq.mono (by omega)); have hsq := hbq.size; obtain ⟨hcq, hfq⟩ := bcell hbq; clear hbq ht) | fail)
          have BE := BQ.out.put (.bool nq) (.slice Aq kq cq) (.int .i64 pq) (.slice none 0 0)
          have TE := (TQ.out.put (b := W1.heap.size + 1) lb (.bool nq) (.slice Aq kq cq) (.int .i64 pq) (.slice none 0 0)).base (Nat.zero_le _)
          have HE := below_put HQ.out (b := W1.heap.size + 1) (Nat.le_refl _) (.bool nq) (.slice Aq kq cq) (.int .i64 pq) (.slice none 0 0)
          generalize (((wq.setCell ⟨W1.heap.size + 1, 0, none⟩ (.bool nq)).setCell ⟨W1.heap.size + 1, 1, none⟩ (.slice Aq kq cq)).setCell ⟨W1.heap.size + 1, 2, none⟩ (.int .i64 pq)).setCell ⟨W1.heap.size + 1, 3, none⟩ (.slice none 0 0) = wE at BE TE HE ⊢
          have BE' : Hid (BoxF wE _ _ _ _ _) := BE
          have TE' : Hid (Tell wE _ _ _ _ _) := TE
          have HE' : Hid (Below _ _ wE) := HE
          obtain ⟨⟨e0, e1, e2, e3⟩, ⟨d0, d1, d2, d3⟩, le⟩ := BE
          clear TE HE BQ TQ HQ hcq hfq hsq k0 k1 k2 k3 f0 f1 f2 f3 BF TY HB lb
          go_region_with (first | (go_at_call 29; refine (dInt _ _ (by omega) (by omega)).mono ?_; rintro e wi ⟨v, rfl, ht, hbi⟩; obtain ⟨ni, Ai, ki, ci, pi, rfl⟩ := ht.form; have TI : Hid (Tell wi 0 _ _ _ _) := (ht.base (Nat.zero_le _)); replace hbi : Below wE.heap.size wE wi := ((Below.refl _ _).drew).trans hbi; have BI : Hid (BoxF wi _ _ _ _ _) := BE'.out.below hbi; have TF : Hid (Tell wi _ _ _ _ _) := TE'.out.below hbi; have HI : Hid (Below (W1.heap.size + 1) (W1.alloc (.cells #[.bool nx, .slice Ax kx cx, .int .i64 px, .slice none 0 0] 38)) wi) := HE'.out.trans (hbi.mono (by omega)); obtain ⟨hci, hfi⟩ := bcell hbi; have li := BI.out.2.2; clear hbi ht) | (go_at_call 14; refine (dAdd _ _ _ 0 0 _ _ _ TF.out (TI.out.wide _ (by omega)) (by omega) (by omega) (by omega)).mono ?_; rintro e wj ⟨v, rfl, ht, hbj⟩; obtain ⟨nj, Aj, kj, cj, pj, rfl⟩ := ht.form; have TJ : Hid (Tell wj _ _ _ _ _) := ht; have BJ : Hid (BoxF wj _ _ _ _ _) := BI.out.below hbj; have HJ : Hid (Below (W1.heap.size + 1) (W1.alloc (.cells #[.bool nx, .slice Ax kx cx, .int .i64 px, .slice none 0 0] 38)) wj) := HI.out.trans (hbj.mono (by omega)); obtain ⟨hcj, hfj⟩ := bcell hbj; have lj := BJ.out.2.2; clear hbj ht))
          all_goals
            go_wp2
            go_roundw
            case rel =>
              refine ⟨j, nj, Aj, kj, cj, pj, rfl, by omega, BJ.out.put _ _ _ _, ?_, below_put HJ.out (b := W1.heap.size + 1) (Nat.le_refl _) _ _ _ _⟩
              refine ((TJ.out.put (b := W1.heap.size + 1) li _ _ _ _).base (Nat.zero_le _)).wide _ (by omega) |>.eq ?_
              have := HBIT.out
              omega
            case measure => simp [intOf] <;> omega
        · have an2 : bits .and .u64 ((M : Int) / 2 ^ j) 1 = 0 := by rw [an1, eM]; omega
          clear an1 eM
          go_wp2_with (first | (go_at_call 14; refine (dAdd _ _ _ 0 0 _ _ _ TY.out TY.out (by omega) (by omega) (by omega)).mono ?_; rintro e wq ⟨v, rfl, ht, hbq⟩; obtain ⟨nq, Aq, kq, cq, pq, rfl⟩ := ht.form; have TQ : Hid (Tell _ _ _ _ _ _) := ht; have BQ : Hid (BoxF wq _ _ _ _ _) := BF.out.below hbq; have HQ : Hid (Below (W1.heap.size + 1) (W1.alloc (.cells #[.bool nx, .slice Ax kx cx, .int .i64 px, .slice none 0 0] 38)) wq) := HB.out.trans (hbq.mono (by omega)); have hsq := hbq.size; obtain ⟨hcq, hfq⟩ := bcell hbq; clear hbq ht) | fail)
          go_roundw
          case rel =>
            refine ⟨j, nq, Aq, kq, cq, pq, rfl, by omega, BQ.out.put _ _ _ _, ?_, below_put HQ.out (b := W1.heap.size + 1) (Nat.le_refl _) _ _ _ _⟩
            refine ((TQ.out.put (b := W1.heap.size + 1) lb _ _ _ _).base (Nat.zero_le _)).wide _ (by omega) |>.eq ?_
            have := HBIT.out
            omega
          case measure => simp [intOf] <;> omega
  · have wp1 := wp hn
    clear wn wp
    go_enter Try.func6, Try.ntmps6
    go_wp2_with (first | (go_at_call 7; refine (lHead7 _).mono ?_; rintro e W0 ⟨rfl, hbx⟩; have hx0 : Below w.heap.size w W0 := hbx; have hz0 : w.heap.size ≤ W0.heap.size := hbx.size; clear hbx) | (go_at_call 29; refine (dInt _ _ (by omega) (by omega)).mono ?_; rintro e W1 ⟨v, rfl, ht, hb1⟩; obtain ⟨nx, Ax, kx, cx, px, rfl⟩ := ht.form; have Tx : Hid (Tell W1 0 _ _ _ _) := (ht.base (Nat.zero_le _)); have hx1 : Below w.heap.size w W1 := (hx0.trans (hb1.mono hz0)); have hz1 : w.heap.size ≤ W1.heap.size := hx1.size; clear ht hb1))
    go_loopw [8] (fun iv wr => ∃ (i : Nat) (ny : Bool) (Ay : Option Addr) (ky cy : Nat) (py : Int), iv = .int .i64 ((i : Int) - 1) ∧ i ≤ 64 ∧ Hid (BoxF wr (W1.heap.size + 1) (.bool ny) (.slice Ay ky cy) (.int .i64 py) (.slice none 0 0)) ∧ Hid (Tell wr 0 (.agg #[.bool ny, .slice Ay ky cy, .int .i64 py, .slice none 0 0]) 0 (2 + 2 * (64 - (i : Int))) ((M / 2 ^ i : Nat) : Int)) ∧ Hid (Below (W1.heap.size + 1) (W1.alloc (.cells #[.bool nx, .slice Ax kx cx, .int .i64 px, .slice none 0 0] 38)) wr)) (fun iv _ => (intOf iv + 1).toNat)
    case atStart =>
      refine ⟨64, false, none, 0, 0, 0, rfl, Nat.le_refl _, ?_, ?_, ?_⟩
      · have := BoxF.made (W1.alloc (.cells #[.bool nx, .slice Ax kx cx, .int .i64 px, .slice none 0 0] 38)) (.bool false) (.slice none 0 0) (.int .i64 0) (.slice none 0 0) 38
        simp at this
        exact this
      · have e : M / 2 ^ 64 = 0 := Nat.div_eq_of_lt hM64.out
        show Tell _ _ _ _ _ _
        rw [e]
        exact Tell.zero _ _ _ _ _ (by omega)
      · exact (Below.refl _ _).alloc (by simp) _
    case round =>
      obtain ⟨i, ny, Ay, ky, cy, py, rfl, hi, BF, TY, HB⟩ := hrel
      have bf := BF.out
      obtain ⟨⟨k0, k1, k2, k3⟩, ⟨f0, f1, f2, f3⟩, lb⟩ := bf
      by_cases hi0 : i = 0
      · subst hi0
        have TY0 : Hid (Tell wr 0 _ 0 (2 + 2 * (64 - ((0 : Nat) : Int))) (M : Int)) := TY.out.eq (by rw [Nat.pow_zero, Nat.div_one])
        have AM : Hid ((M : Int) = a0) := by show _ = _; have := HM.out; omega
        have e1 := and_1023_i a1
        obtain ⟨E, hE⟩ : ∃ E : Nat, (E : Int) = a1 % 1024 := ⟨(a1 % 1024).toNat, by omega⟩
        rw [← hE] at e1
        have E0 : (0 : Int) ≤ (E : Int) := by omega
        have E1 : (E : Int) ≤ 1023 := by omega
        have e2 := and_31_i (E : Int)
        obtain ⟨F, hF⟩ : ∃ F : Nat, (F : Int) = (E : Int) % 32 := ⟨((E : Int) % 32).toNat, by omega⟩
        rw [← hF] at e2
        have F0 : (0 : Int) ≤ (F : Int) := by omega
        have F1 : (F : Int) ≤ 31 := by omega
        have CE1 : Hid (clampT (E : Int) = E) := by show _ = _; unfold clampT; omega
        have CE2 : Hid (clampT (-(E : Int)) = -(E : Int)) := by show _ = _; unfold clampT; omega
        have CF : Hid (clampT (F : Int) = F) := by show _ = _; unfold clampT; omega
        have C0 : Hid (clampT 0 = 0) := by show _ = _; decide
        clear TY hE hF
        go_wp2_with fail
        obtain ⟨wE, rfl⟩ : ∃ x, x = wr := ⟨wr, rfl⟩
        have BE := BF.out
        have TE := TY0.out.eq AM.out
        have HE := HB.out
        have BY : Hid (BoxF wE _ _ _ _ _) := BE
        have TYE : Hid (Tell wE _ _ _ _ _) := TE
        have BX : Hid (BoxF wE W1.heap.size (.bool nx) (.slice Ax kx cx) (.int .i64 px) (.slice none 0 0)) := (BoxF.made W1 _ _ _ _ _).below (HE.mono (by simp))
        have TXE : Hid (Tell wE _ _ _ _ _) := Tx.out.below (Below.trans ((Below.refl _ _).alloc (Nat.le_refl _) _) (HE.mono (by simp)))
        have HWE : Hid (Below w.heap.size w wE) := hx1.trans (Below.trans ((Below.refl _ _).alloc hz1 _) (HE.mono (by omega)))
        have hszE := HWE.out.size
        obtain ⟨⟨e0_, e1_, e2_, e3_⟩, ⟨d0, d1, d2, d3⟩, le⟩ := BE
        clear TE HE k0 k1 k2 k3 f0 f1 f2 f3 BF TY0 HB lb e0_ e1_ e2_ e3_ d0 d1 d2 d3
        refine (dTwo _ _).mono ?_
        rintro e w2 ⟨v2, rfl, t2, hb2⟩
        have t2' := t2 16 18 (by rw [CE1.out]; omega) (by rw [CE1.out]; omega) (by omega)
        rw [CE1.out] at t2'
        obtain ⟨n2_, A2, k2, c2, p2, rfl⟩ := t2'.form
        have T2 : Hid (Tell w2 0 _ _ _ _) := t2'.base (Nat.zero_le _)
        clear t2 t2'
        go_wp2_with fail
        refine (dTwo _ _).mono ?_
        rintro e w3 ⟨v3, rfl, t3, hb3⟩
        have t3' := t3 16 18 (by rw [CE2.out]; omega) (by rw [CE2.out]; omega) (by omega)
        rw [CE2.out] at t3'
        obtain ⟨n3_, A3, k3, c3, p3, rfl⟩ := t3'.form
        have T3 : Hid (Tell w3 0 _ _ _ _) := t3'.base (Nat.zero_le _)
        have T2' : Hid (Tell w3 0 _ _ _ _) := T2.out.below hb3
        have hE3 : Below wE.heap.size wE w3 := hb2.trans (hb3.mono hb2.size)
        clear t3 t3' T2 hb2 hb3
        go_wp2_with fail
        refine (dMul _ _ _ 0 16 16 18 18 _ _ T2'.out T3.out (by omega) (by omega) (by omega) (by omega) (by omega) (by omega)).mono ?_
        rintro e w4 ⟨v4, rfl, t4, hb4⟩
        obtain ⟨n4_, A4, k4, c4, p4, rfl⟩ := t4.form
        have T4 : Hid (Tell w4 0 _ _ _ _) := t4.base (Nat.zero_le _)
        have hE4 : Below wE.heap.size wE w4 := hE3.trans (hb4.mono hE3.size)
        clear t4 T2' T3 hE3 hb4
        go_wp2_with fail
        refine (dTwo _ _).mono ?_
        rintro e w5 ⟨v5, rfl, t5, hb5⟩
        have t5' := t5 0 2 (by rw [C0.out]; omega) (by rw [C0.out]; omega) (by omega)
        rw [C0.out] at t5'
        obtain ⟨n5_, A5, k5, c5, p5, rfl⟩ := t5'.form
        have T5 : Hid (Tell w5 0 _ 0 2 1) := (t5'.base (Nat.zero_le _)).eq (by decide)
        have hb5' : Below w4.heap.size w4 w5 := Below.trans ((Below.refl _ _).alloc (Nat.le_refl _) _) (hb5.mono (by simp))
        have BP : Hid (BoxF w5 w4.heap.size (.bool n4_) (.slice A4 k4 c4) (.int .i64 p4) (.slice none 0 0)) := (BoxF.made w4 _ _ _ _ _).below hb5
        have T4' : Hid (Tell w5 0 _ _ _ _) := T4.out.below hb5'
        have hE5 : Below wE.heap.size wE w5 := hE4.trans (hb5'.mono hE4.size)
        have BY5 : Hid (BoxF w5 _ _ _ _ _) := BY.out.below hE5
        have BX5 : Hid (BoxF w5 _ _ _ _ _) := BX.out.below hE5
        have TY5 : Hid (Tell w5 _ _ _ _ _) := TYE.out.below hE5
        have TX5 : Hid (Tell w5 _ _ _ _ _) := TXE.out.below hE5
        have HW5 : Hid (Below w.heap.size w w5) := HWE.out.trans (hE5.mono hszE)
        clear t5 t5' hb5 hb5' T4 hE4 hE5 BY BX TYE TXE HWE
        go_wp2_with fail
        go_loopw [11] (fun iv wr => ∃ (i : Nat) (nq : Bool) (Aq : Option Addr) (kq cq : Nat) (pq : Int), iv = .int .i64 (i : Int) ∧ i ≤ F ∧ Hid (BoxF wr w5.heap.size (.bool nq) (.slice Aq kq cq) (.int .i64 pq) (.slice none 0 0)) ∧ Hid (Tell wr 0 (.agg #[.bool nq, .slice Aq kq cq, .int .i64 pq, .slice none 0 0]) 0 (2 + (i : Int)) ((2 ^ i : Nat) : Int)) ∧ Hid (Below w5.heap.size w5 wr)) (fun iv _ => F - (intOf iv).toNat)
        case atStart => exact ⟨0, n5_, A5, k5, c5, p5, rfl, Nat.zero_le _, BoxF.made w5 _ _ _ _ _, (T5.out.below ((Below.refl _ _).alloc (Nat.le_refl _) _)).eq rfl, (Below.refl _ _).alloc (Nat.le_refl _) _⟩
        case round =>
          clear T5
          obtain ⟨i, nq, Aq, kq, cq, pq, rfl, hi, BF, TQ, HB⟩ := hrel
          by_cases hiF : i < F
          · obtain ⟨⟨k0, k1, k2, k3⟩, ⟨f0, f1, f2, f3⟩, lb⟩ := BF.out
            have hiF' : (i : Int) < (F : Int) := by omega
            go_wp2_with (first | (go_at_call 14; refine (dAdd _ _ _ 0 0 _ _ _ TQ.out TQ.out (by omega) (by omega) (by omega)).mono ?_; rintro e wq ⟨v, rfl, ht, hbq⟩; obtain ⟨nr, Ar, kr, cr, pr, rfl⟩ := ht.form; have TR : Hid (Tell _ _ _ _ _ _) := ht; have BR : Hid (BoxF wq _ _ _ _ _) := BF.out.below hbq; have HR : Hid (Below w5.heap.size w5 wq) := HB.out.trans (hbq.mono (by omega)); obtain ⟨hcq, hfq⟩ := bcell hbq; clear hbq ht))
            go_roundw
            case rel =>
              refine ⟨i + 1, nr, Ar, kr, cr, pr, by go_num, by omega, BR.out.put _ _ _ _, ?_, below_put HR.out (b := w5.heap.size) (Nat.le_refl _) _ _ _ _⟩
              refine ((TR.out.put (b := w5.heap.size) lb _ _ _ _).base (Nat.zero_le _)).wide _ (by omega) |>.eq ?_
              rw [Nat.pow_succ]
              generalize 2 ^ i = z
              omega
            case measure => simp [intOf] <;> omega
          · obtain rfl : i = F := by omega
            go_wp2_with fail
            have D1 : Hid (decide (a0 = a0) = true) := by show _ = _; simp
            have D2 : Hid (decide (((2 ^ ((E : Int) + 64 * (16 : Nat)).toNat : Nat) : Int) * ((2 ^ (-(E : Int) + 64 * (16 : Nat)).toNat : Nat) : Int) = 1 * pw (16 + 16 - 0)) = true) := by
              show _ = _
              rw [decide_eq_true_eq, Int.one_mul, pw_two, ← Int.natCast_mul, ← Nat.pow_add]
              congr 2
              omega
            have D3 : Hid (decide (((2 ^ i : Nat) : Int) = ((2 ^ (clampT (i : Int) + 64 * (0 : Nat)).toNat : Nat) : Int)) = true) := by
              show _ = _
              rw [decide_eq_true_eq, CF.out, show ((i : Int) + 64 * ((0 : Nat) : Int)).toNat = i by omega]
            have L1 : Hid (clampT 1099511627776 = 1048576) := by show _ = _; decide
            have L2 : Hid (clampT 1048576 = 1048576) := by show _ = _; decide
            have L3 : Hid (clampT (-1099511627776) = -1048576) := by show _ = _; decide
            have L4 : Hid (clampT (-1048576) = -1048576) := by show _ = _; decide
            have D4 : Hid (decide (((2 ^ (clampT 1099511627776 + 64 * (0 : Nat)).toNat : Nat) : Int) = ((2 ^ (clampT 1048576 + 64 * (0 : Nat)).toNat : Nat) : Int)) = true) := by
              show _ = _
              rw [decide_eq_true_eq, show clampT 1099511627776 = clampT 1048576 by rw [L1.out, L2.out]]
            have D5 : Hid (decide (((2 ^ (clampT (-1099511627776) + 64 * (16384 : Nat)).toNat : Nat) : Int) = ((2 ^ (clampT (-1048576) + 64 * (16384 : Nat)).toNat : Nat) : Int)) = true) := by
              show _ = _
              rw [decide_eq_true_eq, show clampT (-1099511627776) = clampT (-1048576) by rw [L3.out, L4.out]]
            obtain ⟨Kx, _, lx⟩ := BX5.out.below HB.out
            obtain ⟨Ky, _, ly⟩ := BY5.out.below HB.out
            obtain ⟨Kp, _, lp⟩ := BP.out.below HB.out
            obtain ⟨Kq, _, lq⟩ := BF.out
            have Tx_ : Hid (Tell wr 0 _ _ _ _) := TX5.out.below HB.out
            have Ty : Hid (Tell wr 0 _ _ _ _) := TY5.out.below HB.out
            have Tp : Hid (Tell wr 0 _ _ _ _) := T4'.out.below HB.out
            have HWr : Hid (Below w.heap.size w wr) := HW5.out.trans (HB.out.mono HW5.out.size)
            clear Tx BX5 BY5 BP BF TX5 TY5 T4' HB HW5
            have Tx : Hid (Tell wr 0 _ _ _ _) := Tx_
            clear Tx_
            obtain ⟨Wa, rfl⟩ : ∃ x, x = wr := ⟨wr, rfl⟩
            have HBa : Hid (Below Wa.heap.size Wa Wa) := Below.refl _ _
            have hsz := HBa.out.size
            have ct : Cnt 1 := Cnt.mk _
            have Tq := TQ
            go_region_held3 (fun w' => (w'.cell? ⟨W1.heap.size, 0, none⟩ = some (.bool nx) ∧ w'.cell? ⟨W1.heap.size, 1, none⟩ = some (.slice Ax kx cx) ∧ w'.cell? ⟨W1.heap.size, 2, none⟩ = some (.int .i64 px) ∧ w'.cell? ⟨W1.heap.size, 3, none⟩ = some (.slice none 0 0)) ∧ (w'.cell? ⟨W1.heap.size + 1, 0, none⟩ = some (.bool ny) ∧ w'.cell? ⟨W1.heap.size + 1, 1, none⟩ = some (.slice Ay ky cy) ∧ w'.cell? ⟨W1.heap.size + 1, 2, none⟩ = some (.int .i64 py) ∧ w'.cell? ⟨W1.heap.size + 1, 3, none⟩ = some (.slice none 0 0)) ∧ (w'.cell? ⟨w4.heap.size, 0, none⟩ = some (.bool n4_) ∧ w'.cell? ⟨w4.heap.size, 1, none⟩ = some (.slice A4 k4 c4) ∧ w'.cell? ⟨w4.heap.size, 2, none⟩ = some (.int .i64 p4) ∧ w'.cell? ⟨w4.heap.size, 3, none⟩ = some (.slice none 0 0)) ∧ (w'.cell? ⟨w5.heap.size, 0, none⟩ = some (.bool nq) ∧ w'.cell? ⟨w5.heap.size, 1, none⟩ = some (.slice Aq kq cq) ∧ w'.cell? ⟨w5.heap.size, 2, none⟩ = some (.int .i64 pq) ∧ w'.cell? ⟨w5.heap.size, 3, none⟩ = some (.slice none 0 0))) ((refine box4 (Wa := Wa) ?_ lx ly lp lq Kx Ky Kp Kq; repeat (first | exact HBa.out | (refine Below.drew ?_) | (refine Below.alloc ?_ (by first | omega | (simp <;> omega)) _) | (refine Below.setCell ?_ (by first | omega | (simp <;> omega)) _)))) (first | (have ck : Cnt 1 := ct; go_at_call 25; refine (dSame _ _ _ 0 0 130 _ _ ((Tx.out.below (by repeat (first | exact HBa.out | (refine Below.drew ?_) | (refine Below.alloc ?_ (by first | omega | (simp <;> omega)) _) | (refine Below.setCell ?_ (by first | omega | (simp <;> omega)) _) | exact Below.refl _ _))).wide 130 (by omega)) ((Ty.out.below (by repeat (first | exact HBa.out | (refine Below.drew ?_) | (refine Below.alloc ?_ (by first | omega | (simp <;> omega)) _) | (refine Below.setCell ?_ (by first | omega | (simp <;> omega)) _) | exact Below.refl _ _))).wide 130 (by omega)) (by omega) (by omega)).mono ?_; rintro e Wn ⟨rfl, hb⟩; rw [D1.out]; have hbt : Below Wa.heap.size Wa Wn := (Below.trans (by repeat (first | (refine Below.drew ?_) | (refine Below.alloc ?_ (by first | omega | (simp <;> omega)) _) | (refine Below.setCell ?_ (by first | omega | (simp <;> omega)) _) | exact Below.refl _ _)) (hb.mono (by first | omega | (simp <;> omega)))); replace HBa : Hid (Below Wa.heap.size Wa Wn) := hbt; have hsz := HBa.out.size; replace ct : Cnt 2 := Cnt.mk _; clear hb hbt ck; obtain ⟨Wp, rfl⟩ : ∃ x, x = Wn := ⟨Wn, rfl⟩) | (have ck : Cnt 2 := ct; go_at_call 29; refine (dInt _ _ (by omega) (by omega)).mono ?_; rintro e Wn ⟨v, rfl, ht, hb⟩; obtain ⟨ni, Ai, ki, ci, pi, rfl⟩ := ht.form; have hbt : Below Wp.heap.size Wp Wn := (Below.trans (by repeat (first | (refine Below.drew ?_) | (refine Below.alloc ?_ (by first | omega | (simp <;> omega)) _) | (refine Below.setCell ?_ (by first | omega | (simp <;> omega)) _) | exact Below.refl _ _)) (hb.mono (by first | omega | (simp <;> omega)))); have Ti : Hid (Tell Wn 0 _ _ _ _) := (ht.base (Nat.zero_le _)); replace HBa : Hid (Below Wa.heap.size Wa Wn) := HBa.out.trans (hbt.mono HBa.out.size); have hsz := HBa.out.size; replace ct : Cnt 3 := Cnt.mk _; clear hb hbt ck ht; obtain ⟨Wp, rfl⟩ : ∃ x, x = Wn := ⟨Wn, rfl⟩) | (have ck : Cnt 3 := ct; go_at_call 25; refine (dSame _ _ _ 0 (16 + 16) (18 + 18) _ _ (Tp.out.below (by repeat (first | exact HBa.out | (refine Below.drew ?_) | (refine Below.alloc ?_ (by first | omega | (simp <;> omega)) _) | (refine Below.setCell ?_ (by first | omega | (simp <;> omega)) _) | exact Below.refl _ _))) ((Ti.out.below (by repeat (first | (refine Below.drew ?_) | (refine Below.alloc ?_ (by first | omega | (simp <;> omega)) _) | (refine Below.setCell ?_ (by first | omega | (simp <;> omega)) _) | exact Below.refl _ _))).up (16 + 16) (18 + 18) (by omega) (by omega)) (by omega) (by omega)).mono ?_; rintro e Wn ⟨rfl, hb⟩; rw [D2.out]; have hbt : Below Wp.heap.size Wp Wn := (Below.trans (by repeat (first | (refine Below.drew ?_) | (refine Below.alloc ?_ (by first | omega | (simp <;> omega)) _) | (refine Below.setCell ?_ (by first | omega | (simp <;> omega)) _) | exact Below.refl _ _)) (hb.mono (by first | omega | (simp <;> omega)))); replace HBa : Hid (Below Wa.heap.size Wa Wn) := HBa.out.trans (hbt.mono HBa.out.size); have hsz := HBa.out.size; replace ct : Cnt 4 := Cnt.mk _; clear hb hbt ck; obtain ⟨Wp, rfl⟩ : ∃ x, x = Wn := ⟨Wn, rfl⟩) | (have ck : Cnt 4 := ct; go_at_call 30; refine (dTwo _ _).mono ?_; rintro e Wn ⟨v, rfl, ht0, hb⟩; have ht := ht0 0 40 (by rw [CF.out]; omega) (by rw [CF.out]; omega) (by omega); obtain ⟨nj, Aj, kj, cj, pj, rfl⟩ := ht.form; have hbt : Below Wp.heap.size Wp Wn := (Below.trans (by repeat (first | (refine Below.drew ?_) | (refine Below.alloc ?_ (by first | omega | (simp <;> omega)) _) | (refine Below.setCell ?_ (by first | omega | (simp <;> omega)) _) | exact Below.refl _ _)) (hb.mono (by first | omega | (simp <;> omega)))); have Tj : Hid (Tell Wn 0 _ _ _ _) := (ht.base (Nat.zero_le _)); replace HBa : Hid (Below Wa.heap.size Wa Wn) := HBa.out.trans (hbt.mono HBa.out.size); have hsz := HBa.out.size; replace ct : Cnt 5 := Cnt.mk _; clear hb hbt ck ht ht0; obtain ⟨Wp, rfl⟩ : ∃ x, x = Wn := ⟨Wn, rfl⟩) | (have ck : Cnt 5 := ct; go_at_call 25; refine (dSame _ _ _ 0 0 40 _ _ ((Tq.out.below (by repeat (first | exact HBa.out | (refine Below.drew ?_) | (refine Below.alloc ?_ (by first | omega | (simp <;> omega)) _) | (refine Below.setCell ?_ (by first | omega | (simp <;> omega)) _) | exact Below.refl _ _))).wide 40 (by omega)) (Tj.out.below (by repeat (first | (refine Below.drew ?_) | (refine Below.alloc ?_ (by first | omega | (simp <;> omega)) _) | (refine Below.setCell ?_ (by first | omega | (simp <;> omega)) _) | exact Below.refl _ _))) (by omega) (by omega)).mono ?_; rintro e Wn ⟨rfl, hb⟩; rw [D3.out]; have hbt : Below Wp.heap.size Wp Wn := (Below.trans (by repeat (first | (refine Below.drew ?_) | (refine Below.alloc ?_ (by first | omega | (simp <;> omega)) _) | (refine Below.setCell ?_ (by first | omega | (simp <;> omega)) _) | exact Below.refl _ _)) (hb.mono (by first | omega | (simp <;> omega)))); replace HBa : Hid (Below Wa.heap.size Wa Wn) := HBa.out.trans (hbt.mono HBa.out.size); have hsz := HBa.out.size; replace ct : Cnt 6 := Cnt.mk _; clear hb hbt ck; obtain ⟨Wp, rfl⟩ : ∃ x, x = Wn := ⟨Wn, rfl⟩) | (have ck : Cnt 6 := ct; go_at_call 30; refine (dTwo _ _).mono ?_; rintro e Wn ⟨v, rfl, ht0, hb⟩; have ht := ht0 0 16390 (by rw [L1.out]; omega) (by rw [L1.out]; omega) (by omega); obtain ⟨na, Aa, ka, ca, pa, rfl⟩ := ht.form; have hbt : Below Wp.heap.size Wp Wn := (Below.trans (by repeat (first | (refine Below.drew ?_) | (refine Below.alloc ?_ (by first | omega | (simp <;> omega)) _) | (refine Below.setCell ?_ (by first | omega | (simp <;> omega)) _) | exact Below.refl _ _)) (hb.mono (by first | omega | (simp <;> omega)))); have Ta : Hid (Tell Wn 0 _ _ _ _) := (ht.base (Nat.zero_le _)); replace HBa : Hid (Below Wa.heap.size Wa Wn) := HBa.out.trans (hbt.mono HBa.out.size); have hsz := HBa.out.size; replace ct : Cnt 7 := Cnt.mk _; clear hb hbt ck ht ht0; obtain ⟨Wp, rfl⟩ : ∃ x, x = Wn := ⟨Wn, rfl⟩) | (have ck : Cnt 7 := ct; go_at_call 30; refine (dTwo _ _).mono ?_; rintro e Wn ⟨v, rfl, ht0, hb⟩; have ht := ht0 0 16390 (by rw [L2.out]; omega) (by rw [L2.out]; omega) (by omega); obtain ⟨nb, Ab, kb, cb, pb, rfl⟩ := ht.form; have hbt : Below Wp.heap.size Wp Wn := (Below.trans (by repeat (first | (refine Below.drew ?_) | (refine Below.alloc ?_ (by first | omega | (simp <;> omega)) _) | (refine Below.setCell ?_ (by first | omega | (simp <;> omega)) _) | exact Below.refl _ _)) (hb.mono (by first | omega | (simp <;> omega)))); replace Ta : Hid (Tell Wn _ _ _ _ _) := Ta.out.below hbt; have Tb : Hid (Tell Wn 0 _ _ _ _) := (ht.base (Nat.zero_le _)); replace HBa : Hid (Below Wa.heap.size Wa Wn) := HBa.out.trans (hbt.mono HBa.out.size); have hsz := HBa.out.size; replace ct : Cnt 8 := Cnt.mk _; clear hb hbt ck ht ht0; obtain ⟨Wp, rfl⟩ : ∃ x, x = Wn := ⟨Wn, rfl⟩) | (have ck : Cnt 8 := ct; go_at_call 25; refine (dSame _ _ _ 0 0 16390 _ _ (Ta.out.below (by repeat (first | (refine Below.drew ?_) | (refine Below.alloc ?_ (by first | omega | (simp <;> omega)) _) | (refine Below.setCell ?_ (by first | omega | (simp <;> omega)) _) | exact Below.refl _ _))) (Tb.out.below (by repeat (first | (refine Below.drew ?_) | (refine Below.alloc ?_ (by first | omega | (simp <;> omega)) _) | (refine Below.setCell ?_ (by first | omega | (simp <;> omega)) _) | exact Below.refl _ _))) (by omega) (by omega)).mono ?_; rintro e Wn ⟨rfl, hb⟩; rw [D4.out]; have hbt : Below Wp.heap.size Wp Wn := (Below.trans (by repeat (first | (refine Below.drew ?_) | (refine Below.alloc ?_ (by first | omega | (simp <;> omega)) _) | (refine Below.setCell ?_ (by first | omega | (simp <;> omega)) _) | exact Below.refl _ _)) (hb.mono (by first | omega | (simp <;> omega)))); replace HBa : Hid (Below Wa.heap.size Wa Wn) := HBa.out.trans (hbt.mono HBa.out.size); have hsz := HBa.out.size; replace ct : Cnt 9 := Cnt.mk _; clear hb hbt ck; obtain ⟨Wp, rfl⟩ : ∃ x, x = Wn := ⟨Wn, rfl⟩) | (have ck : Cnt 9 := ct; go_at_call 30; refine (dTwo _ _).mono ?_; rintro e Wn ⟨v, rfl, ht0, hb⟩; have ht := ht0 16384 10 (by rw [L3.out]; omega) (by rw [L3.out]; omega) (by omega); obtain ⟨nc, Ac, kc, cc, pc, rfl⟩ := ht.form; have hbt : Below Wp.heap.size Wp Wn := (Below.trans (by repeat (first | (refine Below.drew ?_) | (refine Below.alloc ?_ (by first | omega | (simp <;> omega)) _) | (refine Below.setCell ?_ (by first | omega | (simp <;> omega)) _) | exact Below.refl _ _)) (hb.mono (by first | omega | (simp <;> omega)))); have Tc : Hid (Tell Wn 0 _ _ _ _) := (ht.base (Nat.zero_le _)); replace HBa : Hid (Below Wa.heap.size Wa Wn) := HBa.out.trans (hbt.mono HBa.out.size); have hsz := HBa.out.size; replace ct : Cnt 10 := Cnt.mk _; clear hb hbt ck ht ht0; obtain ⟨Wp, rfl⟩ : ∃ x, x = Wn := ⟨Wn, rfl⟩) | (have ck : Cnt 10 := ct; go_at_call 30; refine (dTwo _ _).mono ?_; rintro e Wn ⟨v, rfl, ht0, hb⟩; have ht := ht0 16384 10 (by rw [L4.out]; omega) (by rw [L4.out]; omega) (by omega); obtain ⟨nd, Ad, kd, cd, pd, rfl⟩ := ht.form; have hbt : Below Wp.heap.size Wp Wn := (Below.trans (by repeat (first | (refine Below.drew ?_) | (refine Below.alloc ?_ (by first | omega | (simp <;> omega)) _) | (refine Below.setCell ?_ (by first | omega | (simp <;> omega)) _) | exact Below.refl _ _)) (hb.mono (by first | omega | (simp <;> omega)))); replace Tc : Hid (Tell Wn _ _ _ _ _) := Tc.out.below hbt; have Td : Hid (Tell Wn 0 _ _ _ _) := (ht.base (Nat.zero_le _)); replace HBa : Hid (Below Wa.heap.size Wa Wn) := HBa.out.trans (hbt.mono HBa.out.size); have hsz := HBa.out.size; replace ct : Cnt 11 := Cnt.mk _; clear hb hbt ck ht ht0; obtain ⟨Wp, rfl⟩ : ∃ x, x = Wn := ⟨Wn, rfl⟩) | (have ck : Cnt 11 := ct; go_at_call 25; refine (dSame _ _ _ 0 16384 10 _ _ (Tc.out.below (by repeat (first | (refine Below.drew ?_) | (refine Below.alloc ?_ (by first | omega | (simp <;> omega)) _) | (refine Below.setCell ?_ (by first | omega | (simp <;> omega)) _) | exact Below.refl _ _))) (Td.out.below (by repeat (first | (refine Below.drew ?_) | (refine Below.alloc ?_ (by first | omega | (simp <;> omega)) _) | (refine Below.setCell ?_ (by first | omega | (simp <;> omega)) _) | exact Below.refl _ _))) (by omega) (by omega)).mono ?_; rintro e Wn ⟨rfl, hb⟩; rw [D5.out]; have hbt : Below Wp.heap.size Wp Wn := (Below.trans (by repeat (first | (refine Below.drew ?_) | (refine Below.alloc ?_ (by first | omega | (simp <;> omega)) _) | (refine Below.setCell ?_ (by first | omega | (simp <;> omega)) _) | exact Below.refl _ _)) (hb.mono (by first | omega | (simp <;> omega)))); replace HBa : Hid (Below Wa.heap.size Wa Wn) := HBa.out.trans (hbt.mono HBa.out.size); have hsz := HBa.out.size; replace ct : Cnt 12 := Cnt.mk _; clear hb hbt ck; obtain ⟨Wp, rfl⟩ : ∃ x, x = Wn := ⟨Wn, rfl⟩))
            go_wp2
            go_ret
            exact ⟨rfl, HWr.out.trans (HBa.out.mono HWr.out.size)⟩
      · obtain ⟨j, rfl⟩ : ∃ j, i = j + 1 := ⟨i - 1, by omega⟩
        rw [show (((j + 1 : Nat) : Int) - 1) = (j : Int) by omega]
        have j1 : (0 : Int) ≤ (j : Int) := by omega
        have j2 : (j : Int) ≤ 63 := by omega
        have HBIT : Hid (_ = _) := half_bit M j
        have an1 := and_1_u ((M : Int) / 2 ^ j)
        have eM : (M : Int) / 2 ^ j = ((M / 2 ^ j : Nat) : Int) := by rw [Int.natCast_ediv, Int.natCast_pow]; rfl
        by_cases hbit : M / 2 ^ j % 2 = 1
        · have an2 : bits .and .u64 ((M : Int) / 2 ^ j) 1 = 1 := by rw [an1, eM]; omega
          clear an1 eM
          go_wp2_with (first | (go_at_call 14; refine (dAdd _ _ _ 0 0 _ _ _ TY.out TY.out (by omega) (by omega) (by omega)).mono ?_; rintro e wq ⟨v, rfl, ht, hbq⟩; obtain ⟨nq, Aq, kq, cq, pq, rfl⟩ := ht.form; have TQ : Hid (Tell _ _ _ _ _ _) := ht; have BQ : Hid (BoxF wq _ _ _ _ _) := BF.out.below hbq; have HQ : Hid (Below (W1.heap.size + 1) (W1.alloc (.cells #[.bool nx, .slice Ax kx cx, .int .i64 px, .slice none 0 0] 38)) wq) := HB.out.trans (hbq.mono (by omega)); have hsq := hbq.size; obtain ⟨hcq, hfq⟩ := bcell hbq; clear hbq ht) | fail)
          have BE := BQ.out.put (.bool nq) (.slice Aq kq cq) (.int .i64 pq) (.slice none 0 0)
          have TE := (TQ.out.put (b := W1.heap.size + 1) lb (.bool nq) (.slice Aq kq cq) (.int .i64 pq) (.slice none 0 0)).base (Nat.zero_le _)
          have HE := below_put HQ.out (b := W1.heap.size + 1) (Nat.le_refl _) (.bool nq) (.slice Aq kq cq) (.int .i64 pq) (.slice none 0 0)
          generalize (((wq.setCell ⟨W1.heap.size + 1, 0, none⟩ (.bool nq)).setCell ⟨W1.heap.size + 1, 1, none⟩ (.slice Aq kq cq)).setCell ⟨W1.heap.size + 1, 2, none⟩ (.int .i64 pq)).setCell ⟨W1.heap.size + 1, 3, none⟩ (.slice none 0 0) = wE at BE TE HE ⊢
          have BE' : Hid (BoxF wE _ _ _ _ _) := BE
          have TE' : Hid (Tell wE _ _ _ _ _) := TE
          have HE' : Hid (Below _ _ wE) := HE
          obtain ⟨⟨e0, e1, e2, e3⟩, ⟨d0, d1, d2, d3⟩, le⟩ := BE
          clear TE HE BQ TQ HQ hcq hfq hsq k0 k1 k2 k3 f0 f1 f2 f3 BF TY HB lb
          go_region_with (first | (go_at_call 29; refine (dInt _ _ (by omega) (by omega)).mono ?_; rintro e wi ⟨v, rfl, ht, hbi⟩; obtain ⟨ni, Ai, ki, ci, pi, rfl⟩ := ht.form; have TI : Hid (Tell wi 0 _ _ _ _) := (ht.base (Nat.zero_le _)); replace hbi : Below wE.heap.size wE wi := ((Below.refl _ _).drew).trans hbi; have BI : Hid (BoxF wi _ _ _ _ _) := BE'.out.below hbi; have TF : Hid (Tell wi _ _ _ _ _) := TE'.out.below hbi; have HI : Hid (Below (W1.heap.size + 1) (W1.alloc (.cells #[.bool nx, .slice Ax kx cx, .int .i64 px, .slice none 0 0] 38)) wi) := HE'.out.trans (hbi.mono (by omega)); obtain ⟨hci, hfi⟩ := bcell hbi; have li := BI.out.2.2; clear hbi ht) | (go_at_call 14; refine (dAdd _ _ _ 0 0 _ _ _ TF.out (TI.out.wide _ (by omega)) (by omega) (by omega) (by omega)).mono ?_; rintro e wj ⟨v, rfl, ht, hbj⟩; obtain ⟨nj, Aj, kj, cj, pj, rfl⟩ := ht.form; have TJ : Hid (Tell wj _ _ _ _ _) := ht; have BJ : Hid (BoxF wj _ _ _ _ _) := BI.out.below hbj; have HJ : Hid (Below (W1.heap.size + 1) (W1.alloc (.cells #[.bool nx, .slice Ax kx cx, .int .i64 px, .slice none 0 0] 38)) wj) := HI.out.trans (hbj.mono (by omega)); obtain ⟨hcj, hfj⟩ := bcell hbj; have lj := BJ.out.2.2; clear hbj ht))
          all_goals
            go_wp2
            go_roundw
            case rel =>
              refine ⟨j, nj, Aj, kj, cj, pj, rfl, by omega, BJ.out.put _ _ _ _, ?_, below_put HJ.out (b := W1.heap.size + 1) (Nat.le_refl _) _ _ _ _⟩
              refine ((TJ.out.put (b := W1.heap.size + 1) li _ _ _ _).base (Nat.zero_le _)).wide _ (by omega) |>.eq ?_
              have := HBIT.out
              omega
            case measure => simp [intOf] <;> omega
        · have an2 : bits .and .u64 ((M : Int) / 2 ^ j) 1 = 0 := by rw [an1, eM]; omega
          clear an1 eM
          go_wp2_with (first | (go_at_call 14; refine (dAdd _ _ _ 0 0 _ _ _ TY.out TY.out (by omega) (by omega) (by omega)).mono ?_; rintro e wq ⟨v, rfl, ht, hbq⟩; obtain ⟨nq, Aq, kq, cq, pq, rfl⟩ := ht.form; have TQ : Hid (Tell _ _ _ _ _ _) := ht; have BQ : Hid (BoxF wq _ _ _ _ _) := BF.out.below hbq; have HQ : Hid (Below (W1.heap.size + 1) (W1.alloc (.cells #[.bool nx, .slice Ax kx cx, .int .i64 px, .slice none 0 0] 38)) wq) := HB.out.trans (hbq.mono (by omega)); have hsq := hbq.size; obtain ⟨hcq, hfq⟩ := bcell hbq; clear hbq ht) | fail)
          go_roundw
          case rel =>
            refine ⟨j, nq, Aq, kq, cq, pq, rfl, by omega, BQ.out.put _ _ _ _, ?_, below_put HQ.out (b := W1.heap.size + 1) (Nat.le_refl _) _ _ _ _⟩
            refine ((TQ.out.put (b := W1.heap.size + 1) lb _ _ _ _).base (Nat.zero_le _)).wide _ (by omega) |>.eq ?_
            have := HBIT.out
            omega
          case measure => simp [intOf] <;> omega

/-! ### THE ROW's STEP -/
set_option maxRecDepth 100000 in
theorem lifted (os : Os) (started : os.Started) (H : Type) (enc : TypeId × Value → H) :
    ReturnsInHanded {} Try.checked os 6 .any (Rows.dyadIntsSpec.pre6 enc Try.prog Try.f6 Rows.dyadIntsRow.domain false) (Rows.dyadIntsSpec.post enc Try.prog Try.f6 false true false false) := by
  refine returnsInHanded_of_change (C := Try.checked) own started (by kernel_rfl) Try.func6
    (ChangeSpec.witness6 (enc := enc) (C := Try.checked) false ⟨#[], #[.int .i64 0, .int .i64 0], []⟩ 8 (by kernel_rfl) (by kernel_rfl) (by kernel_rfl) (by kernel_rfl)) ?_
  intro W base args ds gs before hval0 hW hcnd _
  have hval : ∀ (j : Nat) t v, Try.f6.params[j]? = some t → args[j]? = some v → Value.okWide Try.prog W .any base t v := hval0
  have hW' := hW
  obtain ⟨p, q, hA0, hV, rfl, hfz, hnd⟩ := hW
  have hA : DataW.TrodAll enc Try.prog W 0 (fun _ => true) true Try.f6.params.toList args.toList ds p := hA0
  rw [Try.params6] at hA hval
  obtain ⟨v0, vs0, d0, ds0, p0, q0, hargs, rfl, rfl, h0, r0⟩ := trodAll_cons hA
  obtain ⟨v1, vs1, d1, ds1, p1, q1, rfl, rfl, rfl, h1, r1⟩ := trodAll_cons r0
  obtain ⟨rfl, rfl, rfl⟩ := trodAll_nil r1
  obtain rfl : args = #[v0, v1] := by cases args; simp_all
  obtain ⟨rfl, rfl⟩ := trodVars_none hV
  obtain ⟨a0, rfl, rfl, rfl, w0⟩ := open_int Try.underlying3 (hval 0 3 v0 rfl rfl) h0
  obtain ⟨a1, rfl, rfl, rfl, w1⟩ := open_int Try.underlying3 (hval 1 3 v1 rfl rfl) h1
  clear hA0 hval0
  refine (walk a0 a1 W w0 w1).mono fun e W' ⟨he, bel⟩ => ?_
  subst he
  exact ⟨_, rfl, _, _, _, [], _, [], hW', trodAll_mk1 (shut_bool Try.underlying4 _), (trodAll_cons_mk (shut_int Try.underlying3 w0) (trodAll_cons_mk (shut_int Try.underlying3 w1) trodAll_mk0)), rfl, bel.frame _, fun h => by cases h⟩

theorem over : Rows.dyadIntsRow.holds Try.pinned (OpenSpec.ofChange Rows.dyadIntsSpec) :=
  OpenClaim.holds_of_wide 6 Try.f6 rfl rfl rfl rfl rfl rfl rfl ⟨rfl, rfl, rfl, rfl, rfl⟩ rfl rfl rfl rfl rfl (by kernel_rfl) Try.func6 (by kernel_rfl)
    (of_decide_eq_true (by kernel_rfl)) (by unfold Func.isWrapper; first | (rw [if_pos (by decide +kernel)]; kernel_rfl) | (rw [if_neg (by decide +kernel)]; exact ⟨rfl, rfl⟩))
    (fun os started H enc _ => lifted os started H enc)

/-- THE STATEMENT -/
theorem proved : Rows.DyadIntsSaid :=
  over
#print axioms proved
end Go.Proofs.Ytgpgmnmifhkmbaa.dyadInts
