/-
  What is of the statements of layer 7 returns. Conditions: the list is one of bits, exponents and lengths are small.
-/
import Derived.Test.YtgpgmnmifhkmbaaDSumC
namespace Go.Proofs.Ytgpgmnmifhkmbaa
open Go.RowKit
set_option linter.unusedVariables false
set_option linter.unusedSimpArgs false

theorem nv_pos (xs : List Int) (e : Int) (k : Nat) : nv false (val xs) e k = (val xs : Int) * ((2 ^ (e + 64 * (k : Int)).toNat : Nat) : Int) := by
  unfold nv sg
  simp
theorem nv_neg (xs : List Int) (e : Int) (k : Nat) : nv true (val xs) e k = -((val xs : Int) * ((2 ^ (e + 64 * (k : Int)).toNat : Nat) : Int)) := by
  unfold nv sg
  simp
set_option maxHeartbeats 8000000 in
theorem lIs (n : Value) (neg : Bool) (mv : Value) (xs : List Int) (e : Int) (k : Nat) (L X : Int) (w : World) (hn : Tell w 0 n k L X) (hm : Sees w mv xs) (hx : Bin xs) (hl : xs.length ≤ 400) (hk : k ≤ 100) (hL0 : 0 ≤ L) (hL : L ≤ 100) (he : -(64 * (k : Int)) ≤ e) (he2 : e ≤ 1000) (hX : nv neg (val xs) e k = X) :
    Calls Try.prog 12 #[n, .agg #[.bool neg, mv, .int .i64 e]] w fun r w' => r = .returned (.bool true) ∧ Below w.heap.size w w' := by
  have HN : Hid (Tell w 0 n k L X) := hn
  have HX : Hid (nv neg (val xs) e k = X) := hX
  obtain ⟨nn, An, kn, cn, pn, rfl⟩ := hn.form
  obtain ⟨b, o, c, rfl, hb, hc, hmx, hcell⟩ := hm
  have HC : Hid (∀ i, i < xs.length → w.cell? ⟨b, o + i, none⟩ = some (.int .i64 (xs[i]?.getD 0))) := hcell
  unfold maxLen at hmx
  clear hn hX hcell
  go_enter Try.func12, Try.ntmps12
  go_wp2
  go_loopw [12] (fun iv wr => ∃ (i : Nat) (ny : Bool) (Ay : Option Addr) (ky cy : Nat) (py : Int), iv = .int .i64 (i : Int) ∧ i ≤ xs.length ∧ Hid (BoxF wr (w.heap.size + 2) (.bool ny) (.slice Ay ky cy) (.int .i64 py) (.slice none 0 0)) ∧ Hid (Tell wr 0 (.agg #[.bool ny, .slice Ay ky cy, .int .i64 py, .slice none 0 0]) k (30 + (i : Int)) ((val (xs.take i) : Int) * ((2 ^ (e + 64 * (k : Int)).toNat : Nat) : Int))) ∧ Hid (Below (w.heap.size + 2) ((w.alloc (.cells #[.bool nn, .slice An kn cn, .int .i64 pn, .slice none 0 0] 38)).alloc (.cells #[.bool neg, .slice (some ⟨b, o, none⟩) xs.length c, .int .i64 e] 28)) wr)) (fun iv _ => xs.length - (intOf iv).toNat)
  case atStart =>
    refine ⟨0, false, none, 0, 0, 0, rfl, Nat.zero_le _, ?_, ?_, ?_⟩
    · have := BoxF.made ((w.alloc (.cells #[.bool nn, .slice An kn cn, .int .i64 pn, .slice none 0 0] 38)).alloc (.cells #[.bool neg, .slice (some ⟨b, o, none⟩) xs.length c, .int .i64 e] 28)) (.bool false) (.slice none 0 0) (.int .i64 0) (.slice none 0 0) 38
      simp at this
      exact this
    · show Tell _ _ _ _ _ _
      rw [List.take_zero, val_nil, Int.natCast_zero, Int.zero_mul]
      exact Tell.zero _ _ _ _ _ (by omega)
    · exact (Below.refl _ _).alloc (by simp) _
  case round =>
    obtain ⟨i, ny, Ay, ky, cy, py, rfl, hi, BF, TY, HB⟩ := hrel
    have bf := BF.out
    obtain ⟨⟨k0, k1, k2, k3⟩, ⟨f0, f1, f2, f3⟩, lb⟩ := bf
    have z0 : w.heap.size < wr.heap.size := by omega
    have z1 : w.heap.size + 1 < wr.heap.size := by omega
    have q0 : wr.cell? ⟨w.heap.size + 1, 0, none⟩ = some (.bool neg) := (HB.out.cell (p := ⟨w.heap.size + 1, 0, none⟩) (by simp)).trans (by simp [go_sem])
    have q1 : wr.cell? ⟨w.heap.size + 1, 1, none⟩ = some (.slice (some ⟨b, o, none⟩) xs.length c) := (HB.out.cell (p := ⟨w.heap.size + 1, 1, none⟩) (by simp)).trans (by simp [go_sem])
    have q2 : wr.cell? ⟨w.heap.size + 1, 2, none⟩ = some (.int .i64 e) := (HB.out.cell (p := ⟨w.heap.size + 1, 2, none⟩) (by simp)).trans (by simp [go_sem])
    have n0 : wr.cell? ⟨w.heap.size, 0, none⟩ = some (.bool nn) := (HB.out.cell (p := ⟨w.heap.size, 0, none⟩) (by simp)).trans (by simp [go_sem])
    have n1 : wr.cell? ⟨w.heap.size, 1, none⟩ = some (.slice An kn cn) := (HB.out.cell (p := ⟨w.heap.size, 1, none⟩) (by simp)).trans (by simp [go_sem])
    have n2 : wr.cell? ⟨w.heap.size, 2, none⟩ = some (.int .i64 pn) := (HB.out.cell (p := ⟨w.heap.size, 2, none⟩) (by simp)).trans (by simp [go_sem])
    have n3 : wr.cell? ⟨w.heap.size, 3, none⟩ = some (.slice none 0 0) := (HB.out.cell (p := ⟨w.heap.size, 3, none⟩) (by simp)).trans (by simp [go_sem])
    have HW : Hid (Below w.heap.size w wr) := Below.trans (((Below.refl _ _).alloc (Nat.le_refl _) _).alloc (by simp) _) (HB.out.mono (by omega))
    have hci : i < xs.length → wr.cell? ⟨b, o + i, none⟩ = some (.int .i64 (xs[i]?.getD 0)) := fun h => (HW.out.cell (p := ⟨b, o + i, none⟩) hb).trans (HC.out i h)
    by_cases hlt : i < xs.length
    · have hg := hci hlt
      have CL : Hid (clampT (e + (i : Int)) = e + i) := by show _ = _; unfold clampT; omega
      have hwr : IntKind.i64.wrap (e + (i : Int)) = e + (i : Int) := by rw [IntKind.wrap_i64]; omega
      have hbit := hx.get i hlt
      have hlt' : (i : Int) < (xs.length : Int) := by omega
      rcases hbit with hbit | hbit
      · have hb0 : xs[i]?.getD 0 = 0 := by rw [List.getElem?_eq_getElem hlt]; exact hbit
        have VB : Hid (_ = _) := val_bit0 xs i hlt hb0
        rw [hb0] at hg
        clear hbit hb0 hci
        go_wp2_with fail
        go_roundw
        case rel => exact ⟨i + 1, ny, Ay, ky, cy, py, by go_num, by omega, BF, ((TY.out.wide _ (by omega)).eq (by rw [VB.out])), HB⟩
        case measure => simp [intOf] <;> omega
      · have hb0 : xs[i]?.getD 0 = 1 := by rw [List.getElem?_eq_getElem hlt]; exact hbit
        have VB : Hid (_ = _) := val_bit xs i hlt e k (by omega) hb0
        rw [hb0] at hg
        clear hbit hb0 hci
        go_wp2_with fail
        go_region_with (first | (go_at_call 30; refine (dTwo _ _).mono ?_; rintro r wi ⟨v, rfl, ht0, hbi⟩; have ht := ht0 k (30 + (i : Int)) (by rw [CL.out]; omega) (by rw [CL.out]; omega) (by omega); rw [CL.out] at ht; obtain ⟨ni, Ai, ki, ci, pi, rfl⟩ := ht.form; have TI : Hid (Tell wi 0 _ _ _ _) := (ht.base (Nat.zero_le _)); replace hbi : Below wr.heap.size wr wi := ((Below.refl _ _).drew).trans hbi; have BI : Hid (BoxF wi _ _ _ _ _) := BF.out.below hbi; have TF : Hid (Tell wi _ _ _ _ _) := TY.out.below hbi; have HI : Hid (Below (w.heap.size + 2) _ wi) := HB.out.trans (hbi.mono (by omega)); obtain ⟨hci, hfi⟩ := bcell hbi; have li := BI.out.2.2; clear hbi ht ht0) | (go_at_call 14; refine (dAdd _ _ _ 0 k _ _ _ TF.out TI.out (by omega) (by omega) (by omega)).mono ?_; rintro r wj ⟨v, rfl, ht, hbj⟩; obtain ⟨nj, Aj, kj, cj, pj, rfl⟩ := ht.form; have TJ : Hid (Tell wj _ _ _ _ _) := ht; have BJ : Hid (BoxF wj _ _ _ _ _) := BI.out.below hbj; have HJ : Hid (Below (w.heap.size + 2) _ wj) := HI.out.trans (hbj.mono (by omega)); obtain ⟨hcj, hfj⟩ := bcell hbj; have lj := BJ.out.2.2; clear hbj ht))
        all_goals
          go_wp2
          go_roundw
          case rel =>
            refine ⟨i + 1, nj, Aj, kj, cj, pj, by go_num, by omega, BJ.out.put _ _ _ _, ?_, below_put HJ.out (b := w.heap.size + 2) (Nat.le_refl _) _ _ _ _⟩
            exact (((TJ.out.put (b := w.heap.size + 2) li _ _ _ _).base (Nat.zero_le _)).wide _ (by omega)).eq VB.out
          case measure => simp [intOf] <;> omega
    · have hi' : i = xs.length := by omega
      have TY0 : Hid (Tell wr 0 _ k 500 ((val xs : Int) * ((2 ^ (e + 64 * (k : Int)).toNat : Nat) : Int))) := (TY.out.wide 500 (by omega)).eq (by rw [hi', List.take_length])
      have TN : Hid (Tell wr 0 _ k 500 X) := (HN.out.below HW.out).wide 500 (by omega)
      have hge : ¬ (i : Int) < (xs.length : Int) := by omega
      clear TY hci HC
      cases neg
      · have D : Hid (X = (val xs : Int) * ((2 ^ (e + 64 * (k : Int)).toNat : Nat) : Int)) := HX.out.symm.trans (nv_pos xs e k)
        clear HX
        generalize (val xs : Int) * ((2 ^ (e + 64 * (k : Int)).toNat : Nat) : Int) = Y at *
        have D1 : Hid (decide (X = Y) = true) := by show _ = _; rw [decide_eq_true_eq]; exact D.out
        have D2 : Hid (cmpZ (X - Y) 0 = 0) := by show _ = _; rw [D.out, Int.sub_self]; rfl
        go_wp2_with (first | (go_at_call 25; refine (dSame _ _ _ 0 k 500 X Y TN.out TY0.out (by omega) (by omega)).mono ?_; rintro r ws ⟨rfl, hbs⟩; rw [D1.out]; have TN' : Hid (Tell ws 0 _ _ _ _) := TN.out.below hbs; have TY' : Hid (Tell ws 0 _ _ _ _) := TY0.out.below hbs; obtain ⟨hcs, hfs⟩ := bcell hbs; have HS_ : Hid (Below w.heap.size w ws) := HW.out.trans (hbs.mono (by omega)); clear hbs) | (go_at_call 16; refine (dSub _ _ _ 0 k 500 X Y TN'.out TY'.out (by omega) (by omega) (by omega)).mono ?_; rintro r wt ⟨v, rfl, ht, hbt⟩; obtain ⟨nt_, At_, kt_, ct_, pt_, rfl⟩ := ht.form; have TT : Hid (Tell wt _ _ _ _ _) := ht; have HT_ : Hid (Below w.heap.size w wt) := HS_.out.trans (hbt.mono HS_.out.size); clear hbt ht) | (go_at_call 21; refine (dSign _ _ _ k _ _ TT.out).mono ?_; rintro r wu ⟨rfl, hbu⟩; rw [D2.out]; have HU_ : Hid (Below w.heap.size w wu) := HT_.out.trans (hbu.mono HT_.out.size); clear hbu))
        go_ret
        exact ⟨rfl, HU_.out⟩
      · have D : Hid (X = -((val xs : Int) * ((2 ^ (e + 64 * (k : Int)).toNat : Nat) : Int))) := HX.out.symm.trans (nv_neg xs e k)
        clear HX
        go_wp2_with (first | (go_at_call 28; refine (dNeg _ _ 0 k _ _ TY0.out (by omega) (by omega)).mono ?_; rintro r wq ⟨v, rfl, ht, hbq⟩; obtain ⟨nq_, Aq_, kq_, cq_, pq_, rfl⟩ := ht.form; have TQ : Hid (Tell _ _ _ _ _ _) := ht; have BQ : Hid (BoxF wq _ _ _ _ _) := BF.out.below hbq; have HQ : Hid (Below (w.heap.size + 2) _ wq) := HB.out.trans (hbq.mono (by omega)); have hsq := hbq.size; obtain ⟨hcq, hfq⟩ := bcell hbq; have TM : Hid (Tell wq 0 _ k 500 X) := TN.out.below hbq; clear hbq ht) | fail)
        have BQ' : BoxF wq (w.heap.size + 1 + 1) _ _ _ _ := BQ.out
        have lb' : w.heap.size + 1 + 1 < wr.heap.size := lb
        have BE := BQ'.put (.bool nq_) (.slice Aq_ kq_ cq_) (.int .i64 pq_) (.slice none 0 0)
        have TE := (TQ.out.put (b := w.heap.size + 1 + 1) lb' (.bool nq_) (.slice Aq_ kq_ cq_) (.int .i64 pq_) (.slice none 0 0)).base (Nat.zero_le _)
        have HE := below_put HQ.out (b := w.heap.size + 1 + 1) (Nat.le_refl _) (.bool nq_) (.slice Aq_ kq_ cq_) (.int .i64 pq_) (.slice none 0 0)
        generalize (((wq.setCell ⟨w.heap.size + 1 + 1, 0, none⟩ (.bool nq_)).setCell ⟨w.heap.size + 1 + 1, 1, none⟩ (.slice Aq_ kq_ cq_)).setCell ⟨w.heap.size + 1 + 1, 2, none⟩ (.int .i64 pq_)).setCell ⟨w.heap.size + 1 + 1, 3, none⟩ (.slice none 0 0) = wE at BE TE HE ⊢
        have TE' : Hid (Tell wE 0 _ k 500 _) := TE
        have HE' : Hid (Below _ _ wE) := HE
        obtain ⟨⟨e0, e1, e2, e3⟩, ⟨d0, d1, d2, d3⟩, le⟩ := BE
        have HWE : Hid (Below w.heap.size w wE) := Below.trans (((Below.refl _ _).alloc (Nat.le_refl _) _).alloc (by simp) _) (HE.mono (by omega))
        have TNE : Hid (Tell wE 0 _ k 500 X) := (HN.out.below HWE.out).wide 500 (by omega)
        clear TE HE BQ BQ' TQ HQ TM hcq hfq hsq k0 k1 k2 k3 f0 f1 f2 f3 BF TY0 TN HW HB lb lb' HN z0 z1 q0 q1 q2 n0 n1 n2 n3
        have z0 : w.heap.size < wE.heap.size := by omega
        have z1 : w.heap.size + 1 < wE.heap.size := by omega
        have n0 : wE.cell? ⟨w.heap.size, 0, none⟩ = some (.bool nn) := (HE'.out.cell (p := ⟨w.heap.size, 0, none⟩) (by simp)).trans (by simp [go_sem])
        have n1 : wE.cell? ⟨w.heap.size, 1, none⟩ = some (.slice An kn cn) := (HE'.out.cell (p := ⟨w.heap.size, 1, none⟩) (by simp)).trans (by simp [go_sem])
        have n2 : wE.cell? ⟨w.heap.size, 2, none⟩ = some (.int .i64 pn) := (HE'.out.cell (p := ⟨w.heap.size, 2, none⟩) (by simp)).trans (by simp [go_sem])
        have n3 : wE.cell? ⟨w.heap.size, 3, none⟩ = some (.slice none 0 0) := (HE'.out.cell (p := ⟨w.heap.size, 3, none⟩) (by simp)).trans (by simp [go_sem])
        clear HE'
        generalize -((val xs : Int) * ((2 ^ (e + 64 * (k : Int)).toNat : Nat) : Int)) = Y at *
        have D1 : Hid (decide (X = Y) = true) := by show _ = _; rw [decide_eq_true_eq]; exact D.out
        have D2 : Hid (cmpZ (X - Y) 0 = 0) := by show _ = _; rw [D.out, Int.sub_self]; rfl
        go_wp2_with (first | (go_at_call 25; refine (dSame _ _ _ 0 k 500 X Y TNE.out TE'.out (by omega) (by omega)).mono ?_; rintro r ws ⟨rfl, hbs⟩; rw [D1.out]; have TN' : Hid (Tell ws 0 _ _ _ _) := TNE.out.below hbs; have TY' : Hid (Tell ws 0 _ _ _ _) := TE'.out.below hbs; obtain ⟨hcs, hfs⟩ := bcell hbs; have HS_ : Hid (Below w.heap.size w ws) := HWE.out.trans (hbs.mono (by omega)); clear hbs) | (go_at_call 16; refine (dSub _ _ _ 0 k 500 X Y TN'.out TY'.out (by omega) (by omega) (by omega)).mono ?_; rintro r wt ⟨v, rfl, ht, hbt⟩; obtain ⟨nt_, At_, kt_, ct_, pt_, rfl⟩ := ht.form; have TT : Hid (Tell wt _ _ _ _ _) := ht; have HT_ : Hid (Below w.heap.size w wt) := HS_.out.trans (hbt.mono HS_.out.size); clear hbt ht) | (go_at_call 21; refine (dSign _ _ _ k _ _ TT.out).mono ?_; rintro r wu ⟨rfl, hbu⟩; rw [D2.out]; have HU_ : Hid (Below w.heap.size w wu) := HT_.out.trans (hbu.mono HT_.out.size); clear hbu))
        go_ret
        exact ⟨rfl, HU_.out⟩
end Go.Proofs.Ytgpgmnmifhkmbaa
