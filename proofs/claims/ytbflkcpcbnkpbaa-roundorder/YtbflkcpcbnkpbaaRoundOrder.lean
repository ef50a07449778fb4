/-
  The law RoundOrder returns true at every input, and leaves its arguments as they were. No conditions.
-/
import Derived.Test.YtbflkcpcbnkpbaaRows
import Derived.WalkKit
import Derived.ProofKit
import Derived.OpenShut
import Derived.Test.YtbflkcpcbnkpbaaRoundL
import Derived.Lib.SmallJoins
import Derived.Below
namespace Go.Proofs.Ytbflkcpcbnkpbaa.roundOrder
open Go.ChangeShapes Go.WideShapes Go.ChangeAt Go.RowKit
open Go.Joins (open_agg2 shut_agg2)
set_option linter.unusedVariables false

theorem own : ownKnob Try.prog.godebug = none := by kernel_rfl
theorem cells24 : Try.prog.cellsOf 24 = 2 := by kernel_rfl

theorem cmp_pos (m n : Nat) : 0 < cmpI m n ↔ n < m := by
  unfold cmpI; repeat' split
  all_goals omega
theorem order_end (x y : Nat) (e : Int) (h : x ≤ y) : sgnB false + ((numR x (clampE e) false : Nat) : Int) ≤ sgnB false + ((numR y (clampE e) false : Nat) : Int) ∧ wFlip (sgnB false + ((numR x (clampE e) false : Nat) : Int)) = sgnB true + ((numR x (clampE e) false : Nat) : Int) ∧ 0 ≤ sgnB false + ((numR x (clampE e) false : Nat) : Int) ∧ sgnB false + ((numR x (clampE e) false : Nat) : Int) < 18446744073709551616 := by
  rw [(numR_false _ _).1, (numR_false _ _).1]
  have := numP_mono x y (clampE e) h
  have h2 : numP x (clampE e) ≤ 9218868437227405312 := by unfold numP; omega
  unfold wFlip sgnB
  simp only [if_true, Bool.false_eq_true, if_false]
  omega
theorem walk (a0h a0l : Int) (a1h a1l : Int) (a2 : Int) (w : World) (w0h : (Lit.int .u64 a0h).wf = true) (w0l : (Lit.int .u64 a0l).wf = true) (w1h : (Lit.int .u64 a1h).wf = true) (w1l : (Lit.int .u64 a1l).wf = true) (w2 : (Lit.int .i64 a2).wf = true) :
    Calls Try.prog 5 #[.agg #[.int .u64 a0h, .int .u64 a0l], .agg #[.int .u64 a1h, .int .u64 a1l], .int .i64 a2] w fun e w' => e = .returned (.bool true) ∧ Below w.heap.size w w' := by
  obtain ⟨h0, h1⟩ := bounds_u64 w0h
  obtain ⟨h2, h3⟩ := bounds_u64 w0l
  obtain ⟨g0, g1⟩ := bounds_u64 w1h
  obtain ⟨g2, g3⟩ := bounds_u64 w1l
  have h1' : a0h < 18446744073709551616 := by omega
  have h3' : a0l < 18446744073709551616 := by omega
  have g1' : a1h < 18446744073709551616 := by omega
  have g3' : a1l < 18446744073709551616 := by omega
  by_cases hc : wid a1h a1l < wid a0h a0l
  · have HC : Hid (0 < cmpI (wid a0h a0l) (wid a1h a1l)) := (cmp_pos _ _).2 hc
    have OE : Hid (_ ∧ _ ∧ _ ∧ _) := order_end (wid a1h a1l) (wid a0h a0l) a2 (Nat.le_of_lt hc)
    clear hc
    go_enter Try.func5, Try.ntmps5
    go_wp2_with fail
    refine (rHead3 _).mono ?_
    rintro e w1 ⟨rfl, hb1⟩
    have f0 := hb1.cell (p := ⟨w.heap.size, 0, none⟩) (by simp; omega)
    have f1 := hb1.cell (p := ⟨w.heap.size, 1, none⟩) (by simp; omega)
    have f2 := hb1.cell (p := ⟨w.heap.size + 1, 0, none⟩) (by simp)
    have f3 := hb1.cell (p := ⟨w.heap.size + 1, 1, none⟩) (by simp)
    have z0 := hb1.frozen (p := ⟨w.heap.size, 0, none⟩) (by simp; omega)
    have z1 := hb1.frozen (p := ⟨w.heap.size, 1, none⟩) (by simp; omega)
    have z2 := hb1.frozen (p := ⟨w.heap.size + 1, 0, none⟩) (by simp)
    have z3 := hb1.frozen (p := ⟨w.heap.size + 1, 1, none⟩) (by simp)
    simp [go_sem] at f0 f1 f2 f3 z0 z1 z2 z3
    have hbw : Below w.heap.size w w1 := (bmore (bmore (Below.refl _ _) _) _).trans (hb1.mono (by simp; omega))
    have hz : w.heap.size + 1 < w1.heap.size := by have := hb1.size; simp at this; omega
    clear hb1
    go_wp2_with fail
    refine (wCmp _ _ _ _ _ h0 h1' h2 h3' g0 g1' g2 g3').mono ?_
    rintro e w2 ⟨rfl, hb2⟩
    have q0 := cell_later hb2 f0
    have q1 := cell_later hb2 f1
    have q2 := cell_later hb2 f2
    have q3 := cell_later hb2 f3
    have y0 := (hb2.frozen (p := ⟨w.heap.size, 0, none⟩) (by simp; omega)).trans z0
    have y1 := (hb2.frozen (p := ⟨w.heap.size, 1, none⟩) (by simp; omega)).trans z1
    have y2 := (hb2.frozen (p := ⟨w.heap.size + 1, 0, none⟩) (by simp; omega)).trans z2
    have y3 := (hb2.frozen (p := ⟨w.heap.size + 1, 1, none⟩) (by simp; omega)).trans z3
    have hz2 := hb2.size
    have hbx := bstep hbw hb2
    clear hb2 f0 f1 f2 f3 z0 z1 z2 z3 hbw
    obtain ⟨c, hcc⟩ : ∃ c, cmpI (wid a0h a0l) (wid a1h a1l) = c := ⟨_, rfl⟩
    rw [hcc]
    have hcp : 0 < c := by have := HC.out; rw [hcc] at this; omega
    clear hcc HC
    go_wp2_with fail
    refine (pRound _ _ _ _ _ _ g0 g1' g2 g3').mono ?_
    rintro e w3 ⟨rfl, hb3⟩
    have r0 := hb3.cell (p := ⟨w.heap.size, 0, none⟩) (by simp; omega)
    have r1 := hb3.cell (p := ⟨w.heap.size, 1, none⟩) (by simp; omega)
    have r2 := hb3.cell (p := ⟨w.heap.size + 1, 0, none⟩) (by simp; omega)
    have r3 := hb3.cell (p := ⟨w.heap.size + 1, 1, none⟩) (by simp; omega)
    simp [go_sem, q0, q1, q2, q3] at r0 r1 r2 r3
    have hby : Below w.heap.size w w3 := ((((hbx.setCell (by simp) _).setCell (by simp) _).setCell (by simp) _).setCell (by simp) _).trans (hb3.mono (by simp; omega))
    have hz3 : w2.heap.size ≤ w3.heap.size := by have := hb3.size; simp at this; omega
    clear hb3 q0 q1 q2 q3 y0 y1 y2 y3 hbx
    go_wp2_with fail
    refine (pRound _ _ _ _ _ _ h0 h1' h2 h3').mono ?_
    rintro e w4 ⟨rfl, hb4⟩
    have s0 := cell_later hb4 r0
    have s1 := cell_later hb4 r1
    have hbz := bstep hby hb4
    clear hb4 r0 r1 r2 r3 hby
    go_wp2_with fail
    refine (pRound _ _ _ _ _ _ g0 g1' g2 g3').mono ?_
    rintro e w5 ⟨rfl, hb5⟩
    have hb5' := bstep hbz hb5
    clear hb5 s0 s1
    obtain ⟨o1, o2, o3, o4⟩ := OE.out
    generalize sgnB true + ((numR (wid a1h a1l) (clampE a2) false : Nat) : Int) = Z at *
    generalize sgnB false + ((numR (wid a1h a1l) (clampE a2) false : Nat) : Int) = A at *
    generalize sgnB false + ((numR (wid a0h a0l) (clampE a2) false : Nat) : Int) = B at *
    clear OE
    go_wp2_with (go_at_call 28; refine (flip_any _ _ o3 o4).mono ?_; rintro e w' ⟨rfl, rfl⟩)
    go_ret
    refine ⟨ret_eq (bool_eq ?_), hb5'⟩
    simp
  · have HC : Hid (¬ 0 < cmpI (wid a0h a0l) (wid a1h a1l)) := fun k => hc ((cmp_pos _ _).1 k)
    have OE : Hid (_ ∧ _ ∧ _ ∧ _) := order_end (wid a0h a0l) (wid a1h a1l) a2 (by omega)
    clear hc
    go_enter Try.func5, Try.ntmps5
    go_wp2_with fail
    refine (rHead3 _).mono ?_
    rintro e w1 ⟨rfl, hb1⟩
    have f0 := hb1.cell (p := ⟨w.heap.size, 0, none⟩) (by simp; omega)
    have f1 := hb1.cell (p := ⟨w.heap.size, 1, none⟩) (by simp; omega)
    have f2 := hb1.cell (p := ⟨w.heap.size + 1, 0, none⟩) (by simp)
    have f3 := hb1.cell (p := ⟨w.heap.size + 1, 1, none⟩) (by simp)
    have z0 := hb1.frozen (p := ⟨w.heap.size, 0, none⟩) (by simp; omega)
    have z1 := hb1.frozen (p := ⟨w.heap.size, 1, none⟩) (by simp; omega)
    have z2 := hb1.frozen (p := ⟨w.heap.size + 1, 0, none⟩) (by simp)
    have z3 := hb1.frozen (p := ⟨w.heap.size + 1, 1, none⟩) (by simp)
    simp [go_sem] at f0 f1 f2 f3 z0 z1 z2 z3
    have hbw : Below w.heap.size w w1 := (bmore (bmore (Below.refl _ _) _) _).trans (hb1.mono (by simp; omega))
    have hz : w.heap.size + 1 < w1.heap.size := by have := hb1.size; simp at this; omega
    clear hb1
    go_wp2_with fail
    refine (wCmp _ _ _ _ _ h0 h1' h2 h3' g0 g1' g2 g3').mono ?_
    rintro e w2 ⟨rfl, hb2⟩
    have q0 := cell_later hb2 f0
    have q1 := cell_later hb2 f1
    have q2 := cell_later hb2 f2
    have q3 := cell_later hb2 f3
    have y0 := (hb2.frozen (p := ⟨w.heap.size, 0, none⟩) (by simp; omega)).trans z0
    have y1 := (hb2.frozen (p := ⟨w.heap.size, 1, none⟩) (by simp; omega)).trans z1
    have y2 := (hb2.frozen (p := ⟨w.heap.size + 1, 0, none⟩) (by simp; omega)).trans z2
    have y3 := (hb2.frozen (p := ⟨w.heap.size + 1, 1, none⟩) (by simp; omega)).trans z3
    have hz2 := hb2.size
    have hbx := bstep hbw hb2
    clear hb2 f0 f1 f2 f3 z0 z1 z2 z3 hbw
    obtain ⟨c, hcc⟩ : ∃ c, cmpI (wid a0h a0l) (wid a1h a1l) = c := ⟨_, rfl⟩
    rw [hcc]
    have hcp : c ≤ 0 := by have := HC.out; rw [hcc] at this; omega
    clear hcc HC
    go_wp2_with fail
    refine (pRound _ _ _ _ _ _ h0 h1' h2 h3').mono ?_
    rintro e w3 ⟨rfl, hb3⟩
    have r0 := cell_later hb3 q0
    have r1 := cell_later hb3 q1
    have r2 := cell_later hb3 q2
    have r3 := cell_later hb3 q3
    have hby := bstep hbx hb3
    have hz3 := hb3.size
    clear hb3 q0 q1 q2 q3 y0 y1 y2 y3 hbx
    go_wp2_with fail
    refine (pRound _ _ _ _ _ _ g0 g1' g2 g3').mono ?_
    rintro e w4 ⟨rfl, hb4⟩
    have s0 := cell_later hb4 r0
    have s1 := cell_later hb4 r1
    have hbz := bstep hby hb4
    clear hb4 r0 r1 r2 r3 hby
    go_wp2_with fail
    refine (pRound _ _ _ _ _ _ h0 h1' h2 h3').mono ?_
    rintro e w5 ⟨rfl, hb5⟩
    have hb5' := bstep hbz hb5
    clear hb5 s0 s1
    obtain ⟨o1, o2, o3, o4⟩ := OE.out
    generalize sgnB true + ((numR (wid a0h a0l) (clampE a2) false : Nat) : Int) = Z at *
    generalize sgnB false + ((numR (wid a0h a0l) (clampE a2) false : Nat) : Int) = A at *
    generalize sgnB false + ((numR (wid a1h a1l) (clampE a2) false : Nat) : Int) = B at *
    clear OE
    go_wp2_with (go_at_call 28; refine (flip_any _ _ o3 o4).mono ?_; rintro e w' ⟨rfl, rfl⟩)
    go_ret
    refine ⟨ret_eq (bool_eq ?_), hb5'⟩
    simp

/-! ### THE ROW's STEP -/
set_option maxRecDepth 100000 in
theorem lifted (os : Os) (started : os.Started) (H : Type) (enc : TypeId × Value → H) :
    ReturnsInHanded {} Try.checked os 5 .any (Rows.roundOrderSpec.pre6 enc Try.prog Try.f5 Rows.roundOrderRow.domain false) (Rows.roundOrderSpec.post enc Try.prog Try.f5 false true false false) := by
  refine returnsInHanded_of_change (C := Try.checked) own started (by kernel_rfl) Try.func5
    (ChangeSpec.witness6 (enc := enc) (C := Try.checked) false ⟨#[], #[.agg #[.int .u64 0, .int .u64 0], .agg #[.int .u64 0, .int .u64 0], .int .i64 0], []⟩ 8 (by kernel_rfl) (by kernel_rfl) (by kernel_rfl) (by kernel_rfl)) ?_
  intro W base args ds gs before hval0 hW hcnd _
  have hval : ∀ (j : Nat) t v, Try.f5.params[j]? = some t → args[j]? = some v → Value.okWide Try.prog W .any base t v := hval0
  have hW' := hW
  obtain ⟨p, q, hA0, hV, rfl, hfz, hnd⟩ := hW
  have hA : DataW.TrodAll enc Try.prog W 0 (fun _ => true) true Try.f5.params.toList args.toList ds p := hA0
  rw [Try.params5] at hA hval
  obtain ⟨v0, vs0, d0, ds0, p0, q0, hargs, rfl, rfl, h0, r0⟩ := trodAll_cons hA
  obtain ⟨v1, vs1, d1, ds1, p1, q1, rfl, rfl, rfl, h1, r1⟩ := trodAll_cons r0
  obtain ⟨v2, vs2, d2, ds2, p2, q2, rfl, rfl, rfl, h2, r2⟩ := trodAll_cons r1
  obtain ⟨rfl, rfl, rfl⟩ := trodAll_nil r2
  obtain rfl : args = #[v0, v1, v2] := by cases args; simp_all
  obtain ⟨rfl, rfl⟩ := trodVars_none hV
  obtain ⟨c00, c01, y00, y01, m0, rfl, rfl, rfl, hy00, hy01⟩ := open_agg2 Try.underlying24 (by kernel_rfl) cells24 (hval 0 24 v0 rfl rfl) h0
  obtain ⟨a0h, e00, rfl, w0h⟩ := DataW.trod_int Try.underlying22 hy00
  obtain ⟨a0l, e01, rfl, w0l⟩ := DataW.trod_int Try.underlying22 hy01
  simp at e00 e01
  subst e00 e01
  obtain ⟨c10, c11, y10, y11, m1, rfl, rfl, rfl, hy10, hy11⟩ := open_agg2 Try.underlying24 (by kernel_rfl) cells24 (hval 1 24 v1 rfl rfl) h1
  obtain ⟨a1h, e10, rfl, w1h⟩ := DataW.trod_int Try.underlying22 hy10
  obtain ⟨a1l, e11, rfl, w1l⟩ := DataW.trod_int Try.underlying22 hy11
  simp at e10 e11
  subst e10 e11
  obtain ⟨a2, rfl, rfl, rfl, w2⟩ := open_int Try.underlying3 (hval 2 3 v2 rfl rfl) h2
  clear hA0 hval0
  have sr0 : ∀ (W' : World) (sp : Nat → Bool), DataW.Trod enc Try.prog W' 0 sp true 24 (.agg #[.int .u64 a0h, .int .u64 a0l]) (.agg [.lit (.int .u64 a0h), .lit (.int .u64 a0l)]) [] := fun W' sp =>
    shut_agg2 (y0 := (.lit (.int .u64 a0h), [])) (y1 := (.lit (.int .u64 a0l), [])) Try.underlying24 (by kernel_rfl) cells24 ⟨1, by simp [DataW.trod, Try.underlying22, w0h]⟩ ⟨1, by simp [DataW.trod, Try.underlying22, w0l]⟩
  have sr1 : ∀ (W' : World) (sp : Nat → Bool), DataW.Trod enc Try.prog W' 0 sp true 24 (.agg #[.int .u64 a1h, .int .u64 a1l]) (.agg [.lit (.int .u64 a1h), .lit (.int .u64 a1l)]) [] := fun W' sp =>
    shut_agg2 (y0 := (.lit (.int .u64 a1h), [])) (y1 := (.lit (.int .u64 a1l), [])) Try.underlying24 (by kernel_rfl) cells24 ⟨1, by simp [DataW.trod, Try.underlying22, w1h]⟩ ⟨1, by simp [DataW.trod, Try.underlying22, w1l]⟩
  refine (walk a0h a0l a1h a1l a2 W w0h w0l w1h w1l w2).mono fun e W' ⟨he, bel⟩ => ?_
  subst he
  exact ⟨_, rfl, _, _, _, [], _, [], hW', trodAll_mk1 (shut_bool Try.underlying4 _), (trodAll_cons_mk (sr0 _ _) (trodAll_cons_mk (sr1 _ _) (trodAll_cons_mk (shut_int Try.underlying3 w2) trodAll_mk0))), rfl, bel.frame _, fun h => by cases h⟩

theorem over : Rows.roundOrderRow.holds Try.pinned (OpenSpec.ofChange Rows.roundOrderSpec) :=
  OpenClaim.holds_of_wide 5 Try.f5 rfl rfl rfl rfl rfl rfl rfl ⟨rfl, rfl, rfl, rfl, rfl⟩ rfl rfl rfl rfl rfl (by kernel_rfl) Try.func5 (by kernel_rfl)
    (of_decide_eq_true (by kernel_rfl)) (by unfold Func.isWrapper; first | (rw [if_pos (by decide +kernel)]; kernel_rfl) | (rw [if_neg (by decide +kernel)]; exact ⟨rfl, rfl⟩))
    (fun os started H enc _ => lifted os started H enc)

/-- THE STATEMENT -/
theorem proved : Rows.RoundOrderSaid :=
  over
#print axioms proved
end Go.Proofs.Ytbflkcpcbnkpbaa.roundOrder
