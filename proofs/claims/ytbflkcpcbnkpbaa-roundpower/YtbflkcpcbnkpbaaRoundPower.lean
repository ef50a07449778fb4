/-
  The law RoundPower returns true at every input, and leaves its arguments as they were. No conditions.
-/
import Derived.Test.YtbflkcpcbnkpbaaRows
import Derived.WalkKit
import Derived.ProofKit
import Derived.OpenShut
import Derived.Test.YtbflkcpcbnkpbaaRoundL
import Derived.Test.YtbflkcpcbnkpbaaPartM
import Derived.Lib.SmallJoins
import Derived.Below
namespace Go.Proofs.Ytbflkcpcbnkpbaa.roundPower
open Go.ChangeShapes Go.WideShapes Go.ChangeAt Go.RowKit
open Go.Joins (open_agg2 shut_agg2)
set_option linter.unusedVariables false

theorem own : ownKnob Try.prog.godebug = none := by kernel_rfl
theorem cells24 : Try.prog.cellsOf 24 = 2 := by kernel_rfl

theorem power_end (x n : Nat) (E : Int) (hx : x ≠ 0) (hE : -300 ≤ E) : 0 < numP x E ∧ numP x E ≤ 9218868437227405312 ∧ numP x (E + n) ≤ 9218868437227405312 ∧ (numP x E < 9218868437227405312 → numP x (E + n) < 9218868437227405312 → flagP x E = flagP x (E + n) ∧ numP x (E + n) = numP x E + n * 4503599627370496) := by
  have h0 : 0 < (bl x).length := (bl_length_lt x 0).2 (by rw [Nat.pow_zero]; omega)
  obtain ⟨p1, p2, p3⟩ := patP_power x n E (by omega) (by omega)
  have hp : 0 < patP x E := by
    have hl : -1074 < lastP x E := by unfold lastP; omega
    have := keptP_ge x E (by omega) hl
    unfold patP
    rw [if_neg hx]
    omega
  unfold numP flagP
  refine ⟨by omega, by omega, by omega, fun a b => ?_⟩
  rw [if_neg (show ¬ 9218868437227405312 ≤ patP x E by omega), if_neg (show ¬ 9218868437227405312 ≤ patP x (E + n) by omega), p2, p3]
  exact ⟨rfl, by omega⟩
theorem walk (a0h a0l : Int) (a1 : Int) (a2 : Int) (w : World) (w0h : (Lit.int .u64 a0h).wf = true) (w0l : (Lit.int .u64 a0l).wf = true) (w1 : (Lit.int .i64 a1).wf = true) (w2 : (Lit.int .i64 a2).wf = true) :
    Calls Try.prog 7 #[.agg #[.int .u64 a0h, .int .u64 a0l], .int .i64 a1, .int .i64 a2] w fun e w' => e = .returned (.bool true) ∧ Below w.heap.size w w' := by
  obtain ⟨h0, h1⟩ := bounds_u64 w0h
  obtain ⟨h2, h3⟩ := bounds_u64 w0l
  have h1' : a0h < 18446744073709551616 := by omega
  have h3' : a0l < 18446744073709551616 := by omega
  have m1 := and_511_i a1
  have m2 := and_255_i a2
  have e0 : 0 ≤ a1 % 512 := by omega
  have e1 : a1 % 512 < 512 := by omega
  have n0 : 0 ≤ a2 % 256 := by omega
  have n1 : a2 % 256 < 256 := by omega
  generalize a1 % 512 = E at *
  generalize hN : a2 % 256 = N at *
  clear hN
  obtain ⟨A, hA⟩ : ∃ A : Int, sgnB false + ((numR (wid a0h a0l) (clampE (E - 300)) false : Nat) : Int) = A := ⟨_, rfl⟩
  obtain ⟨B, hB⟩ : ∃ B : Int, sgnB false + ((numR (wid a0h a0l) (clampE (E - 300 + N)) false : Nat) : Int) = B := ⟨_, rfl⟩
  obtain ⟨F, hF⟩ : ∃ F : Int, ((flagR (wid a0h a0l) (clampE (E - 300)) false : Nat) : Int) = F := ⟨_, rfl⟩
  obtain ⟨G, hG⟩ : ∃ G : Int, ((flagR (wid a0h a0l) (clampE (E - 300 + N)) false : Nat) : Int) = G := ⟨_, rfl⟩
  have R : Hid (if wid a0h a0l = 0 then A = 0 ∧ B = 0 else 0 < A ∧ A ≤ 9218868437227405312 ∧ 0 ≤ B ∧ B ≤ 9218868437227405312 ∧ (A < 9218868437227405312 → B < 9218868437227405312 → F = G ∧ B = A + N * 4503599627370496)) := by
    show if _ then _ else _
    rw [← hA, ← hB, ← hF, ← hG, clampE_in _ (by omega) (by omega), clampE_in _ (by omega) (by omega), (numR_false _ _).1, (numR_false _ _).1, (numR_false _ _).2, (numR_false _ _).2, show sgnB false = 0 from rfl]
    by_cases hx : wid a0h a0l = 0
    · rw [if_pos hx, hx]
      have : ∀ e, numP 0 e = 0 := fun e => by unfold numP patP; rw [if_pos rfl]; omega
      rw [this, this]
      omega
    · rw [if_neg hx]
      obtain ⟨q1, q2, q3, q4⟩ := power_end (wid a0h a0l) N.toNat (E - 300) hx (by omega)
      rw [show E - 300 + ((N.toNat : Nat) : Int) = E - 300 + N by omega] at q3 q4
      refine ⟨by omega, by omega, by omega, by omega, fun a b => ?_⟩
      obtain ⟨q5, q6⟩ := q4 (by omega) (by omega)
      rw [q5, q6]
      exact ⟨rfl, by omega⟩
  have HA : Hid (_ = _) := hA
  have HB : Hid (_ = _) := hB
  have HF : Hid (_ = _) := hF
  have HG : Hid (_ = _) := hG
  clear hA hB hF hG
  go_enter Try.func7, Try.ntmps7
  go_wp2_with fail
  refine (rHead3 _).mono ?_
  rintro e w1 ⟨rfl, hb1⟩
  have f0 := hb1.cell (p := ⟨w.heap.size, 0, none⟩) (by simp)
  have f1 := hb1.cell (p := ⟨w.heap.size, 1, none⟩) (by simp)
  simp [go_sem] at f0 f1
  have hbw : Below w.heap.size w w1 := (bmore (Below.refl _ _) _).trans (hb1.mono (by simp))
  clear hb1
  go_wp2_with fail
  refine (pRound _ _ _ _ _ _ h0 h1' h2 h3').mono ?_
  rintro e w2 ⟨rfl, hb2⟩
  rw [HA.out, HF.out]
  have q0 := cell_later hb2 f0
  have q1 := cell_later hb2 f1
  have hbx := bstep hbw hb2
  clear hb2 f0 f1 hbw
  go_wp2_with fail
  refine (pRound _ _ _ _ _ _ h0 h1' h2 h3').mono ?_
  rintro e w3 ⟨rfl, hb3⟩
  rw [HB.out, HG.out]
  have r0 := cell_later hb3 q0
  have r1 := cell_later hb3 q1
  have hby := bstep hbx hb3
  clear hb3 q0 q1 hbx HA HB HF HG
  by_cases hx : wid a0h a0l = 0
  · have RR := R.out
    rw [if_pos hx] at RR
    obtain ⟨rfl, rfl⟩ := RR
    have HX : Hid (_ = _) := hx
    clear hx R
    go_wp2_with fail
    refine (finite_any _ _ (by omega) (by omega)).mono ?_
    rintro e w4 ⟨rfl, rfl⟩
    rw [show decide ((0 : Int) / 4503599627370496 % 2048 < 2047) = true by decide]
    go_wp2_with fail
    refine (finite_any _ _ (by omega) (by omega)).mono ?_
    rintro e w4 ⟨rfl, rfl⟩
    rw [show decide ((0 : Int) / 4503599627370496 % 2048 < 2047) = true by decide]
    go_wp2_with fail
    refine (wZero _ _ _ h0 h1' h2 h3').mono ?_
    rintro e w4 ⟨rfl, hb4⟩
    rw [show decide (wid a0h a0l = 0) = true from decide_eq_true HX.out]
    have s0 := cell_later hb4 r0
    have s1 := cell_later hb4 r1
    go_wp2_with fail
    refine (wZero _ _ _ h0 h1' h2 h3').mono ?_
    rintro e w5 ⟨rfl, hb5⟩
    rw [show decide (wid a0h a0l = 0) = true from decide_eq_true HX.out]
    go_wp2
    go_ret
    exact ⟨ret_eq rfl, bstep hby (bstep hb4 hb5)⟩
  · have RR := R.out
    rw [if_neg hx] at RR
    obtain ⟨t1, t2, t3, t4, t5⟩ := RR
    have HX : Hid (_ ≠ _) := hx
    have T5 : Hid (_ → _ → _) := t5
    clear hx R t5
    go_wp2_with fail
    refine (finite_any _ _ (by omega) (by omega)).mono ?_
    rintro e w4 ⟨rfl, rfl⟩
    by_cases ha : A < 9218868437227405312
    · rw [show decide (A / 4503599627370496 % 2048 < 2047) = true from decide_eq_true (by omega)]
      go_wp2_with fail
      refine (finite_any _ _ (by omega) (by omega)).mono ?_
      rintro e w4 ⟨rfl, rfl⟩
      by_cases hb : B < 9218868437227405312
      · rw [show decide (B / 4503599627370496 % 2048 < 2047) = true from decide_eq_true (by omega)]
        obtain ⟨rfl, v2⟩ := T5.out ha hb
        have V2 : Hid (_ = _) := v2
        have c1 : IntKind.u64.wrap N = N := by rw [IntKind.wrap_u64]; omega
        have c2 : IntKind.u64.wrap (N * 4503599627370496) = N * 4503599627370496 := by rw [IntKind.wrap_u64]; omega
        have c3 : IntKind.u64.wrap (B - A) = N * 4503599627370496 := by rw [IntKind.wrap_u64]; omega
        clear v2 T5
        go_wp2_with fail
        refine (wZero _ _ _ h0 h1' h2 h3').mono ?_
        rintro e w4 ⟨rfl, hb4⟩
        rw [show decide (wid a0h a0l = 0) = false from decide_eq_false HX.out]
        go_wp2
        go_ret
        refine ⟨ret_eq (bool_eq ?_), bstep hby hb4⟩
        simp
      · rw [show decide (B / 4503599627370496 % 2048 < 2047) = false from decide_eq_false (by omega)]
        go_wp2_with fail
        refine (wZero _ _ _ h0 h1' h2 h3').mono ?_
        rintro e w4 ⟨rfl, hb4⟩
        rw [show decide (wid a0h a0l = 0) = false from decide_eq_false HX.out]
        go_wp2
        go_ret
        refine ⟨ret_eq (bool_eq ?_), bstep hby hb4⟩
        simp; omega
    · rw [show decide (A / 4503599627370496 % 2048 < 2047) = false from decide_eq_false (by omega)]
      go_wp2_with fail
      refine (wZero _ _ _ h0 h1' h2 h3').mono ?_
      rintro e w4 ⟨rfl, hb4⟩
      rw [show decide (wid a0h a0l = 0) = false from decide_eq_false HX.out]
      go_wp2
      go_ret
      refine ⟨ret_eq (bool_eq ?_), bstep hby hb4⟩
      simp; omega

/-! ### THE ROW's STEP -/
set_option maxRecDepth 100000 in
theorem lifted (os : Os) (started : os.Started) (H : Type) (enc : TypeId × Value → H) :
    ReturnsInHanded {} Try.checked os 7 .any (Rows.roundPowerSpec.pre6 enc Try.prog Try.f7 Rows.roundPowerRow.domain false) (Rows.roundPowerSpec.post enc Try.prog Try.f7 false true false false) := by
  refine returnsInHanded_of_change (C := Try.checked) own started (by kernel_rfl) Try.func7
    (ChangeSpec.witness6 (enc := enc) (C := Try.checked) false ⟨#[], #[.agg #[.int .u64 0, .int .u64 0], .int .i64 0, .int .i64 0], []⟩ 8 (by kernel_rfl) (by kernel_rfl) (by kernel_rfl) (by kernel_rfl)) ?_
  intro W base args ds gs before hval0 hW hcnd _
  have hval : ∀ (j : Nat) t v, Try.f7.params[j]? = some t → args[j]? = some v → Value.okWide Try.prog W .any base t v := hval0
  have hW' := hW
  obtain ⟨p, q, hA0, hV, rfl, hfz, hnd⟩ := hW
  have hA : DataW.TrodAll enc Try.prog W 0 (fun _ => true) true Try.f7.params.toList args.toList ds p := hA0
  rw [Try.params7] at hA hval
  obtain ⟨v0, vs0, d0, ds0, p0, q0, hargs, rfl, rfl, h0, r0⟩ := trodAll_cons hA
  obtain ⟨v1, vs1, d1, ds1, p1, q1, rfl, rfl, rfl, h1, r1⟩ := trodAll_cons r0
  obtain ⟨v2, vs2, d2, ds2, p2, q2, rfl, rfl, rfl, h2, r2⟩ := trodAll_cons r1
  obtain ⟨rfl, rfl, rfl⟩ := trodAll_nil r2
  obtain rfl : args = #[v0, v1, v2] := by cases args; simp_all
  obtain ⟨rfl, rfl⟩ := trodVars_none hV
  obtain ⟨c00, c01, y00, y01, m0, rfl, rfl, rfl, hy00, hy01⟩ := open_agg2 Try.underlying24 (by kernel_rfl) cells24 (hval 0 24 v0 rfl rfl) h0
  obtain ⟨a0h, e00, rfl, w0h⟩ := DataW.trod_int Try.underlying22 hy00
  obtain ⟨a0l, e01, rfl, w0l⟩ := DataW.trod_int Try.underlying22 hy01
  simp at e00 e01
  subst e00 e01
  obtain ⟨a1, rfl, rfl, rfl, w1⟩ := open_int Try.underlying3 (hval 1 3 v1 rfl rfl) h1
  obtain ⟨a2, rfl, rfl, rfl, w2⟩ := open_int Try.underlying3 (hval 2 3 v2 rfl rfl) h2
  clear hA0 hval0
  have sr0 : ∀ (W' : World) (sp : Nat → Bool), DataW.Trod enc Try.prog W' 0 sp true 24 (.agg #[.int .u64 a0h, .int .u64 a0l]) (.agg [.lit (.int .u64 a0h), .lit (.int .u64 a0l)]) [] := fun W' sp =>
    shut_agg2 (y0 := (.lit (.int .u64 a0h), [])) (y1 := (.lit (.int .u64 a0l), [])) Try.underlying24 (by kernel_rfl) cells24 ⟨1, by simp [DataW.trod, Try.underlying22, w0h]⟩ ⟨1, by simp [DataW.trod, Try.underlying22, w0l]⟩
  refine (walk a0h a0l a1 a2 W w0h w0l w1 w2).mono fun e W' ⟨he, bel⟩ => ?_
  subst he
  exact ⟨_, rfl, _, _, _, [], _, [], hW', trodAll_mk1 (shut_bool Try.underlying4 _), (trodAll_cons_mk (sr0 _ _) (trodAll_cons_mk (shut_int Try.underlying3 w1) (trodAll_cons_mk (shut_int Try.underlying3 w2) trodAll_mk0))), rfl, bel.frame _, fun h => by cases h⟩

theorem over : Rows.roundPowerRow.holds Try.pinned (OpenSpec.ofChange Rows.roundPowerSpec) :=
  OpenClaim.holds_of_wide 7 Try.f7 rfl rfl rfl rfl rfl rfl rfl ⟨rfl, rfl, rfl, rfl, rfl⟩ rfl rfl rfl rfl rfl (by kernel_rfl) Try.func7 (by kernel_rfl)
    (of_decide_eq_true (by kernel_rfl)) (by unfold Func.isWrapper; first | (rw [if_pos (by decide +kernel)]; kernel_rfl) | (rw [if_neg (by decide +kernel)]; exact ⟨rfl, rfl⟩))
    (fun os started H enc _ => lifted os started H enc)

/-- THE STATEMENT -/
theorem proved : Rows.RoundPowerSaid :=
  over
#print axioms proved
end Go.Proofs.Ytbflkcpcbnkpbaa.roundPower
