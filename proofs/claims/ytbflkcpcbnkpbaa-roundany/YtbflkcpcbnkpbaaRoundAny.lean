/-
  The law RoundAny returns true at every input, and leaves its arguments as they were. No conditions.
-/
import Derived.Test.YtbflkcpcbnkpbaaRows
import Derived.WalkKit
import Derived.ProofKit
import Derived.OpenShut
import Derived.Deep.DeepCutAuto
import Derived.Test.YtbflkcpcbnkpbaaRoundL
import Derived.Lib.SmallJoins
import Derived.Below
namespace Go.Proofs.Ytbflkcpcbnkpbaa.roundAny
open Go.ChangeShapes Go.WideShapes Go.ChangeAt Go.RowKit
open Go.Joins (open_agg2 shut_agg2)
set_option linter.unusedVariables false

theorem own : ownKnob Try.prog.godebug = none := by kernel_rfl
theorem cells24 : Try.prog.cellsOf 24 = 2 := by kernel_rfl

theorem up_len' (x k n : Nat) (h : (bl x).length ≤ n) : (bl (2 ^ k * x)).length ≤ k + n := by
  rcases Nat.eq_zero_or_pos x with h0 | h0
  · subst h0; rw [Nat.mul_zero, bl_zero]; simp
  · rw [Nat.mul_comm, len_scale x k h0]; omega
theorem far_low (x : Nat) (e : Int) (more : Bool) (hx : x ≠ 0) (hlt : x < 2 ^ 128) (he : e < -1500) : numR x e more = 0 ∧ flagR x e more = 3 := by
  obtain ⟨r1, r2⟩ := round_num x e more (by omega)
  have hl : (bl x).length ≤ 128 := (bl_length_le x 128).2 hlt
  have hL : lastP x e = -1074 := by unfold lastP; omega
  rw [hL] at r1 r2
  obtain ⟨c, hc⟩ : ∃ c : Nat, (-1074 - e).toNat = c + 1 ∧ 128 ≤ c := ⟨(-1074 - e).toNat - 1, by omega, by omega⟩
  have hb : x < 2 ^ c := Nat.lt_of_lt_of_le hlt (Nat.pow_le_pow_right (by decide) hc.2)
  have hb1 : x < 2 ^ (c + 1) := Nat.lt_of_lt_of_le hlt (Nat.pow_le_pow_right (by decide) (by omega))
  have h1 : nearN x (-1074 - e) more = 0 := by
    unfold nearN
    rw [if_neg (by omega), hc.1, Nat.add_sub_cancel, Nat.div_eq_of_lt hb, Nat.div_eq_of_lt hb1, if_neg (by omega)]
  have h2 : inexN x (-1074 - e) more = true := by
    unfold inexN
    rw [if_neg (by omega), hc.1, Nat.add_sub_cancel, Nat.mod_eq_of_lt hb, decide_eq_true_eq]
    exact Or.inr (Or.inl hx)
  rw [h1, h2] at r2
  rw [h1] at r1
  rw [r1, r2, show ((-1074 : Int) + 1074).toNat = 0 from rfl, if_neg (by omega), if_pos rfl, if_pos (by omega)]
  exact ⟨by omega, rfl⟩
theorem far_high (x : Nat) (e : Int) (more : Bool) (hx : x ≠ 0) (he : 1500 < e) : numR x e more = 9218868437227405312 ∧ flagR x e more = 5 := by
  obtain ⟨r1, r2⟩ := round_num x e more (by omega)
  obtain ⟨b1, b2⟩ := near_bd x e more (by omega)
  have h0 : 0 < (bl x).length := (bl_length_lt x 0).2 (by rw [Nat.pow_zero]; omega)
  have hL : 1400 < lastP x e := by unfold lastP; omega
  have hP : 9218868437227405312 ≤ nearN x (lastP x e - e) more + (lastP x e + 1074).toNat * 4503599627370496 := by omega
  rw [r1, r2, if_pos hP]
  exact ⟨by omega, rfl⟩
theorem sgn_abs (neg : Bool) (n : Nat) (h : n < 9223372036854775808) : (sgnB neg + (n : Int)) % 9223372036854775808 = n ∧ decide (9223372036854775808 ≤ sgnB neg + (n : Int)) = neg ∧ 0 ≤ sgnB neg + (n : Int) ∧ sgnB neg + (n : Int) < 18446744073709551616 := by
  cases neg
  · refine ⟨?_, decide_eq_false ?_, ?_, ?_⟩ <;> simp only [sgnB] <;> simp <;> omega
  · refine ⟨?_, decide_eq_true ?_, ?_, ?_⟩ <;> simp only [sgnB] <;> simp <;> omega
set_option maxRecDepth 100000 in
set_option maxHeartbeats 2000000 in
theorem walk (a0 : Bool) (a1h a1l : Int) (a2 : Int) (a3 : Bool) (w : World) (w1h : (Lit.int .u64 a1h).wf = true) (w1l : (Lit.int .u64 a1l).wf = true) (w2 : (Lit.int .i64 a2).wf = true) :
    Calls Try.prog 3 #[.bool a0, .agg #[.int .u64 a1h, .int .u64 a1l], .int .i64 a2, .bool a3] w fun e w' => e = .returned (.bool true) ∧ Below w.heap.size w w' := by
  obtain ⟨h0, h1⟩ := bounds_u64 w1h
  obtain ⟨h2, h3⟩ := bounds_u64 w1l
  have h1' : a1h < 18446744073709551616 := by omega
  have h3' : a1l < 18446744073709551616 := by omega
  have hW := wid_lt a1h a1l h0 h1' h2 h3'
  obtain ⟨E, hE⟩ : ∃ E, clampE a2 = E := ⟨_, rfl⟩
  obtain ⟨hE0, hE1⟩ : -100000 ≤ E ∧ E ≤ 100000 := by rw [← hE]; exact clampE_bd a2
  have HE : Hid (_ = _) := hE
  have HW : Hid (_ < _) := hW
  clear hE hW
  go_enter Try.func3, Try.ntmps3
  go_wp2_with fail
  refine (rHead3 _).mono ?_
  rintro e w1 ⟨rfl, hb1⟩
  have f0 := hb1.cell (p := ⟨w.heap.size, 0, none⟩) (by simp)
  have f1 := hb1.cell (p := ⟨w.heap.size, 1, none⟩) (by simp)
  simp [go_sem] at f0 f1
  have hbw : Below w.heap.size w w1 := (bmore (Below.refl _ _) _).trans (hb1.mono (by simp))
  have hz0 : w.heap.size < w1.heap.size := by have := hb1.size; simp at this; omega
  clear hb1
  go_upto_region 3 with fail
  go_cut [9] (fun t wx => t = .int .i64 E ∧ wx = w1)
  case first =>
    by_cases c1 : a2 < -100000
    · go_wp2
      go_meet
      exact ⟨int_eq (by have := HE.out; unfold clampE at this; omega), rfl⟩
    · by_cases c2 : 100000 < a2
      · go_wp2
        go_meet
        exact ⟨int_eq (by have := HE.out; unfold clampE at this; omega), rfl⟩
      · go_wp2
        go_meet
        exact ⟨int_eq (by have := HE.out; unfold clampE at this; omega), rfl⟩
  case rest =>
    obtain ⟨rfl, rfl⟩ := hcut
    by_cases hfar : E < -1500 ∨ 1500 < E
    · by_cases hx : wid a1h a1l = 0
      · have D : Hid (decide (wid a1h a1l = 0) = true) := decide_eq_true hx
        obtain ⟨s1, s2, s3, s4⟩ := sgn_abs a0 0 (by omega)
        have N : Hid (sgnB a0 + ((numR (wid a1h a1l) E a3 : Nat) : Int) = sgnB a0 + ((0 : Nat) : Int) ∧ ((flagR (wid a1h a1l) E a3 : Nat) : Int) = if a3 then 3 else 0) := by
          show _ ∧ _
          unfold numR flagR
          rw [if_pos hx, if_pos hx]
          cases a3 <;> simp
        clear hx
        have S2 : Hid (_ = _) := s2
        have S1 : Hid (_ = _) := s1
        clear s1 s2
        generalize sgnB a0 + ((0 : Nat) : Int) = B at *
        rcases hfar with hfar | hfar
        all_goals
          cases a3
          all_goals
            go_wp2_with fail
            refine (pRound _ _ _ _ _ _ h0 h1' h2 h3').mono ?_
            rintro e w2 ⟨rfl, hb2⟩
            rw [HE.out, N.out.1, N.out.2]
            have q0 := cell_later hb2 f0
            have q1 := cell_later hb2 f1
            have hbx := bstep hbw hb2
            clear hb2
            go_wp2_with fail
            refine (wZero _ _ _ h0 h1' h2 h3').mono ?_
            rintro e w3 ⟨rfl, hb3⟩
            rw [D.out]
            have r0 := cell_later hb3 q0
            have r1 := cell_later hb3 q1
            have hby := bstep hbx hb3
            clear hb3 q0 q1
            first
              | (go_wp2_with (first | (go_at_call 19; refine (abs_any _ _ s3 s4).mono ?_; rintro e w' ⟨rfl, rfl⟩; rw [S1.out]) | (go_at_call 20; refine (neg_any _ _ s3 s4).mono ?_; rintro e w' ⟨rfl, rfl⟩; rw [S2.out]))
                 go_ret
                 refine ⟨ret_eq (bool_eq ?_), hby⟩
                 simp; done)
              | (go_wp2_with fail
                 refine (wZero _ _ _ h0 h1' h2 h3').mono ?_
                 rintro e w4 ⟨rfl, hb4⟩
                 rw [D.out]
                 have hbz := bstep hby hb4
                 clear hb4 r0 r1
                 go_wp2_with (first | (go_at_call 19; refine (abs_any _ _ s3 s4).mono ?_; rintro e w' ⟨rfl, rfl⟩; rw [S1.out]) | (go_at_call 20; refine (neg_any _ _ s3 s4).mono ?_; rintro e w' ⟨rfl, rfl⟩; rw [S2.out]))
                 go_ret
                 refine ⟨ret_eq (bool_eq ?_), hbz⟩
                 simp; done)
      · have D : Hid (decide (wid a1h a1l = 0) = false) := decide_eq_false hx
        have HX : Hid (_ ≠ _) := hx
        clear hx
        rcases hfar with hfar | hfar
        · obtain ⟨t1, t2⟩ := far_low (wid a1h a1l) E a3 HX.out HW.out hfar
          obtain ⟨s1, s2, s3, s4⟩ := sgn_abs a0 0 (by omega)
          have N : Hid (sgnB a0 + ((numR (wid a1h a1l) E a3 : Nat) : Int) = sgnB a0 + ((0 : Nat) : Int) ∧ ((flagR (wid a1h a1l) E a3 : Nat) : Int) = 3) := by
            rw [t1, t2]; exact ⟨rfl, rfl⟩
          have S2 : Hid (_ = _) := s2
          have S1 : Hid (_ = _) := s1
          clear s1 s2 t1 t2
          generalize sgnB a0 + ((0 : Nat) : Int) = B at *
          go_wp2_with fail
          refine (pRound _ _ _ _ _ _ h0 h1' h2 h3').mono ?_
          rintro e w2 ⟨rfl, hb2⟩
          rw [HE.out, N.out.1, N.out.2]
          have q0 := cell_later hb2 f0
          have q1 := cell_later hb2 f1
          have hbx := bstep hbw hb2
          clear hb2
          go_wp2_with fail
          refine (wZero _ _ _ h0 h1' h2 h3').mono ?_
          rintro e w3 ⟨rfl, hb3⟩
          rw [D.out]
          have hby := bstep hbx hb3
          clear hb3 q0 q1
          go_wp2_with (first | (go_at_call 19; refine (abs_any _ _ s3 s4).mono ?_; rintro e w' ⟨rfl, rfl⟩; rw [S1.out]) | (go_at_call 20; refine (neg_any _ _ s3 s4).mono ?_; rintro e w' ⟨rfl, rfl⟩; rw [S2.out]))
          go_ret
          refine ⟨ret_eq (bool_eq ?_), hby⟩
          simp
        · obtain ⟨t1, t2⟩ := far_high (wid a1h a1l) E a3 HX.out hfar
          obtain ⟨s1, s2, s3, s4⟩ := sgn_abs a0 9218868437227405312 (by omega)
          have N : Hid (sgnB a0 + ((numR (wid a1h a1l) E a3 : Nat) : Int) = sgnB a0 + ((9218868437227405312 : Nat) : Int) ∧ ((flagR (wid a1h a1l) E a3 : Nat) : Int) = 5) := by
            rw [t1, t2]; exact ⟨rfl, rfl⟩
          have S2 : Hid (_ = _) := s2
          have S1 : Hid (_ = _) := s1
          clear s1 s2 t1 t2
          generalize sgnB a0 + ((9218868437227405312 : Nat) : Int) = B at *
          go_wp2_with fail
          refine (pRound _ _ _ _ _ _ h0 h1' h2 h3').mono ?_
          rintro e w2 ⟨rfl, hb2⟩
          rw [HE.out, N.out.1, N.out.2]
          have q0 := cell_later hb2 f0
          have q1 := cell_later hb2 f1
          have hbx := bstep hbw hb2
          clear hb2
          go_wp2_with fail
          refine (wZero _ _ _ h0 h1' h2 h3').mono ?_
          rintro e w3 ⟨rfl, hb3⟩
          rw [D.out]
          have r0 := cell_later hb3 q0
          have r1 := cell_later hb3 q1
          have hby := bstep hbx hb3
          clear hb3 q0 q1
          go_wp2_with fail
          refine (wZero _ _ _ h0 h1' h2 h3').mono ?_
          rintro e w4 ⟨rfl, hb4⟩
          rw [D.out]
          have hbz := bstep hby hb4
          clear hb4 r0 r1
          go_wp2_with (first | (go_at_call 19; refine (abs_any _ _ s3 s4).mono ?_; rintro e w' ⟨rfl, rfl⟩; rw [S1.out]) | (go_at_call 20; refine (neg_any _ _ s3 s4).mono ?_; rintro e w' ⟨rfl, rfl⟩; rw [S2.out]))
          go_ret
          refine ⟨ret_eq (bool_eq ?_), hbz⟩
          simp
    · have hn1 : -1500 ≤ E := by omega
      have hn2 : E ≤ 1500 := by omega
      clear hfar
      have hff := flag_fit (wid a1h a1l) E a3
      obtain ⟨B, hB⟩ : ∃ B : Int, sgnB a0 + ((numR (wid a1h a1l) E a3 : Nat) : Int) = B := ⟨_, rfl⟩
      obtain ⟨F, hF⟩ : ∃ F : Nat, flagR (wid a1h a1l) E a3 = F := ⟨_, rfl⟩
      rw [hF] at hff
      have HB : Hid (_ = _) := hB
      have HF : Hid (_ = _) := hF
      have hlx : (bl (wid a1h a1l)).length ≤ 128 := (bl_length_le _ 128).2 HW.out
      have cF : IntKind.i64.wrap (F : Int) = F := by rw [IntKind.wrap_i64]; omega
      clear hB hF
      go_wp2_with fail
      refine (pRound _ _ _ _ _ _ h0 h1' h2 h3').mono ?_
      rintro e w2 ⟨rfl, hb2⟩
      rw [HE.out, HB.out, HF.out]
      have q0 := cell_later hb2 f0
      have q1 := cell_later hb2 f1
      have hbx := bstep hbw hb2
      have hz2 : w.heap.size < w2.heap.size := by have := hb2.size; omega
      clear hb2
      go_wp2_with fail
      refine (rList3 _ _ _ h0 h1' h2 h3').mono ?_
      rintro e w3 ⟨v3, rfl, own3, hb3⟩
      have r0 := cell_later hb3 q0
      have r1 := cell_later hb3 q1
      have hby := bstep hbx hb3
      have hz3 : w.heap.size < w3.heap.size := by have := hb3.size; omega
      clear hb3 q0 q1 f0 f1
      cases a3
      · go_wp2_with fail
        refine (r3Round _ _ _ _ _ _ own3.sees (bl_bin _) (by omega) (by omega) (by omega)).mono ?_
        rintro e w4 ⟨B4, F4, rfl, hB4, hF4, hb4⟩
        rw [val_bl, numM_false, ← (numR_false (wid a1h a1l) E).1, HB.out] at hB4
        rw [val_bl, flagM_false, ← (numR_false (wid a1h a1l) E).2, HF.out] at hF4
        subst hB4
        subst hF4
        have hbz := bstep hby hb4
        clear hb4
        go_wp2
        go_ret
        refine ⟨ret_eq (bool_eq ?_), bmore hbz _⟩
        simp
      · go_wp2_with fail
        refine (rUp _ _ _ _ own3.sees (bl_bin _) (by omega) (by omega)).mono ?_
        rintro e w4 ⟨v4, rfl, own4, hb4⟩
        have s0 := cell_later hb4 r0
        have s1 := cell_later hb4 r1
        have hbz := bstep hby hb4
        have hz4 : w.heap.size < w4.heap.size := by have := hb4.size; omega
        clear hb4 r0 r1
        rw [val_bl, show (200 : Int).toNat = 200 from rfl] at own4
        have hly : (bl (2 ^ 200 * wid a1h a1l)).length ≤ 200 + 128 := up_len' _ _ _ hlx
        have HX : Hid (wid a1h a1l ≠ 0 → ∀ B4 F4 : Int, B4 = sgnB a0 + ((numM (2 ^ 200 * wid a1h a1l) (E - 200) true : Nat) : Int) → F4 = ((flagM (2 ^ 200 * wid a1h a1l) (E - 200) true : Nat) : Int) → B4 = B ∧ F4 = F) := by
          intro hx B4 F4 hB4 hF4
          rw [hB4, hF4, Nat.mul_comm, ← (numR_ref (wid a1h a1l) E true hx).1, ← (numR_ref (wid a1h a1l) E true hx).2, HB.out, HF.out]
          exact ⟨rfl, rfl⟩
        generalize hY : 2 ^ 200 * wid a1h a1l = Y at *
        clear hY
        go_wp2_with fail
        refine (r3Round _ _ _ _ _ _ own4.sees (bl_bin _) (by omega) (by omega) (by omega)).mono ?_
        rintro e w5 ⟨B4, F4, rfl, hB4, hF4, hb5⟩
        rw [val_bl] at hB4 hF4
        have t0 := cell_later hb5 s0
        have t1 := cell_later hb5 s1
        have hz5 : w.heap.size < w5.heap.size := by have := hb5.size; omega
        have hb5' := bstep hbz hb5
        clear hb5 s0 s1
        have B4' : Hid (_ = _) := hB4
        have F4' : Hid (_ = _) := hF4
        clear hB4 hF4
        go_wp2_with fail
        refine (wZero _ _ _ h0 h1' h2 h3').mono ?_
        rintro e w6 ⟨rfl, hb6⟩
        have u0 := hb6.cell (p := ⟨w5.heap.size, 0, none⟩) (by simp)
        have u1 := hb6.cell (p := ⟨w5.heap.size, 1, none⟩) (by simp)
        simp [go_sem] at u0 u1
        have hb6' := bstep (bmore hb5' _) hb6
        clear hb6
        by_cases hx : wid a1h a1l = 0
        · rw [show decide (wid a1h a1l = 0) = true from decide_eq_true hx]
          obtain ⟨s1, s2, s3, s4⟩ := sgn_abs a0 0 (by omega)
          have N : B = sgnB a0 + ((0 : Nat) : Int) ∧ (F : Int) = 3 := by
            rw [← HB.out, ← HF.out]
            unfold numR flagR
            rw [if_pos hx, if_pos hx]
            simp
          obtain ⟨rfl, n2⟩ := N
          have N2 : Hid (_ = _) := n2
          clear n2 hx
          have S2 : Hid (_ = _) := s2
          have S1 : Hid (_ = _) := s1
          clear s1 s2 HX B4' F4'
          generalize sgnB a0 + ((0 : Nat) : Int) = B at *
          go_wp2_with (first | (go_at_call 19; refine (abs_any _ _ s3 s4).mono ?_; rintro e w' ⟨rfl, rfl⟩; rw [S1.out]) | (go_at_call 20; refine (neg_any _ _ s3 s4).mono ?_; rintro e w' ⟨rfl, rfl⟩; rw [S2.out]))
          go_ret
          refine ⟨ret_eq (bool_eq ?_), hb6'⟩
          simp [N2.out]
        · rw [show decide (wid a1h a1l = 0) = false from decide_eq_false hx]
          obtain ⟨rfl, rfl⟩ := HX.out hx B4 F4 B4'.out F4'.out
          clear hx HX B4' F4'
          go_wp2
          go_ret
          refine ⟨ret_eq (bool_eq ?_), hb6'⟩
          simp

/-! ### THE ROW's STEP -/
set_option maxRecDepth 100000 in
theorem lifted (os : Os) (started : os.Started) (H : Type) (enc : TypeId × Value → H) :
    ReturnsInHanded {} Try.checked os 3 .any (Rows.roundAnySpec.pre6 enc Try.prog Try.f3 Rows.roundAnyRow.domain false) (Rows.roundAnySpec.post enc Try.prog Try.f3 false true false false) := by
  refine returnsInHanded_of_change (C := Try.checked) own started (by kernel_rfl) Try.func3
    (ChangeSpec.witness6 (enc := enc) (C := Try.checked) false ⟨#[], #[.bool false, .agg #[.int .u64 0, .int .u64 0], .int .i64 0, .bool false], []⟩ 8 (by kernel_rfl) (by kernel_rfl) (by kernel_rfl) (by kernel_rfl)) ?_
  intro W base args ds gs before hval0 hW hcnd _
  have hval : ∀ (j : Nat) t v, Try.f3.params[j]? = some t → args[j]? = some v → Value.okWide Try.prog W .any base t v := hval0
  have hW' := hW
  obtain ⟨p, q, hA0, hV, rfl, hfz, hnd⟩ := hW
  have hA : DataW.TrodAll enc Try.prog W 0 (fun _ => true) true Try.f3.params.toList args.toList ds p := hA0
  rw [Try.params3] at hA hval
  obtain ⟨v0, vs0, d0, ds0, p0, q0, hargs, rfl, rfl, h0, r0⟩ := trodAll_cons hA
  obtain ⟨v1, vs1, d1, ds1, p1, q1, rfl, rfl, rfl, h1, r1⟩ := trodAll_cons r0
  obtain ⟨v2, vs2, d2, ds2, p2, q2, rfl, rfl, rfl, h2, r2⟩ := trodAll_cons r1
  obtain ⟨v3, vs3, d3, ds3, p3, q3, rfl, rfl, rfl, h3, r3⟩ := trodAll_cons r2
  obtain ⟨rfl, rfl, rfl⟩ := trodAll_nil r3
  obtain rfl : args = #[v0, v1, v2, v3] := by cases args; simp_all
  obtain ⟨rfl, rfl⟩ := trodVars_none hV
  obtain ⟨a0, rfl, rfl, rfl⟩ := open_bool Try.underlying4 (hval 0 4 v0 rfl rfl) h0
  obtain ⟨c10, c11, y10, y11, m1, rfl, rfl, rfl, hy10, hy11⟩ := open_agg2 Try.underlying24 (by kernel_rfl) cells24 (hval 1 24 v1 rfl rfl) h1
  obtain ⟨a1h, e10, rfl, w1h⟩ := DataW.trod_int Try.underlying22 hy10
  obtain ⟨a1l, e11, rfl, w1l⟩ := DataW.trod_int Try.underlying22 hy11
  simp at e10 e11
  subst e10 e11
  obtain ⟨a2, rfl, rfl, rfl, w2⟩ := open_int Try.underlying3 (hval 2 3 v2 rfl rfl) h2
  obtain ⟨a3, rfl, rfl, rfl⟩ := open_bool Try.underlying4 (hval 3 4 v3 rfl rfl) h3
  clear hA0 hval0
  have sr1 : ∀ (W' : World) (sp : Nat → Bool), DataW.Trod enc Try.prog W' 0 sp true 24 (.agg #[.int .u64 a1h, .int .u64 a1l]) (.agg [.lit (.int .u64 a1h), .lit (.int .u64 a1l)]) [] := fun W' sp =>
    shut_agg2 (y0 := (.lit (.int .u64 a1h), [])) (y1 := (.lit (.int .u64 a1l), [])) Try.underlying24 (by kernel_rfl) cells24 ⟨1, by simp [DataW.trod, Try.underlying22, w1h]⟩ ⟨1, by simp [DataW.trod, Try.underlying22, w1l]⟩
  refine (walk a0 a1h a1l a2 a3 W w1h w1l w2).mono fun e W' ⟨he, bel⟩ => ?_
  subst he
  exact ⟨_, rfl, _, _, _, [], _, [], hW', trodAll_mk1 (shut_bool Try.underlying4 _), (trodAll_cons_mk (shut_bool Try.underlying4 _) (trodAll_cons_mk (sr1 _ _) (trodAll_cons_mk (shut_int Try.underlying3 w2) (trodAll_cons_mk (shut_bool Try.underlying4 _) trodAll_mk0)))), rfl, bel.frame _, fun h => by cases h⟩

theorem over : Rows.roundAnyRow.holds Try.pinned (OpenSpec.ofChange Rows.roundAnySpec) :=
  OpenClaim.holds_of_wide 3 Try.f3 rfl rfl rfl rfl rfl rfl rfl ⟨rfl, rfl, rfl, rfl, rfl⟩ rfl rfl rfl rfl rfl (by kernel_rfl) Try.func3 (by kernel_rfl)
    (of_decide_eq_true (by kernel_rfl)) (by unfold Func.isWrapper; first | (rw [if_pos (by decide +kernel)]; kernel_rfl) | (rw [if_neg (by decide +kernel)]; exact ⟨rfl, rfl⟩))
    (fun os started H enc _ => lifted os started H enc)

/-- THE STATEMENT -/
theorem proved : Rows.RoundAnySaid :=
  over
#print axioms proved
end Go.Proofs.Ytbflkcpcbnkpbaa.roundAny
