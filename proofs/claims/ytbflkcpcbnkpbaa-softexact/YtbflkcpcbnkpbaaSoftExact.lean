/-
  The law SoftExact returns true at every input, and leaves its arguments as they were. No conditions.
-/
import Derived.Test.YtbflkcpcbnkpbaaRows
import Derived.WalkKit
import Derived.ProofKit
import Derived.OpenShut
import Derived.Test.YtbflkcpcbnkpbaaSoftL
import Derived.Test.YtbflkcpcbnkpbaaLawM
import Derived.Lib.SmallJoins
import Derived.Below
namespace Go.Proofs.Ytbflkcpcbnkpbaa.softExact
open Go.ChangeShapes Go.WideShapes Go.ChangeAt Go.RowKit
open Go.Joins (open_agg2 shut_agg2)
set_option linter.unusedVariables false

theorem own : ownKnob Try.prog.godebug = none := by kernel_rfl

set_option maxRecDepth 100000 in
set_option maxHeartbeats 2000000 in
theorem walk (a0 : Int) (a1 : Int) (w : World) (w0 : (Lit.int .u64 a0).wf = true) (w1 : (Lit.int .u64 a1).wf = true) :
    Calls Try.prog 13 #[.int .u64 a0, .int .u64 a1] w fun e w' => e = .returned (.bool true) ∧ Below w.heap.size w w' := by
  obtain ⟨h0, h1⟩ := bounds_u64 w0
  obtain ⟨g0, g1⟩ := bounds_u64 w1
  have h1' : a0 < 18446744073709551616 := by omega
  have g1' : a1 < 18446744073709551616 := by omega
  obtain ⟨sa, hsa⟩ : ∃ x, sgn a0 = x := ⟨_, rfl⟩
  obtain ⟨sb, hsb⟩ : ∃ x, sgn a1 = x := ⟨_, rfl⟩
  have SA : Hid (decide (9223372036854775808 ≤ a0) = sa) := hsa
  have SB : Hid (decide (9223372036854775808 ≤ a1) = sb) := hsb
  have mA : (mag a0 : Int) = a0 % 9223372036854775808 := by unfold mag; omega
  have mB : (mag a1 : Int) = a1 % 9223372036854775808 := by unfold mag; omega
  by_cases fa : a0 / 4503599627370496 % 2048 < 2047
  · have FA : Hid (decide (a0 / 4503599627370496 % 2048 < 2047) = true) := decide_eq_true fa
    by_cases fb : a1 / 4503599627370496 % 2048 < 2047
    · have FB : Hid (decide (a1 / 4503599627370496 % 2048 < 2047) = true) := decide_eq_true fb
      by_cases hs : sa = sb
      · have hss : sgn a0 = sgn a1 := by rw [hsa, hsb, hs]
        have maF := (fin_mag a0).1 fa
        have mbF := (fin_mag a1).1 fb
        obtain ⟨ma, hma⟩ : ∃ m : Int, a0 % 9223372036854775808 = m := ⟨_, rfl⟩
        obtain ⟨mb, hmb⟩ : ∃ m : Int, a1 % 9223372036854775808 = m := ⟨_, rfl⟩
        have MA : Hid (_ = _) := hma
        have MB : Hid (_ = _) := hmb
        rw [hma] at mA
        rw [hmb] at mB
        subst hs
        clear hsa hsb hma hmb fa fb
        by_cases hlt : ma < mb
        · skip
          have hle : mag a0 ≤ mag a1 := by omega
          have ex := exact_sub a1 a0 g0 g1' h0 h1' mbF maF hss.symm hle
          obtain ⟨b0, b1, b2, b3⟩ := addS_bd a0 a0 h0 h1' h0 h1'
          obtain ⟨T, hT⟩ : ∃ T, addS a0 a0 = T := ⟨_, rfl⟩
          rw [hT] at ex b0 b1 b2 b3
          have HT : Hid (_ = _) := hT
          clear hT
          obtain ⟨t, tf⟩ := T
          simp only at ex b0 b1 b2 b3
          have EX : Hid (_ → _ → _) := ex
          clear ex hle
          obtain ⟨mt, hmt⟩ : ∃ m, mag t = m := ⟨_, rfl⟩
          have MT : Hid (t % 9223372036854775808 = (mt : Int)) := by show _ = _; rw [← hmt]; unfold mag; omega
          have HMT : Hid (_ = _) := hmt
          clear hmt
          go_enter Try.func13, Try.ntmps13
          go_wp2_with fail
          refine (rHead4 _).mono ?_
          rintro e w1 ⟨rfl, hbw1⟩
          go_wp2_with (first | (go_at_call_of 24 a0; refine (finite_any _ _ h0 h1').mono ?_; rintro e w' ⟨rfl, rfl⟩; rw [FA.out]) | (go_at_call_of 24 a1; refine (finite_any _ _ g0 g1').mono ?_; rintro e w' ⟨rfl, rfl⟩; rw [FB.out]) | (go_at_call_of 20 a0; refine (neg_any _ _ h0 h1').mono ?_; rintro e w' ⟨rfl, rfl⟩; rw [SA.out]) | (go_at_call_of 20 a1; refine (neg_any _ _ g0 g1').mono ?_; rintro e w' ⟨rfl, rfl⟩; rw [SB.out]) | (go_at_call_of 19 a0; refine (abs_any _ _ h0 h1').mono ?_; rintro e w' ⟨rfl, rfl⟩; rw [MA.out]) | (go_at_call_of 19 a1; refine (abs_any _ _ g0 g1').mono ?_; rintro e w' ⟨rfl, rfl⟩; rw [MB.out]) | fail)
          refine (pAdd _ _ _ h0 h1' h0 h1').mono ?_
          rintro e w2 ⟨rfl, hb⟩
          rw [HT.out]
          have hbw2 := bstep hbw1 hb
          clear hb hbw1
          by_cases hz : tf = 0
          · by_cases hm : (mt : Int) < mb
            · subst hz
              go_wp2_with (first | (go_at_call_of 19 t; refine (abs_any _ _ b0 b1).mono ?_; rintro e w' ⟨rfl, rfl⟩; rw [MT.out]) | (go_at_call_of 19 a0; refine (abs_any _ _ h0 h1').mono ?_; rintro e w' ⟨rfl, rfl⟩; rw [MA.out]) | (go_at_call_of 19 a1; refine (abs_any _ _ g0 g1').mono ?_; rintro e w' ⟨rfl, rfl⟩; rw [MB.out]))
              go_ret
              exact ⟨ret_eq rfl, hbw2⟩
            · obtain ⟨e1, e2, e3, e4, e5⟩ := EX.out hz (by rw [HMT.out]; omega)
              subst hz
              obtain ⟨D, hD⟩ : ∃ D, addS a1 (wFlip a0) = D := ⟨_, rfl⟩
              rw [hD] at e1 e2 e3 e4 e5
              have HD : Hid (_ = _) := hD
              clear hD
              obtain ⟨d, df⟩ := D
              simp only at e1 e2 e3 e4 e5
              obtain ⟨x0, x1, x2, x3⟩ := addS_bd d a0 e3 e4 h0 h1'
              obtain ⟨X, hX⟩ : ∃ X, addS d a0 = X := ⟨_, rfl⟩
              rw [hX] at e2 e5 x0 x1 x2 x3
              have HX : Hid (_ = _) := hX
              clear hX EX
              obtain ⟨x, xf⟩ := X
              simp only at e2 e5 x0 x1 x2 x3
              subst e1
              subst e2
              have E5 : Hid (_ ∨ _) := e5
              clear e5
              go_wp2_with (first | (go_at_call_of 19 t; refine (abs_any _ _ b0 b1).mono ?_; rintro e w' ⟨rfl, rfl⟩; rw [MT.out]) | (go_at_call_of 19 a0; refine (abs_any _ _ h0 h1').mono ?_; rintro e w' ⟨rfl, rfl⟩; rw [MA.out]) | (go_at_call_of 19 a1; refine (abs_any _ _ g0 g1').mono ?_; rintro e w' ⟨rfl, rfl⟩; rw [MB.out]) | fail)
              refine (pSub _ _ _ g0 g1' h0 h1').mono ?_
              rintro e w3 ⟨rfl, hb⟩
              rw [HD.out]
              have hbw3 := bstep hbw2 hb
              clear hb hbw2
              go_wp2_with fail
              refine (pAdd _ _ _ e3 e4 h0 h1').mono ?_
              rintro e w4 ⟨rfl, hb⟩
              rw [HX.out]
              have hbw4 := bstep hbw3 hb
              clear hb hbw3
              by_cases hxa : x = a1
              · subst hxa
                go_wp2
                go_ret
                refine ⟨ret_eq (bool_eq ?_), hbw4⟩
                simp
              · have hz2 : mag x = 0 ∧ mag a1 = 0 := by
                  rcases E5.out with k | k
                  · exact absurd k hxa
                  · exact k
                have Z1 : Hid (x % 9223372036854775808 = 0) := by show _ = _; have := hz2.1; unfold mag at this; omega
                have Z2 : Hid (a1 % 9223372036854775808 = 0) := by show _ = _; have := hz2.2; unfold mag at this; omega
                have hxb : (x == a1) = false := by simpa using hxa
                clear hz2
                go_wp2_with (first | (go_at_call_of 19 x; refine (abs_any _ _ x0 x1).mono ?_; rintro e w' ⟨rfl, rfl⟩; rw [Z1.out]) | (go_at_call_of 19 a1; refine (abs_any _ _ g0 g1').mono ?_; rintro e w' ⟨rfl, rfl⟩; rw [Z2.out]))
                go_ret
                refine ⟨ret_eq (bool_eq ?_), hbw4⟩
                simp
          · have hzb : (tf != 0) = true := by simpa using hz
            go_wp2
            go_ret
            exact ⟨ret_eq rfl, hbw2⟩
        · skip
          have hle : mag a1 ≤ mag a0 := by omega
          have ex := exact_sub a0 a1 h0 h1' g0 g1' maF mbF hss hle
          obtain ⟨b0, b1, b2, b3⟩ := addS_bd a1 a1 g0 g1' g0 g1'
          obtain ⟨T, hT⟩ : ∃ T, addS a1 a1 = T := ⟨_, rfl⟩
          rw [hT] at ex b0 b1 b2 b3
          have HT : Hid (_ = _) := hT
          clear hT
          obtain ⟨t, tf⟩ := T
          simp only at ex b0 b1 b2 b3
          have EX : Hid (_ → _ → _) := ex
          clear ex hle
          obtain ⟨mt, hmt⟩ : ∃ m, mag t = m := ⟨_, rfl⟩
          have MT : Hid (t % 9223372036854775808 = (mt : Int)) := by show _ = _; rw [← hmt]; unfold mag; omega
          have HMT : Hid (_ = _) := hmt
          clear hmt
          go_enter Try.func13, Try.ntmps13
          go_wp2_with fail
          refine (rHead4 _).mono ?_
          rintro e w1 ⟨rfl, hbw1⟩
          go_wp2_with (first | (go_at_call_of 24 a0; refine (finite_any _ _ h0 h1').mono ?_; rintro e w' ⟨rfl, rfl⟩; rw [FA.out]) | (go_at_call_of 24 a1; refine (finite_any _ _ g0 g1').mono ?_; rintro e w' ⟨rfl, rfl⟩; rw [FB.out]) | (go_at_call_of 20 a0; refine (neg_any _ _ h0 h1').mono ?_; rintro e w' ⟨rfl, rfl⟩; rw [SA.out]) | (go_at_call_of 20 a1; refine (neg_any _ _ g0 g1').mono ?_; rintro e w' ⟨rfl, rfl⟩; rw [SB.out]) | (go_at_call_of 19 a0; refine (abs_any _ _ h0 h1').mono ?_; rintro e w' ⟨rfl, rfl⟩; rw [MA.out]) | (go_at_call_of 19 a1; refine (abs_any _ _ g0 g1').mono ?_; rintro e w' ⟨rfl, rfl⟩; rw [MB.out]) | fail)
          refine (pAdd _ _ _ g0 g1' g0 g1').mono ?_
          rintro e w2 ⟨rfl, hb⟩
          rw [HT.out]
          have hbw2 := bstep hbw1 hb
          clear hb hbw1
          by_cases hz : tf = 0
          · by_cases hm : (mt : Int) < ma
            · subst hz
              go_wp2_with (first | (go_at_call_of 19 t; refine (abs_any _ _ b0 b1).mono ?_; rintro e w' ⟨rfl, rfl⟩; rw [MT.out]) | (go_at_call_of 19 a0; refine (abs_any _ _ h0 h1').mono ?_; rintro e w' ⟨rfl, rfl⟩; rw [MA.out]) | (go_at_call_of 19 a1; refine (abs_any _ _ g0 g1').mono ?_; rintro e w' ⟨rfl, rfl⟩; rw [MB.out]))
              go_ret
              exact ⟨ret_eq rfl, hbw2⟩
            · obtain ⟨e1, e2, e3, e4, e5⟩ := EX.out hz (by rw [HMT.out]; omega)
              subst hz
              obtain ⟨D, hD⟩ : ∃ D, addS a0 (wFlip a1) = D := ⟨_, rfl⟩
              rw [hD] at e1 e2 e3 e4 e5
              have HD : Hid (_ = _) := hD
              clear hD
              obtain ⟨d, df⟩ := D
              simp only at e1 e2 e3 e4 e5
              obtain ⟨x0, x1, x2, x3⟩ := addS_bd d a1 e3 e4 g0 g1'
              obtain ⟨X, hX⟩ : ∃ X, addS d a1 = X := ⟨_, rfl⟩
              rw [hX] at e2 e5 x0 x1 x2 x3
              have HX : Hid (_ = _) := hX
              clear hX EX
              obtain ⟨x, xf⟩ := X
              simp only at e2 e5 x0 x1 x2 x3
              subst e1
              subst e2
              have E5 : Hid (_ ∨ _) := e5
              clear e5
              go_wp2_with (first | (go_at_call_of 19 t; refine (abs_any _ _ b0 b1).mono ?_; rintro e w' ⟨rfl, rfl⟩; rw [MT.out]) | (go_at_call_of 19 a0; refine (abs_any _ _ h0 h1').mono ?_; rintro e w' ⟨rfl, rfl⟩; rw [MA.out]) | (go_at_call_of 19 a1; refine (abs_any _ _ g0 g1').mono ?_; rintro e w' ⟨rfl, rfl⟩; rw [MB.out]) | fail)
              refine (pSub _ _ _ h0 h1' g0 g1').mono ?_
              rintro e w3 ⟨rfl, hb⟩
              rw [HD.out]
              have hbw3 := bstep hbw2 hb
              clear hb hbw2
              go_wp2_with fail
              refine (pAdd _ _ _ e3 e4 g0 g1').mono ?_
              rintro e w4 ⟨rfl, hb⟩
              rw [HX.out]
              have hbw4 := bstep hbw3 hb
              clear hb hbw3
              by_cases hxa : x = a0
              · subst hxa
                go_wp2
                go_ret
                refine ⟨ret_eq (bool_eq ?_), hbw4⟩
                simp
              · have hz2 : mag x = 0 ∧ mag a0 = 0 := by
                  rcases E5.out with k | k
                  · exact absurd k hxa
                  · exact k
                have Z1 : Hid (x % 9223372036854775808 = 0) := by show _ = _; have := hz2.1; unfold mag at this; omega
                have Z2 : Hid (a0 % 9223372036854775808 = 0) := by show _ = _; have := hz2.2; unfold mag at this; omega
                have hxb : (x == a0) = false := by simpa using hxa
                clear hz2
                go_wp2_with (first | (go_at_call_of 19 x; refine (abs_any _ _ x0 x1).mono ?_; rintro e w' ⟨rfl, rfl⟩; rw [Z1.out]) | (go_at_call_of 19 a0; refine (abs_any _ _ h0 h1').mono ?_; rintro e w' ⟨rfl, rfl⟩; rw [Z2.out]))
                go_ret
                refine ⟨ret_eq (bool_eq ?_), hbw4⟩
                simp
          · have hzb : (tf != 0) = true := by simpa using hz
            go_wp2
            go_ret
            exact ⟨ret_eq rfl, hbw2⟩
      · have hbn : (sa != sb) = true := by simpa using hs
        have hbe : (sa == sb) = false := by simpa using hs
        go_enter Try.func13, Try.ntmps13
        go_wp2_with fail
        refine (rHead4 _).mono ?_
        rintro e w1 ⟨rfl, hbw1⟩
        go_wp2_with (first | (go_at_call_of 24 a0; refine (finite_any _ _ h0 h1').mono ?_; rintro e w' ⟨rfl, rfl⟩; rw [FA.out]) | (go_at_call_of 24 a1; refine (finite_any _ _ g0 g1').mono ?_; rintro e w' ⟨rfl, rfl⟩; rw [FB.out]) | (go_at_call_of 20 a0; refine (neg_any _ _ h0 h1').mono ?_; rintro e w' ⟨rfl, rfl⟩; rw [SA.out]) | (go_at_call_of 20 a1; refine (neg_any _ _ g0 g1').mono ?_; rintro e w' ⟨rfl, rfl⟩; rw [SB.out]))
        go_ret
        exact ⟨ret_eq rfl, hbw1⟩
    · have FB : Hid (decide (a1 / 4503599627370496 % 2048 < 2047) = false) := decide_eq_false fb
      clear fa fb
      go_enter Try.func13, Try.ntmps13
      go_wp2_with fail
      refine (rHead4 _).mono ?_
      rintro e w1 ⟨rfl, hbw1⟩
      go_wp2_with (first | (go_at_call_of 24 a0; refine (finite_any _ _ h0 h1').mono ?_; rintro e w' ⟨rfl, rfl⟩; rw [FA.out]) | (go_at_call_of 24 a1; refine (finite_any _ _ g0 g1').mono ?_; rintro e w' ⟨rfl, rfl⟩; rw [FB.out]) | (go_at_call_of 20 a0; refine (neg_any _ _ h0 h1').mono ?_; rintro e w' ⟨rfl, rfl⟩; rw [SA.out]) | (go_at_call_of 20 a1; refine (neg_any _ _ g0 g1').mono ?_; rintro e w' ⟨rfl, rfl⟩; rw [SB.out]))
      go_ret
      exact ⟨ret_eq rfl, hbw1⟩
  · have FA : Hid (decide (a0 / 4503599627370496 % 2048 < 2047) = false) := decide_eq_false fa
    have FB : Hid (decide (a1 / 4503599627370496 % 2048 < 2047) = decide (a1 / 4503599627370496 % 2048 < 2047)) := rfl
    clear fa
    go_enter Try.func13, Try.ntmps13
    go_wp2_with fail
    refine (rHead4 _).mono ?_
    rintro e w1 ⟨rfl, hbw1⟩
    go_wp2_with (first | (go_at_call_of 24 a0; refine (finite_any _ _ h0 h1').mono ?_; rintro e w' ⟨rfl, rfl⟩; rw [FA.out]) | (go_at_call_of 24 a1; refine (finite_any _ _ g0 g1').mono ?_; rintro e w' ⟨rfl, rfl⟩; rw [FB.out]) | (go_at_call_of 20 a0; refine (neg_any _ _ h0 h1').mono ?_; rintro e w' ⟨rfl, rfl⟩; rw [SA.out]) | (go_at_call_of 20 a1; refine (neg_any _ _ g0 g1').mono ?_; rintro e w' ⟨rfl, rfl⟩; rw [SB.out]))
    go_ret
    exact ⟨ret_eq rfl, hbw1⟩

/-! ### THE ROW's STEP -/
set_option maxRecDepth 100000 in
theorem lifted (os : Os) (started : os.Started) (H : Type) (enc : TypeId × Value → H) :
    ReturnsInHanded {} Try.checked os 13 .any (Rows.softExactSpec.pre6 enc Try.prog Try.f13 Rows.softExactRow.domain false) (Rows.softExactSpec.post enc Try.prog Try.f13 false true false false) := by
  refine returnsInHanded_of_change (C := Try.checked) own started (by kernel_rfl) Try.func13
    (ChangeSpec.witness6 (enc := enc) (C := Try.checked) false ⟨#[], #[.int .u64 0, .int .u64 0], []⟩ 8 (by kernel_rfl) (by kernel_rfl) (by kernel_rfl) (by kernel_rfl)) ?_
  intro W base args ds gs before hval0 hW hcnd _
  have hval : ∀ (j : Nat) t v, Try.f13.params[j]? = some t → args[j]? = some v → Value.okWide Try.prog W .any base t v := hval0
  have hW' := hW
  obtain ⟨p, q, hA0, hV, rfl, hfz, hnd⟩ := hW
  have hA : DataW.TrodAll enc Try.prog W 0 (fun _ => true) true Try.f13.params.toList args.toList ds p := hA0
  rw [Try.params13] at hA hval
  obtain ⟨v0, vs0, d0, ds0, p0, q0, hargs, rfl, rfl, h0, r0⟩ := trodAll_cons hA
  obtain ⟨v1, vs1, d1, ds1, p1, q1, rfl, rfl, rfl, h1, r1⟩ := trodAll_cons r0
  obtain ⟨rfl, rfl, rfl⟩ := trodAll_nil r1
  obtain rfl : args = #[v0, v1] := by cases args; simp_all
  obtain ⟨rfl, rfl⟩ := trodVars_none hV
  obtain ⟨a0, rfl, rfl, rfl, w0⟩ := open_int Try.underlying22 (hval 0 22 v0 rfl rfl) h0
  obtain ⟨a1, rfl, rfl, rfl, w1⟩ := open_int Try.underlying22 (hval 1 22 v1 rfl rfl) h1
  clear hA0 hval0
  refine (walk a0 a1 W w0 w1).mono fun e W' ⟨he, bel⟩ => ?_
  subst he
  exact ⟨_, rfl, _, _, _, [], _, [], hW', trodAll_mk1 (shut_bool Try.underlying4 _), (trodAll_cons_mk (shut_int Try.underlying22 w0) (trodAll_cons_mk (shut_int Try.underlying22 w1) trodAll_mk0)), rfl, bel.frame _, fun h => by cases h⟩

theorem over : Rows.softExactRow.holds Try.pinned (OpenSpec.ofChange Rows.softExactSpec) :=
  OpenClaim.holds_of_wide 13 Try.f13 rfl rfl rfl rfl rfl rfl rfl ⟨rfl, rfl, rfl, rfl, rfl⟩ rfl rfl rfl rfl rfl (by kernel_rfl) Try.func13 (by kernel_rfl)
    (of_decide_eq_true (by kernel_rfl)) (by unfold Func.isWrapper; first | (rw [if_pos (by decide +kernel)]; kernel_rfl) | (rw [if_neg (by decide +kernel)]; exact ⟨rfl, rfl⟩))
    (fun os started H enc _ => lifted os started H enc)

/-- THE STATEMENT -/
theorem proved : Rows.SoftExactSaid :=
  over
#print axioms proved
end Go.Proofs.Ytbflkcpcbnkpbaa.softExact
