/-
  The law SoftOrder returns true at every input, and leaves its arguments as they were. No conditions.
-/
import Derived.Test.YtbflkcpcbnkpbaaRows
import Derived.WalkKit
import Derived.ProofKit
import Derived.OpenShut
import Derived.Test.YtbflkcpcbnkpbaaSoftL
import Derived.Test.YtbflkcpcbnkpbaaLawM
import Derived.Lib.SmallJoins
import Derived.Below
namespace Go.Proofs.Ytbflkcpcbnkpbaa.softOrder
open Go.ChangeShapes Go.WideShapes Go.ChangeAt Go.RowKit
open Go.Joins (open_agg2 shut_agg2)
set_option linter.unusedVariables false

theorem own : ownKnob Try.prog.godebug = none := by kernel_rfl

theorem kKey (x : Int) (w : World) (h0 : 0 ≤ x) (h1 : x < 18446744073709551616) :
    Calls Try.prog 50 #[.int .u64 x] w fun e w' => e = .returned (.int .i64 (keyS x)) ∧ w' = w := by
  have m1 : (mag x : Int) = x % 9223372036854775808 := by unfold mag; omega
  obtain ⟨m, hm⟩ : ∃ m : Int, x % 9223372036854775808 = m := ⟨_, rfl⟩
  have m2 : 0 ≤ m ∧ m < 9223372036854775808 := by omega
  have wm : IntKind.i64.wrap m = m := by rw [IntKind.wrap_i64]; omega
  have wn : IntKind.i64.wrap (-m) = -m := by rw [IntKind.wrap_i64]; omega
  have MM : Hid (_ = _) := hm
  have M1 : Hid (_ = _) := m1
  by_cases hs : 9223372036854775808 ≤ x
  · have K : Hid (keyS x = -m) := by show _ = _; unfold keyS sgn; rw [decide_eq_true hs, if_pos rfl, m1, hm]
    clear m1 hm
    go_enter Try.func50, Try.ntmps50
    go_wp2_with (first | (go_at_call 20; refine (neg_any _ _ h0 h1).mono ?_; rintro e w' ⟨rfl, rfl⟩; rw [decide_eq_true hs]) | (go_at_call 19; refine (abs_any _ _ h0 h1).mono ?_; rintro e w' ⟨rfl, rfl⟩; rw [MM.out]))
    go_ret
    exact ⟨ret_eq (int_eq K.out.symm), rfl⟩
  · have K : Hid (keyS x = x) := by show _ = _; unfold keyS sgn; rw [decide_eq_false hs, if_neg (by simp), m1]; omega
    have wx : IntKind.i64.wrap x = x := by rw [IntKind.wrap_i64]; omega
    have HS : Hid (decide (9223372036854775808 ≤ x) = false) := decide_eq_false hs
    clear m1 hm
    go_enter Try.func50, Try.ntmps50
    go_wp2_with (go_at_call 20; refine (neg_any _ _ h0 h1).mono ?_; rintro e w' ⟨rfl, rfl⟩; rw [HS.out])
    go_ret
    exact ⟨ret_eq (int_eq K.out.symm), rfl⟩
set_option maxRecDepth 100000 in
set_option maxHeartbeats 2000000 in
theorem walk (a0 : Int) (a1 : Int) (a2 : Int) (w : World) (w0 : (Lit.int .u64 a0).wf = true) (w1 : (Lit.int .u64 a1).wf = true) (w2 : (Lit.int .u64 a2).wf = true) :
    Calls Try.prog 15 #[.int .u64 a0, .int .u64 a1, .int .u64 a2] w fun e w' => e = .returned (.bool true) ∧ Below w.heap.size w w' := by
  obtain ⟨h0, h1⟩ := bounds_u64 w0
  obtain ⟨g0, g1⟩ := bounds_u64 w1
  have h1' : a0 < 18446744073709551616 := by omega
  have g1' : a1 < 18446744073709551616 := by omega
  obtain ⟨k0, k1⟩ := bounds_u64 w2
  have k1' : a2 < 18446744073709551616 := by omega
  by_cases fa : a0 / 4503599627370496 % 2048 < 2047
  · have FA : Hid (decide (a0 / 4503599627370496 % 2048 < 2047) = true) := decide_eq_true fa
    by_cases fb : a1 / 4503599627370496 % 2048 < 2047
    · have FB : Hid (decide (a1 / 4503599627370496 % 2048 < 2047) = true) := decide_eq_true fb
      by_cases fc : a2 / 4503599627370496 % 2048 < 2047
      · have FC : Hid (decide (a2 / 4503599627370496 % 2048 < 2047) = true) := decide_eq_true fc
        have ma := (fin_mag a0).1 fa
        have mb := (fin_mag a1).1 fb
        have mc := (fin_mag a2).1 fc
        have c0 : 0 ≤ a2 % 9223372036854775808 := by omega
        have c1 : a2 % 9223372036854775808 < 18446744073709551616 := by omega
        have c2 : sgn (a2 % 9223372036854775808) = false := decide_eq_false (by omega)
        have c3 : mag (a2 % 9223372036854775808) < 9218868437227405312 := by unfold mag at mc ⊢; omega
        clear fa fb fc
        by_cases hk : keyS a1 < keyS a0
        all_goals
          go_enter Try.func15, Try.ntmps15
          go_wp2_with fail
          refine (rHead4 _).mono ?_
          rintro e w1 ⟨rfl, hbw1⟩
          go_wp2_with (first | (go_at_call_of 24 a0; refine (finite_any _ _ h0 h1').mono ?_; rintro e w' ⟨rfl, rfl⟩; rw [FA.out]) | (go_at_call_of 24 a1; refine (finite_any _ _ g0 g1').mono ?_; rintro e w' ⟨rfl, rfl⟩; rw [FB.out]) | (go_at_call_of 24 a2; refine (finite_any _ _ k0 k1').mono ?_; rintro e w' ⟨rfl, rfl⟩; rw [FC.out]) | fail)
          refine (kKey _ _ h0 h1').mono ?_
          rintro e w' ⟨rfl, rfl⟩
          go_wp2_with fail
          refine (kKey _ _ g0 g1').mono ?_
          rintro e w' ⟨rfl, rfl⟩
        · skip
          have oa := order_add a1 a0 a2 (by omega) mb ma mc
          have om := order_mul a1 a0 (a2 % 9223372036854775808) (by omega) c2 mb ma c3
          obtain ⟨x0, x1, x2, x3⟩ := addS_bd a1 a2 g0 g1' k0 k1'
          obtain ⟨y0, y1, y2, y3⟩ := addS_bd a0 a2 h0 h1' k0 k1'
          obtain ⟨p0, p1, p2, p3⟩ := mulS_bd a1 (a2 % 9223372036854775808)
          obtain ⟨q0, q1, q2, q3⟩ := mulS_bd a0 (a2 % 9223372036854775808)
          obtain ⟨X, hX⟩ : ∃ X, addS a1 a2 = X := ⟨_, rfl⟩
          obtain ⟨Y, hY⟩ : ∃ X, addS a0 a2 = X := ⟨_, rfl⟩
          obtain ⟨P, hP⟩ : ∃ X, mulS a1 (a2 % 9223372036854775808) = X := ⟨_, rfl⟩
          obtain ⟨Q, hQ⟩ : ∃ X, mulS a0 (a2 % 9223372036854775808) = X := ⟨_, rfl⟩
          rw [hX] at oa x0 x1
          rw [hY] at oa y0 y1
          rw [hP] at om p0 p1
          rw [hQ] at om q0 q1
          have HX : Hid (_ = _) := hX
          have HY : Hid (_ = _) := hY
          have HP : Hid (_ = _) := hP
          have HQ : Hid (_ = _) := hQ
          clear hX hY hP hQ x2 x3 y2 y3 p2 p3 q2 q3
          obtain ⟨x, xf⟩ := X
          obtain ⟨y, yf⟩ := Y
          obtain ⟨p, pf⟩ := P
          obtain ⟨q, qf⟩ := Q
          simp only at oa om x0 x1 y0 y1 p0 p1 q0 q1
          go_wp2_with fail
          refine (pAdd _ _ _ g0 g1' k0 k1').mono ?_
          rintro e w2 ⟨rfl, hb⟩
          rw [HX.out]
          have hbw2 := bstep hbw1 hb
          clear hb hbw1
          go_wp2_with fail
          refine (pAdd _ _ _ h0 h1' k0 k1').mono ?_
          rintro e w3 ⟨rfl, hb⟩
          rw [HY.out]
          have hbw3 := bstep hbw2 hb
          clear hb hbw2
          go_wp2_with fail
          refine (abs_any _ _ k0 k1').mono ?_
          rintro e w' ⟨rfl, rfl⟩
          go_wp2_with fail
          refine (pMul _ _ _ g0 g1' c0 c1).mono ?_
          rintro e w4 ⟨rfl, hb⟩
          rw [HP.out]
          have hbw4 := bstep hbw3 hb
          clear hb hbw3
          go_wp2_with fail
          refine (pMul _ _ _ h0 h1' c0 c1).mono ?_
          rintro e w5 ⟨rfl, hb⟩
          rw [HQ.out]
          have hbw5 := bstep hbw4 hb
          clear hb hbw4
          go_wp2_with fail
          refine (kKey _ _ x0 x1).mono ?_
          rintro e w' ⟨rfl, rfl⟩
          go_wp2_with fail
          refine (kKey _ _ y0 y1).mono ?_
          rintro e w' ⟨rfl, rfl⟩
          go_wp2_with fail
          refine (kKey _ _ p0 p1).mono ?_
          rintro e w' ⟨rfl, rfl⟩
          go_wp2_with fail
          refine (kKey _ _ q0 q1).mono ?_
          rintro e w' ⟨rfl, rfl⟩
          go_wp2
          go_ret
          refine ⟨ret_eq (bool_eq ?_), hbw5⟩
          simp <;> omega
        · skip
          have oa := order_add a0 a1 a2 (by omega) ma mb mc
          have om := order_mul a0 a1 (a2 % 9223372036854775808) (by omega) c2 ma mb c3
          obtain ⟨x0, x1, x2, x3⟩ := addS_bd a0 a2 h0 h1' k0 k1'
          obtain ⟨y0, y1, y2, y3⟩ := addS_bd a1 a2 g0 g1' k0 k1'
          obtain ⟨p0, p1, p2, p3⟩ := mulS_bd a0 (a2 % 9223372036854775808)
          obtain ⟨q0, q1, q2, q3⟩ := mulS_bd a1 (a2 % 9223372036854775808)
          obtain ⟨X, hX⟩ : ∃ X, addS a0 a2 = X := ⟨_, rfl⟩
          obtain ⟨Y, hY⟩ : ∃ X, addS a1 a2 = X := ⟨_, rfl⟩
          obtain ⟨P, hP⟩ : ∃ X, mulS a0 (a2 % 9223372036854775808) = X := ⟨_, rfl⟩
          obtain ⟨Q, hQ⟩ : ∃ X, mulS a1 (a2 % 9223372036854775808) = X := ⟨_, rfl⟩
          rw [hX] at oa x0 x1
          rw [hY] at oa y0 y1
          rw [hP] at om p0 p1
          rw [hQ] at om q0 q1
          have HX : Hid (_ = _) := hX
          have HY : Hid (_ = _) := hY
          have HP : Hid (_ = _) := hP
          have HQ : Hid (_ = _) := hQ
          clear hX hY hP hQ x2 x3 y2 y3 p2 p3 q2 q3
          obtain ⟨x, xf⟩ := X
          obtain ⟨y, yf⟩ := Y
          obtain ⟨p, pf⟩ := P
          obtain ⟨q, qf⟩ := Q
          simp only at oa om x0 x1 y0 y1 p0 p1 q0 q1
          go_wp2_with fail
          refine (pAdd _ _ _ h0 h1' k0 k1').mono ?_
          rintro e w2 ⟨rfl, hb⟩
          rw [HX.out]
          have hbw2 := bstep hbw1 hb
          clear hb hbw1
          go_wp2_with fail
          refine (pAdd _ _ _ g0 g1' k0 k1').mono ?_
          rintro e w3 ⟨rfl, hb⟩
          rw [HY.out]
          have hbw3 := bstep hbw2 hb
          clear hb hbw2
          go_wp2_with fail
          refine (abs_any _ _ k0 k1').mono ?_
          rintro e w' ⟨rfl, rfl⟩
          go_wp2_with fail
          refine (pMul _ _ _ h0 h1' c0 c1).mono ?_
          rintro e w4 ⟨rfl, hb⟩
          rw [HP.out]
          have hbw4 := bstep hbw3 hb
          clear hb hbw3
          go_wp2_with fail
          refine (pMul _ _ _ g0 g1' c0 c1).mono ?_
          rintro e w5 ⟨rfl, hb⟩
          rw [HQ.out]
          have hbw5 := bstep hbw4 hb
          clear hb hbw4
          go_wp2_with fail
          refine (kKey _ _ x0 x1).mono ?_
          rintro e w' ⟨rfl, rfl⟩
          go_wp2_with fail
          refine (kKey _ _ y0 y1).mono ?_
          rintro e w' ⟨rfl, rfl⟩
          go_wp2_with fail
          refine (kKey _ _ p0 p1).mono ?_
          rintro e w' ⟨rfl, rfl⟩
          go_wp2_with fail
          refine (kKey _ _ q0 q1).mono ?_
          rintro e w' ⟨rfl, rfl⟩
          go_wp2
          go_ret
          refine ⟨ret_eq (bool_eq ?_), hbw5⟩
          simp <;> omega
      · have FC : Hid (decide (a2 / 4503599627370496 % 2048 < 2047) = false) := decide_eq_false fc
        clear fa fb fc
        go_enter Try.func15, Try.ntmps15
        go_wp2_with fail
        refine (rHead4 _).mono ?_
        rintro e w1 ⟨rfl, hbw1⟩
        go_wp2_with (first | (go_at_call_of 24 a0; refine (finite_any _ _ h0 h1').mono ?_; rintro e w' ⟨rfl, rfl⟩; rw [FA.out]) | (go_at_call_of 24 a1; refine (finite_any _ _ g0 g1').mono ?_; rintro e w' ⟨rfl, rfl⟩; rw [FB.out]) | (go_at_call_of 24 a2; refine (finite_any _ _ k0 k1').mono ?_; rintro e w' ⟨rfl, rfl⟩; rw [FC.out]))
        go_ret
        exact ⟨ret_eq rfl, hbw1⟩
    · have FB : Hid (decide (a1 / 4503599627370496 % 2048 < 2047) = false) := decide_eq_false fb
      have FC : Hid (decide (a2 / 4503599627370496 % 2048 < 2047) = decide (a2 / 4503599627370496 % 2048 < 2047)) := rfl
      clear fa fb
      go_enter Try.func15, Try.ntmps15
      go_wp2_with fail
      refine (rHead4 _).mono ?_
      rintro e w1 ⟨rfl, hbw1⟩
      go_wp2_with (first | (go_at_call_of 24 a0; refine (finite_any _ _ h0 h1').mono ?_; rintro e w' ⟨rfl, rfl⟩; rw [FA.out]) | (go_at_call_of 24 a1; refine (finite_any _ _ g0 g1').mono ?_; rintro e w' ⟨rfl, rfl⟩; rw [FB.out]) | (go_at_call_of 24 a2; refine (finite_any _ _ k0 k1').mono ?_; rintro e w' ⟨rfl, rfl⟩; rw [FC.out]))
      go_ret
      exact ⟨ret_eq rfl, hbw1⟩
  · have FA : Hid (decide (a0 / 4503599627370496 % 2048 < 2047) = false) := decide_eq_false fa
    have FB : Hid (decide (a1 / 4503599627370496 % 2048 < 2047) = decide (a1 / 4503599627370496 % 2048 < 2047)) := rfl
    have FC : Hid (decide (a2 / 4503599627370496 % 2048 < 2047) = decide (a2 / 4503599627370496 % 2048 < 2047)) := rfl
    clear fa
    go_enter Try.func15, Try.ntmps15
    go_wp2_with fail
    refine (rHead4 _).mono ?_
    rintro e w1 ⟨rfl, hbw1⟩
    go_wp2_with (first | (go_at_call_of 24 a0; refine (finite_any _ _ h0 h1').mono ?_; rintro e w' ⟨rfl, rfl⟩; rw [FA.out]) | (go_at_call_of 24 a1; refine (finite_any _ _ g0 g1').mono ?_; rintro e w' ⟨rfl, rfl⟩; rw [FB.out]) | (go_at_call_of 24 a2; refine (finite_any _ _ k0 k1').mono ?_; rintro e w' ⟨rfl, rfl⟩; rw [FC.out]))
    go_ret
    exact ⟨ret_eq rfl, hbw1⟩

/-! ### THE ROW's STEP -/
set_option maxRecDepth 100000 in
theorem lifted (os : Os) (started : os.Started) (H : Type) (enc : TypeId × Value → H) :
    ReturnsInHanded {} Try.checked os 15 .any (Rows.softOrderSpec.pre6 enc Try.prog Try.f15 Rows.softOrderRow.domain false) (Rows.softOrderSpec.post enc Try.prog Try.f15 false true false false) := by
  refine returnsInHanded_of_change (C := Try.checked) own started (by kernel_rfl) Try.func15
    (ChangeSpec.witness6 (enc := enc) (C := Try.checked) false ⟨#[], #[.int .u64 0, .int .u64 0, .int .u64 0], []⟩ 8 (by kernel_rfl) (by kernel_rfl) (by kernel_rfl) (by kernel_rfl)) ?_
  intro W base args ds gs before hval0 hW hcnd _
  have hval : ∀ (j : Nat) t v, Try.f15.params[j]? = some t → args[j]? = some v → Value.okWide Try.prog W .any base t v := hval0
  have hW' := hW
  obtain ⟨p, q, hA0, hV, rfl, hfz, hnd⟩ := hW
  have hA : DataW.TrodAll enc Try.prog W 0 (fun _ => true) true Try.f15.params.toList args.toList ds p := hA0
  rw [Try.params15] at hA hval
  obtain ⟨v0, vs0, d0, ds0, p0, q0, hargs, rfl, rfl, h0, r0⟩ := trodAll_cons hA
  obtain ⟨v1, vs1, d1, ds1, p1, q1, rfl, rfl, rfl, h1, r1⟩ := trodAll_cons r0
  obtain ⟨v2, vs2, d2, ds2, p2, q2, rfl, rfl, rfl, h2, r2⟩ := trodAll_cons r1
  obtain ⟨rfl, rfl, rfl⟩ := trodAll_nil r2
  obtain rfl : args = #[v0, v1, v2] := by cases args; simp_all
  obtain ⟨rfl, rfl⟩ := trodVars_none hV
  obtain ⟨a0, rfl, rfl, rfl, w0⟩ := open_int Try.underlying22 (hval 0 22 v0 rfl rfl) h0
  obtain ⟨a1, rfl, rfl, rfl, w1⟩ := open_int Try.underlying22 (hval 1 22 v1 rfl rfl) h1
  obtain ⟨a2, rfl, rfl, rfl, w2⟩ := open_int Try.underlying22 (hval 2 22 v2 rfl rfl) h2
  clear hA0 hval0
  refine (walk a0 a1 a2 W w0 w1 w2).mono fun e W' ⟨he, bel⟩ => ?_
  subst he
  exact ⟨_, rfl, _, _, _, [], _, [], hW', trodAll_mk1 (shut_bool Try.underlying4 _), (trodAll_cons_mk (shut_int Try.underlying22 w0) (trodAll_cons_mk (shut_int Try.underlying22 w1) (trodAll_cons_mk (shut_int Try.underlying22 w2) trodAll_mk0))), rfl, bel.frame _, fun h => by cases h⟩

theorem over : Rows.softOrderRow.holds Try.pinned (OpenSpec.ofChange Rows.softOrderSpec) :=
  OpenClaim.holds_of_wide 15 Try.f15 rfl rfl rfl rfl rfl rfl rfl ⟨rfl, rfl, rfl, rfl, rfl⟩ rfl rfl rfl rfl rfl (by kernel_rfl) Try.func15 (by kernel_rfl)
    (of_decide_eq_true (by kernel_rfl)) (by unfold Func.isWrapper; first | (rw [if_pos (by decide +kernel)]; kernel_rfl) | (rw [if_neg (by decide +kernel)]; exact ⟨rfl, rfl⟩))
    (fun os started H enc _ => lifted os started H enc)

/-- THE STATEMENT -/
theorem proved : Rows.SoftOrderSaid :=
  over
#print axioms proved
end Go.Proofs.Ytbflkcpcbnkpbaa.softOrder
