/-
  The law SoftLaws returns true at every input, and leaves its arguments as they were. No conditions.
-/
import Derived.Test.YtbflkcpcbnkpbaaRows
import Derived.WalkKit
import Derived.ProofKit
import Derived.OpenShut
import Derived.Test.YtbflkcpcbnkpbaaSoftL
import Derived.Test.YtbflkcpcbnkpbaaLawM
import Derived.Lib.SmallJoins
import Derived.Below
namespace Go.Proofs.Ytbflkcpcbnkpbaa.softLaws
open Go.ChangeShapes Go.WideShapes Go.ChangeAt Go.RowKit
open Go.Joins (open_agg2 shut_agg2)
set_option linter.unusedVariables false

theorem own : ownKnob Try.prog.godebug = none := by kernel_rfl

set_option maxRecDepth 100000 in
set_option maxHeartbeats 2000000 in
theorem walk (a0 : Int) (a1 : Int) (w : World) (w0 : (Lit.int .u64 a0).wf = true) (w1 : (Lit.int .u64 a1).wf = true) :
    Calls Try.prog 12 #[.int .u64 a0, .int .u64 a1] w fun e w' => e = .returned (.bool true) ∧ Below w.heap.size w w' := by
  obtain ⟨h0, h1⟩ := bounds_u64 w0
  obtain ⟨g0, g1⟩ := bounds_u64 w1
  have h1' : a0 < 18446744073709551616 := by omega
  have g1' : a1 < 18446744073709551616 := by omega
  obtain ⟨f0, f1⟩ := wFlip_bd a0
  obtain ⟨k0, k1⟩ := wFlip_bd a1
  have hor : bits .or .u8 0 0 = 0 := by decide
  obtain ⟨p0, p1, p2, p3⟩ := mulS_bd a0 a1
  obtain ⟨S, hS⟩ : ∃ S, addS a0 a1 = S := ⟨_, rfl⟩
  have hS2 : addS a1 a0 = S := by rw [addS_comm, hS]
  obtain ⟨P, hP⟩ : ∃ P, mulS a0 a1 = P := ⟨_, rfl⟩
  have hP2 : mulS a1 a0 = P := by rw [mulS_comm, hP]
  rw [hP] at p0 p1 p2 p3
  have fl := mul_flip a0 a1 g0 g1'
  rw [hP] at fl
  obtain ⟨x, f⟩ := S
  obtain ⟨p, h⟩ := P
  simp only at p0 p1 p2 p3 fl
  have FL : Hid (_ → _ → _) := fl
  have HS : Hid (_ = _) := hS
  have HS2 : Hid (_ = _) := hS2
  have HP : Hid (_ = _) := hP
  have HP2 : Hid (_ = _) := hP2
  clear hS hS2 hP hP2 fl
  go_enter Try.func12, Try.ntmps12
  go_wp2_with fail
  refine (rHead4 _).mono ?_
  rintro e w1 ⟨rfl, hbw1⟩
  go_wp2_with fail
  refine (pAdd _ _ _ h0 h1' g0 g1').mono ?_
  rintro e w2 ⟨rfl, hb⟩
  rw [HS.out]
  have hbw2 := bstep hbw1 hb
  clear hb hbw1
  go_wp2_with fail
  refine (pAdd _ _ _ g0 g1' h0 h1').mono ?_
  rintro e w3 ⟨rfl, hb⟩
  rw [HS2.out]
  have hbw3 := bstep hbw2 hb
  clear hb hbw2
  go_wp2_with fail
  refine (pMul _ _ _ h0 h1' g0 g1').mono ?_
  rintro e w4 ⟨rfl, hb⟩
  rw [HP.out]
  have hbw4 := bstep hbw3 hb
  clear hb hbw3
  go_wp2_with fail
  refine (pMul _ _ _ g0 g1' h0 h1').mono ?_
  rintro e w5 ⟨rfl, hb⟩
  rw [HP2.out]
  have hbw5 := bstep hbw4 hb
  clear hb hbw4
  go_wp2_with fail
  refine (finite_any _ _ h0 h1').mono ?_
  rintro e w' ⟨rfl, rfl⟩
  by_cases hf : a0 / 4503599627370496 % 2048 < 2047
  · rw [decide_eq_true hf]
    have ma := (fin_mag a0).1 hf
    have N1 := add_flip a0 h0 h1' ma
    obtain ⟨N, hN⟩ : ∃ N, addS a0 (wFlip a0) = N := ⟨_, rfl⟩
    rw [hN] at N1
    obtain ⟨n, nf⟩ := N
    simp only at N1
    subst N1
    have HN : Hid (_ = _) := hN
    have HM : Hid (_ = _) := mul_one' a0 h0 h1' ma
    have HD : Hid (_ = _) := div_one' a0 h0 h1' ma
    have HZ : Hid (_ = _) := add_minus0 a0 h0 h1' ma
    obtain ⟨T, hT⟩ : ∃ T, mulS a0 (wFlip a1) = T := ⟨_, rfl⟩
    obtain ⟨t, tf⟩ := T
    have HT : Hid (_ = _) := hT
    have MA : Hid (_ < _) := ma
    clear hN hT hf ma
    go_wp2_with fail
    refine (flip_any _ _ h0 h1').mono ?_
    rintro e w' ⟨rfl, rfl⟩
    go_wp2_with fail
    refine (pAdd _ _ _ h0 h1' f0 f1).mono ?_
    rintro e w6 ⟨rfl, hb⟩
    rw [HN.out]
    have hbw6 := bstep hbw5 hb
    clear hb hbw5
    go_wp2_with fail
    refine (pMul _ _ _ h0 h1' (by omega) (by omega)).mono ?_
    rintro e w7 ⟨rfl, hb⟩
    rw [HM.out]
    have hbw7 := bstep hbw6 hb
    clear hb hbw6
    go_wp2_with fail
    refine (pDiv _ _ _ h0 h1' (by omega) (by omega)).mono ?_
    rintro e w8 ⟨rfl, hb⟩
    rw [HD.out]
    have hbw8 := bstep hbw7 hb
    clear hb hbw7
    go_wp2_with fail
    refine (pAdd _ _ _ h0 h1' (by omega) (by omega)).mono ?_
    rintro e w9 ⟨rfl, hb⟩
    rw [HZ.out]
    have hbw9 := bstep hbw8 hb
    clear hb hbw8
    go_wp2_with fail
    refine (flip_any _ _ g0 g1').mono ?_
    rintro e w' ⟨rfl, rfl⟩
    go_wp2_with fail
    refine (pMul _ _ _ h0 h1' k0 k1).mono ?_
    rintro e w10 ⟨rfl, hb⟩
    rw [HT.out]
    have hbw10 := bstep hbw9 hb
    clear hb hbw9
    go_wp2_with fail
    refine (kind_any _ _ g0 g1').mono ?_
    rintro e w' ⟨rfl, rfl⟩
    obtain ⟨kb, hkb⟩ : ∃ k, wKind a1 = k := ⟨_, rfl⟩
    rw [hkb]
    by_cases h5 : kb = 5
    · clear hkb
      subst h5
      go_wp2
      go_ret
      refine ⟨ret_eq (bool_eq ?_), hbw10⟩
      simp
    · have KB : Hid (_ = _) := hkb
      clear hkb
      by_cases hfb : a1 / 4503599627370496 % 2048 < 2047
      · have TF : Hid (t = wFlip p) := by
          show _ = _
          have := FL.out MA.out ((fin_mag a1).1 hfb)
          rw [HT.out] at this
          exact this
        have HFB : Hid (_ < _) := hfb
        clear hfb
        obtain ⟨Z, hZ⟩ : ∃ Z, wFlip p = Z := ⟨_, rfl⟩
        have HZ2 : Hid (_ = _) := hZ
        rw [hZ] at TF
        have tz := TF.out
        subst tz
        clear hZ TF HT FL
        go_wp2_with (first | (go_at_call 24; refine (finite_any _ _ g0 g1').mono ?_; rintro e w' ⟨rfl, rfl⟩; rw [decide_eq_true HFB.out]) | (go_at_call 28; refine (flip_any _ _ p0 p1).mono ?_; rintro e w' ⟨rfl, rfl⟩; rw [HZ2.out]))
        go_ret
        refine ⟨ret_eq (bool_eq ?_), hbw10⟩
        simp
      · have HFB : Hid (decide (a1 / 4503599627370496 % 2048 < 2047) = false) := decide_eq_false (by omega)
        clear hfb
        go_wp2_with (go_at_call 24; refine (finite_any _ _ g0 g1').mono ?_; rintro e w' ⟨rfl, rfl⟩; rw [HFB.out])
        go_ret
        refine ⟨ret_eq (bool_eq ?_), hbw10⟩
        simp
  · rw [show decide (a0 / 4503599627370496 % 2048 < 2047) = false from decide_eq_false (by omega)]
    go_wp2
    go_ret
    exact ⟨ret_eq rfl, hbw5⟩

/-! ### THE ROW's STEP -/
set_option maxRecDepth 100000 in
theorem lifted (os : Os) (started : os.Started) (H : Type) (enc : TypeId × Value → H) :
    ReturnsInHanded {} Try.checked os 12 .any (Rows.softLawsSpec.pre6 enc Try.prog Try.f12 Rows.softLawsRow.domain false) (Rows.softLawsSpec.post enc Try.prog Try.f12 false true false false) := by
  refine returnsInHanded_of_change (C := Try.checked) own started (by kernel_rfl) Try.func12
    (ChangeSpec.witness6 (enc := enc) (C := Try.checked) false ⟨#[], #[.int .u64 0, .int .u64 0], []⟩ 8 (by kernel_rfl) (by kernel_rfl) (by kernel_rfl) (by kernel_rfl)) ?_
  intro W base args ds gs before hval0 hW hcnd _
  have hval : ∀ (j : Nat) t v, Try.f12.params[j]? = some t → args[j]? = some v → Value.okWide Try.prog W .any base t v := hval0
  have hW' := hW
  obtain ⟨p, q, hA0, hV, rfl, hfz, hnd⟩ := hW
  have hA : DataW.TrodAll enc Try.prog W 0 (fun _ => true) true Try.f12.params.toList args.toList ds p := hA0
  rw [Try.params12] at hA hval
  obtain ⟨v0, vs0, d0, ds0, p0, q0, hargs, rfl, rfl, h0, r0⟩ := trodAll_cons hA
  obtain ⟨v1, vs1, d1, ds1, p1, q1, rfl, rfl, rfl, h1, r1⟩ := trodAll_cons r0
  obtain ⟨rfl, rfl, rfl⟩ := trodAll_nil r1
  obtain rfl : args = #[v0, v1] := by cases args; simp_all
  obtain ⟨rfl, rfl⟩ := trodVars_none hV
  obtain ⟨a0, rfl, rfl, rfl, w0⟩ := open_int Try.underlying22 (hval 0 22 v0 rfl rfl) h0
  obtain ⟨a1, rfl, rfl, rfl, w1⟩ := open_int Try.underlying22 (hval 1 22 v1 rfl rfl) h1
  clear hA0 hval0
  refine (walk a0 a1 W w0 w1).mono fun e W' ⟨he, bel⟩ => ?_
  subst he
  exact ⟨_, rfl, _, _, _, [], _, [], hW', trodAll_mk1 (shut_bool Try.underlying4 _), (trodAll_cons_mk (shut_int Try.underlying22 w0) (trodAll_cons_mk (shut_int Try.underlying22 w1) trodAll_mk0)), rfl, bel.frame _, fun h => by cases h⟩

theorem over : Rows.softLawsRow.holds Try.pinned (OpenSpec.ofChange Rows.softLawsSpec) :=
  OpenClaim.holds_of_wide 12 Try.f12 rfl rfl rfl rfl rfl rfl rfl ⟨rfl, rfl, rfl, rfl, rfl⟩ rfl rfl rfl rfl rfl (by kernel_rfl) Try.func12 (by kernel_rfl)
    (of_decide_eq_true (by kernel_rfl)) (by unfold Func.isWrapper; first | (rw [if_pos (by decide +kernel)]; kernel_rfl) | (rw [if_neg (by decide +kernel)]; exact ⟨rfl, rfl⟩))
    (fun os started H enc _ => lifted os started H enc)

/-- THE STATEMENT -/
theorem proved : Rows.SoftLawsSaid :=
  over
#print axioms proved
end Go.Proofs.Ytbflkcpcbnkpbaa.softLaws
