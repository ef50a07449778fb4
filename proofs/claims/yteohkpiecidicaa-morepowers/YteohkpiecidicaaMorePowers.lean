/-
  The law MorePowers returns true at every input (any pattern, any two ints), and leaves its arguments as they were. No conditions.
-/
import Derived.Test.YteohkpiecidicaaRows
import Derived.WalkKit
import Derived.ProofKit
import Derived.OpenShut
import Derived.Test.YteohkpiecidicaaMoreL
import Derived.Test.YteohkpiecidicaaRootM
import Derived.Lib.SmallJoins
import Derived.Below
namespace Go.Proofs.Yteohkpiecidicaa.morePowers
open Go.ChangeShapes Go.WideShapes Go.ChangeAt Go.RowKit
open Go.Joins (open_agg2 shut_agg2)
set_option linter.unusedVariables false

theorem own : ownKnob Try.prog.godebug = none := by kernel_rfl

theorem root_nought : rootN 0 = 0 := by
  unfold rootN
  rw [Nat.zero_mul, show isq 0 = 0 from rfl, show decide (0 * 0 ≠ 0) = false by decide, numM_false, numP_zero]
theorem flag_in (x : Nat) (e : Int) (h : numP x e < 9218868437227405312) : flagP x e = 0 ∨ flagP x e = 1 ∨ flagP x e = 3 := by
  unfold flagP
  unfold numP at h
  rw [if_neg (by omega)]
  repeat' split
  all_goals omega
theorem sq_root (a : Int) (h0 : 0 ≤ a) (h1 : a < 18446744073709551616) (ha : mag a < 9218868437227405312) (hs : mag (mulS a a).1 < 9218868437227405312) (hi : bits .and .u8 (mulS a a).2 2 = 0) : (sqrtS (mulS a a).1).1 = a % 9223372036854775808 := by
  have hx : a % 9223372036854775808 = ((mag a : Nat) : Int) := by unfold mag; omega
  rw [hx]
  rw [mulS_fin a a ha ha] at hs hi ⊢
  simp only [bne_self_eq_false] at hs hi ⊢
  rw [show sgnB false = 0 from rfl, Int.zero_add] at hs ⊢
  by_cases hz : mag a = 0
  · rw [hz, V_zero, Nat.zero_mul, numP_zero]
    decide +kernel
  · obtain ⟨P, hP⟩ : ∃ P, numP (V (mag a) * V (mag a)) (-2148) = P := ⟨_, rfl⟩
    have hle := numP_le (V (mag a) * V (mag a)) (-2148)
    rw [hP] at hs hle ⊢
    have hm : mag (P : Int) = P := by unfold mag; omega
    rw [hm] at hs
    have hf : flagP (V (mag a) * V (mag a)) (-2148) = 0 ∨ flagP (V (mag a) * V (mag a)) (-2148) = 1 := by
      rcases flag_in _ _ (by rw [hP]; exact hs) with h | h | h
      · exact Or.inl h
      · exact Or.inr h
      · exfalso
        rw [h] at hi
        revert hi
        decide
    have rs := root_square (mag a) P (by omega) ha hP hs hf
    have hP0 : P ≠ 0 := by
      intro h
      rw [h, V_zero, root_nought] at rs
      omega
    unfold sqrtS
    rw [(fin_facts _ (by rw [hm]; exact hs)).1, if_neg (by simp), (z_not _).2 (by rw [hm]; exact hP0), if_neg (by simp), if_neg (by omega), show sgn (P : Int) = false by unfold sgn; exact decide_eq_false (by omega), if_neg (by simp), hm, rs]
set_option maxRecDepth 100000 in
set_option maxHeartbeats 2000000 in
theorem walk (a0 : Int) (a1 : Int) (a2 : Int) (w : World) (w0 : (Lit.int .u64 a0).wf = true) (w1 : (Lit.int .i64 a1).wf = true) (w2 : (Lit.int .i64 a2).wf = true) :
    Calls Try.prog 9 #[.int .u64 a0, .int .i64 a1, .int .i64 a2] w fun e w' => e = .returned (.bool true) ∧ Below w.heap.size w w' := by
  obtain ⟨h0, h1⟩ := bounds_u64 w0
  have h1' : a0 < 18446744073709551616 := by omega
  have e1 := and_1023_i a1
  have e2 := and_1023_i a2
  obtain ⟨m1, hm1⟩ : ∃ m, a1 % 1024 = m := ⟨_, rfl⟩
  obtain ⟨n1, hn1⟩ : ∃ m, a2 % 1024 = m := ⟨_, rfl⟩
  rw [hm1] at e1
  rw [hn1] at e2
  have b1 : 0 ≤ m1 ∧ m1 < 1024 := by omega
  have b2 : 0 ≤ n1 ∧ n1 < 1024 := by omega
  obtain ⟨b10, b11⟩ := b1
  obtain ⟨b20, b21⟩ := b2
  clear hm1 hn1
  obtain ⟨x0, x1, x2, x3⟩ := scaleS_bd a0 (m1 - 512) h0 h1'
  have tw := scale_twice a0 (m1 - 512) (n1 - 512) h0 h1'
  obtain ⟨T1, hT1⟩ : ∃ T, scaleS a0 (m1 - 512) = T := ⟨_, rfl⟩
  rw [hT1] at x0 x1 x2 x3 tw
  obtain ⟨X, F⟩ := T1
  simp only at x0 x1 x2 x3 tw
  obtain ⟨y0, y1, y2, y3⟩ := scaleS_bd X (n1 - 512) x0 x1
  obtain ⟨T2, hT2⟩ : ∃ T, scaleS X (n1 - 512) = T := ⟨_, rfl⟩
  obtain ⟨T3, hT3⟩ : ∃ T, scaleS a0 (m1 - 512 + (n1 - 512)) = T := ⟨_, rfl⟩
  rw [hT2, hT3] at tw
  rw [hT2] at y0 y1 y2 y3
  obtain ⟨Y, G⟩ := T2
  obtain ⟨Z, H⟩ := T3
  simp only at y0 y1 y2 y3
  have H1 : Hid (_ = _) := hT1
  have H2 : Hid (_ = _) := hT2
  have H3 : Hid (_ = _) := hT3
  have TW : Hid (F = 0 → Y = Z ∧ G = H) := by
    show _ → _
    intro h
    have := tw h
    injection this with q1 q2
    exact ⟨q1, q2⟩
  obtain ⟨s0, s1, s2, s3⟩ := mulS_bd a0 a0
  have SQ := sq_root a0 h0 h1'
  obtain ⟨M, hM⟩ : ∃ T, mulS a0 a0 = T := ⟨_, rfl⟩
  rw [hM] at s0 s1 s2 s3 SQ
  obtain ⟨S, I⟩ := M
  simp only at s0 s1 s2 s3 SQ
  obtain ⟨t2, ht2⟩ : ∃ t, bits .and .u8 I 2 = t := ⟨_, rfl⟩
  rw [ht2] at SQ
  have HSQ : Hid (_ → _ → _ → _) := SQ
  have HM : Hid (_ = _) := hM
  have T2H : Hid (_ = _) := ht2
  obtain ⟨fs, hfs⟩ : ∃ b, decide (mag S < 9218868437227405312) = b := ⟨_, rfl⟩
  obtain ⟨fa, hfa⟩ : ∃ b, decide (mag a0 < 9218868437227405312) = b := ⟨_, rfl⟩
  have FS : Hid (decide (S / 4503599627370496 % 2048 < 2047) = fs) := by show _ = _; rw [fin_dec]; exact hfs
  have FA : Hid (decide (a0 / 4503599627370496 % 2048 < 2047) = fa) := by show _ = _; rw [fin_dec]; exact hfa
  have LSQ : Hid (fa = true → fs = true → t2 = 0 → (sqrtS S).1 = a0 % 9223372036854775808) := by
    show _ → _ → _ → _
    intro q1 q2 q3
    rw [q1, decide_eq_true_eq] at hfa
    rw [q2, decide_eq_true_eq] at hfs
    exact HSQ.out hfa hfs q3
  clear hT1 hT2 hT3 tw hM SQ HSQ hfs hfa
  go_enter Try.func9, Try.ntmps9
  go_wp2_with fail
  refine (rHead5 _).mono ?_
  rintro e w1 ⟨rfl, hb1⟩
  go_wp2_with fail
  refine (mScale _ _ _ h0 h1' (by omega) (by omega)).mono ?_
  rintro e w2 ⟨rfl, hb2⟩
  rw [H1.out]
  have hbx := bstep hb1 hb2
  clear hb1 hb2
  go_wp2_with fail
  refine (mScale _ _ _ x0 x1 (by omega) (by omega)).mono ?_
  rintro e w3 ⟨rfl, hb3⟩
  rw [H2.out]
  have hby := bstep hbx hb3
  clear hb3 hbx
  go_wp2_with fail
  refine (mScale _ _ _ h0 h1' (by omega) (by omega)).mono ?_
  rintro e w4 ⟨rfl, hb4⟩
  rw [H3.out]
  have hbz := bstep hby hb4
  clear hb4 hby
  have cs : ((F == 0) = false) ∨ (F = 0 ∧ (G == 0) = false) ∨ (F = 0 ∧ G = 0 ∧ Y = Z ∧ H = 0) := by
    by_cases f0 : F = 0
    · right
      obtain ⟨q1, q2⟩ := TW.out f0
      by_cases g0 : G = 0
      · right; exact ⟨f0, g0, q1, by omega⟩
      · left; exact ⟨f0, by rw [beq_eq_false_iff_ne]; exact g0⟩
    · left; rw [beq_eq_false_iff_ne]; exact f0
  clear TW
  rcases cs with c1 | ⟨rfl, c1⟩ | ⟨rfl, rfl, rfl, rfl⟩
  all_goals
    go_wp2_with fail
    refine (pMul _ _ _ h0 h1' h0 h1').mono ?_
    rintro e w5 ⟨rfl, hb5⟩
    rw [HM.out]
    have hbu := bstep hbz hb5
    clear hb5
    by_cases ok : fs = true ∧ t2 = 0 ∧ fa = true
    · have R : Hid (_ = _) := LSQ.out ok.2.2 ok.1 ok.2.1
      obtain ⟨rfl, rfl, rfl⟩ := ok
      go_wp2_with (first | (go_at_call_of 25 S; refine (finite_any _ _ s0 s1).mono ?_; rintro e w' ⟨rfl, rfl⟩; rw [FS.out]) | (go_at_call_of 25 a0; refine (finite_any _ _ h0 h1').mono ?_; rintro e w' ⟨rfl, rfl⟩; rw [FA.out]) | fail)
      refine (mSqrt _ _ s0 s1).mono ?_
      rintro e w6 ⟨rfl, hb6⟩
      rw [R.out]
      have hbv := bstep hbu hb6
      clear hb6
      go_wp2_with (go_at_call 30; refine (abs_any _ _ h0 h1').mono ?_; rintro e w' ⟨rfl, rfl⟩)
      go_ret
      exact ⟨ret_eq (bool_eq (by simp)), hbv⟩
    · have ok2 : fs = false ∨ (fs = true ∧ (t2 == 0) = false) ∨ (fs = true ∧ t2 = 0 ∧ fa = false) := by
        cases fs
        · left; rfl
        · right
          by_cases q : t2 = 0
          · right
            cases fa
            · exact ⟨rfl, q, rfl⟩
            · exact absurd ⟨rfl, q, rfl⟩ ok
          · left; exact ⟨rfl, by rw [beq_eq_false_iff_ne]; exact q⟩
      clear ok LSQ
      rcases ok2 with rfl | ⟨rfl, q⟩ | ⟨rfl, rfl, rfl⟩
      all_goals
        try have q2 : ¬ t2 = 0 := by rw [beq_eq_false_iff_ne] at q; exact q
        go_wp2_with (first | (go_at_call_of 25 S; refine (finite_any _ _ s0 s1).mono ?_; rintro e w' ⟨rfl, rfl⟩; rw [FS.out]) | (go_at_call_of 25 a0; refine (finite_any _ _ h0 h1').mono ?_; rintro e w' ⟨rfl, rfl⟩; rw [FA.out]))
        go_ret
        exact ⟨ret_eq rfl, hbu⟩

/-! ### THE ROW's STEP -/
set_option maxRecDepth 100000 in
theorem lifted (os : Os) (started : os.Started) (H : Type) (enc : TypeId × Value → H) :
    ReturnsInHanded {} Try.checked os 9 .any (Rows.morePowersSpec.pre6 enc Try.prog Try.f9 Rows.morePowersRow.domain false) (Rows.morePowersSpec.post enc Try.prog Try.f9 false true false false) := by
  refine returnsInHanded_of_change (C := Try.checked) own started (by kernel_rfl) Try.func9
    (ChangeSpec.witness6 (enc := enc) (C := Try.checked) false ⟨#[], #[.int .u64 0, .int .i64 0, .int .i64 0], []⟩ 8 (by kernel_rfl) (by kernel_rfl) (by kernel_rfl) (by kernel_rfl)) ?_
  intro W base args ds gs before hval0 hW hcnd _
  have hval : ∀ (j : Nat) t v, Try.f9.params[j]? = some t → args[j]? = some v → Value.okWide Try.prog W .any base t v := hval0
  have hW' := hW
  obtain ⟨p, q, hA0, hV, rfl, hfz, hnd⟩ := hW
  have hA : DataW.TrodAll enc Try.prog W 0 (fun _ => true) true Try.f9.params.toList args.toList ds p := hA0
  rw [Try.params9] at hA hval
  obtain ⟨v0, vs0, d0, ds0, p0, q0, hargs, rfl, rfl, h0, r0⟩ := trodAll_cons hA
  obtain ⟨v1, vs1, d1, ds1, p1, q1, rfl, rfl, rfl, h1, r1⟩ := trodAll_cons r0
  obtain ⟨v2, vs2, d2, ds2, p2, q2, rfl, rfl, rfl, h2, r2⟩ := trodAll_cons r1
  obtain ⟨rfl, rfl, rfl⟩ := trodAll_nil r2
  obtain rfl : args = #[v0, v1, v2] := by cases args; simp_all
  obtain ⟨rfl, rfl⟩ := trodVars_none hV
  obtain ⟨a0, rfl, rfl, rfl, w0⟩ := open_int Try.underlying22 (hval 0 22 v0 rfl rfl) h0
  obtain ⟨a1, rfl, rfl, rfl, w1⟩ := open_int Try.underlying3 (hval 1 3 v1 rfl rfl) h1
  obtain ⟨a2, rfl, rfl, rfl, w2⟩ := open_int Try.underlying3 (hval 2 3 v2 rfl rfl) h2
  clear hA0 hval0
  refine (walk a0 a1 a2 W w0 w1 w2).mono fun e W' ⟨he, bel⟩ => ?_
  subst he
  exact ⟨_, rfl, _, _, _, [], _, [], hW', trodAll_mk1 (shut_bool Try.underlying4 _), (trodAll_cons_mk (shut_int Try.underlying22 w0) (trodAll_cons_mk (shut_int Try.underlying3 w1) (trodAll_cons_mk (shut_int Try.underlying3 w2) trodAll_mk0))), rfl, bel.frame _, fun h => by cases h⟩

theorem over : Rows.morePowersRow.holds Try.pinned (OpenSpec.ofChange Rows.morePowersSpec) :=
  OpenClaim.holds_of_wide 9 Try.f9 rfl rfl rfl rfl rfl rfl rfl ⟨rfl, rfl, rfl, rfl, rfl⟩ rfl rfl rfl rfl rfl (by kernel_rfl) Try.func9 (by kernel_rfl)
    (of_decide_eq_true (by kernel_rfl)) (by unfold Func.isWrapper; first | (rw [if_pos (by decide +kernel)]; kernel_rfl) | (rw [if_neg (by decide +kernel)]; exact ⟨rfl, rfl⟩))
    (fun os started H enc _ => lifted os started H enc)

/-- THE STATEMENT -/
theorem proved : Rows.MorePowersSaid :=
  over
#print axioms proved
end Go.Proofs.Yteohkpiecidicaa.morePowers
