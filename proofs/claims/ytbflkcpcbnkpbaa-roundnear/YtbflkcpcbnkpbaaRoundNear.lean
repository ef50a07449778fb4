/-
  The law RoundNear returns true at every input, and leaves its arguments as they were. No conditions.
-/
import Derived.Test.YtbflkcpcbnkpbaaRows
import Derived.WalkKit
import Derived.ProofKit
import Derived.OpenShut
import Derived.Deep.DeepCutAuto
import Derived.Test.YtbflkcpcbnkpbaaRoundN
import Derived.Lib.SmallJoins
import Derived.Below
namespace Go.Proofs.Ytbflkcpcbnkpbaa.roundNear
open Go.ChangeShapes Go.WideShapes Go.ChangeAt Go.RowKit
open Go.Joins (open_agg2 shut_agg2)
set_option linter.unusedVariables false

theorem own : ownKnob Try.prog.godebug = none := by kernel_rfl
theorem cells24 : Try.prog.cellsOf 24 = 2 := by kernel_rfl

theorem near_bound (x : Nat) (E : Int) (hx : 0 < x) (hlt : x < 2 ^ 128) (h0 : -500 ≤ E) (h1 : E ≤ 299) : 0 < patP x E ∧ patP x E < 9000000000000000000 := by
  have hl : (bl x).length ≤ 128 := (bl_length_le x 128).2 hlt
  have hl0 : 0 < (bl x).length := (bl_length_lt x 0).2 (by rw [Nat.pow_zero]; exact hx)
  have hk := keptP_le x E
  have hL : -1074 < lastP x E ∧ lastP x E ≤ 374 := by unfold lastP; omega
  have hg := keptP_ge x E hx hL.1
  unfold patP
  rw [if_neg (by omega)]
  omega
theorem near_all_of (x : Nat) (E : Int) (hx : 0 < x) (hlt : x < 2 ^ 128) (h0 : -500 ≤ E) (h1 : E ≤ 299) :
    ∃ p X : Nat, numR x E false = p ∧ 0 < p ∧ p < 9000000000000000000 ∧ 2 ^ (E + 1200).toNat * x = X * 2 ^ 126 ∧ far (V p) X ≤ far (V (p + 1)) X ∧ far (V p) X ≤ far (V (p - 1)) X ∧ (far (V p) X = 0 ↔ flagR x E false = 0) := by
  obtain ⟨b1, b2⟩ := near_bound x E hx hlt h0 h1
  have hX : 0 < x * 2 ^ (E + 1074).toNat := Nat.mul_pos hx (Nat.two_pow_pos _)
  have e1 : patP (x * 2 ^ (E + 1074).toNat) (-1074) = patP x E := by rw [patP_scale, show (-1074 : Int) + ((E + 1074).toNat : Int) = E by omega]
  have e2 : flagP (x * 2 ^ (E + 1074).toNat) (-1074) = flagP x E := by rw [flagP_scale, show (-1074 : Int) + ((E + 1074).toNat : Int) = E by omega]
  obtain ⟨n1, n2, n3⟩ := near_far (x * 2 ^ (E + 1074).toNat) hX (by rw [e1]; omega) (by rw [e1]; omega)
  rw [e1] at n1 n2 n3
  rw [e2] at n3
  refine ⟨patP x E, x * 2 ^ (E + 1074).toNat, ?_, b1, b2, ?_, n1, n2, ?_⟩
  · rw [(numR_false x E).1]; unfold numP; omega
  · rw [Nat.mul_assoc, ← Nat.pow_add, Nat.mul_comm, show (E + 1074).toNat + 126 = (E + 1200).toNat by omega]
  · rw [(numR_false x E).2]; exact n3
set_option maxRecDepth 100000 in
set_option maxHeartbeats 2000000 in
theorem walk (a0h a0l : Int) (a1 : Int) (w : World) (w0h : (Lit.int .u64 a0h).wf = true) (w0l : (Lit.int .u64 a0l).wf = true) (w1 : (Lit.int .i64 a1).wf = true) :
    Calls Try.prog 6 #[.agg #[.int .u64 a0h, .int .u64 a0l], .int .i64 a1] w fun e w' => e = .returned (.bool true) ∧ Below w.heap.size w w' := by
  obtain ⟨h0, h1⟩ := bounds_u64 w0h
  obtain ⟨h2, h3⟩ := bounds_u64 w0l
  have h1' : a0h < 18446744073709551616 := by omega
  have h3' : a0l < 18446744073709551616 := by omega
  have hW := wid_lt a0h a0l h0 h1' h2 h3'
  have m1 := and_1023_i a1
  have e0 : 0 ≤ a1 % 1024 := by omega
  have e1 : a1 % 1024 < 1024 := by omega
  generalize a1 % 1024 = u at *
  obtain ⟨E0, hE0, hE1, hE2, hE3⟩ : ∃ E0 : Int, (800 ≤ u → E0 = u - 800) ∧ (u < 800 → E0 = u) ∧ 0 ≤ E0 ∧ E0 < 800 := by
    by_cases h : 800 ≤ u
    · exact ⟨u - 800, fun _ => rfl, fun k => by omega, by omega, by omega⟩
    · exact ⟨u, fun k => by omega, fun _ => rfl, by omega, by omega⟩
  have HE0 : Hid (_ → _) := hE0
  have HE1 : Hid (_ → _) := hE1
  have HW : Hid (_ < _) := hW
  clear hE0 hE1 hW
  go_enter Try.func6, Try.ntmps6
  go_wp2_with fail
  refine (rHead3 _).mono ?_
  rintro e w1 ⟨rfl, hb1⟩
  have f0 := hb1.cell (p := ⟨w.heap.size, 0, none⟩) (by simp)
  have f1 := hb1.cell (p := ⟨w.heap.size, 1, none⟩) (by simp)
  simp [go_sem] at f0 f1
  have hbw : Below w.heap.size w w1 := (bmore (Below.refl _ _) _).trans (hb1.mono (by simp))
  have hz1 : w.heap.size < w1.heap.size := by have := hb1.size; simp at this; omega
  clear hb1
  go_upto_if 16 with fail
  go_cut [1] (fun t wx => t = .int .i64 E0 ∧ wx = w1)
  case first =>
    by_cases h8 : 800 ≤ u
    · go_wp2
      go_meet
      exact ⟨int_eq (by have := HE0.out h8; omega), rfl⟩
    · go_wp2
      go_meet
      exact ⟨int_eq (by have := HE1.out (by omega); omega), rfl⟩
  case rest =>
    obtain ⟨rfl, rfl⟩ := hcut
    obtain ⟨E, hE⟩ : ∃ E, E0 - 500 = E := ⟨_, rfl⟩
    have hc := clampE_in E (by omega) (by omega)
    have HC : Hid (_ = _) := hc
    clear hc
    go_wp2_with fail
    refine (pRound _ _ _ _ _ _ h0 h1' h2 h3').mono ?_
    rintro e w2 ⟨rfl, hb2⟩
    rw [HC.out]
    have q0 := cell_later hb2 f0
    have q1 := cell_later hb2 f1
    have hz2 : w.heap.size < w2.heap.size := by have := hb2.size; omega
    have hbx := bstep hbw hb2
    clear hb2 f0 f1 hbw
    by_cases hx : wid a0h a0l = 0
    · have D : Hid (decide (wid a0h a0l = 0) = true) := decide_eq_true hx
      have N : Hid (sgnB false + ((numR (wid a0h a0l) E false : Nat) : Int) = 0) := by
        show _ = _
        unfold numR
        rw [if_pos hx]
        rfl
      rw [N.out]
      clear hx
      go_wp2_with fail
      refine (wZero _ _ _ h0 h1' h2 h3').mono ?_
      rintro e w3 ⟨rfl, hb3⟩
      rw [D.out]
      have r0 := cell_later hb3 q0
      have r1 := cell_later hb3 q1
      have hby := bstep hbx hb3
      clear hb3 q0 q1
      go_wp2_with fail
      refine (wZero _ _ _ h0 h1' h2 h3').mono ?_
      rintro e w4 ⟨rfl, hb4⟩
      rw [D.out]
      go_wp2
      go_ret
      exact ⟨ret_eq rfl, bstep hby hb4⟩
    · have D : Hid (decide (wid a0h a0l = 0) = false) := decide_eq_false hx
      obtain ⟨p, X, n1, n2, n3, n4, n5, n6, n7⟩ := near_all_of (wid a0h a0l) E (by omega) HW.out (by omega) (by omega)
      rw [n1]
      have hff := flag_fit (wid a0h a0l) E false
      obtain ⟨F, hF⟩ : ∃ F : Nat, flagR (wid a0h a0l) E false = F := ⟨_, rfl⟩
      rw [hF] at n7 hff ⊢
      have mp : ∀ r : Nat, r < 9100000000000000000 → mag (r : Int) = r := by intro r hr; unfold mag; omega
      have s0 : sgnB false + ((p : Nat) : Int) = (p : Int) := by simp [sgnB]
      rw [s0]
      have nx : wNext (p : Int) = ((p + 1 : Nat) : Int) := by rw [wNext_eq, if_neg (by omega), if_neg (by omega), if_neg (by omega)]; omega
      have pv : wPrev (p : Int) = ((p - 1 : Nat) : Int) := by rw [wPrev_eq _ (by omega) (by omega), if_neg (by omega), if_neg (by omega), if_neg (by omega)]; omega
      have N4 : Hid (_ = _) := n4
      have N5 : Hid (_ ∧ _ ∧ _) := ⟨n5, n6, n7⟩
      have NX : Hid (_ = _) := nx
      have PV : Hid (_ = _) := pv
      have MP : Hid (_) := mp
      have hlx : (bl (wid a0h a0l)).length ≤ 128 := (bl_length_le _ 128).2 HW.out
      have FIN : Hid (decide ((p : Int) / 4503599627370496 % 2048 < 2047) = true) := decide_eq_true (by omega)
      clear hx n1 n4 n5 n6 n7 hF s0 nx pv mp
      go_wp2_with fail
      refine (wZero _ _ _ h0 h1' h2 h3').mono ?_
      rintro e w3 ⟨rfl, hb3⟩
      rw [D.out]
      have r0 := cell_later hb3 q0
      have r1 := cell_later hb3 q1
      have hz3 : w.heap.size < w3.heap.size := by have := hb3.size; omega
      have hby := bstep hbx hb3
      clear hb3 q0 q1 hbx
      go_wp2_with fail
      refine (finite_any _ _ (by omega) (by omega)).mono ?_
      rintro e w' ⟨rfl, rfl⟩
      rw [FIN.out]
      go_wp2_with fail
      refine (rList3 _ _ _ h0 h1' h2 h3').mono ?_
      rintro e w4 ⟨v4, rfl, own4, hb4⟩
      have hbz := bstep hby hb4
      clear hb4 r0 r1 hby
      go_wp2_with fail
      refine (rUp _ _ _ _ own4.sees (bl_bin _) (by omega) (by omega)).mono ?_
      rintro e w5 ⟨v5, rfl, own5, hb5⟩
      rw [val_bl, N4.out] at own5
      have hb5' := bstep hbz hb5
      clear hb5 hbz own4
      obtain ⟨Y, hY⟩ : ∃ Y, X * 2 ^ 126 = Y := ⟨_, rfl⟩
      rw [hY] at own5
      have own5' := own5
      obtain ⟨b5, o5, c5, rfl, hbb5, hcc5, hm5, hcell5⟩ := own5.sees
      clear hcell5 own5
      have hYl : (bl Y).length ≤ 2300 := by
        rw [← hY, ← N4.out, Nat.mul_comm, len_scale _ _ (by have := D.out; rw [decide_eq_false_iff_not] at this; omega)]
        omega
      have lp := V_len126 p (by omega)
      have lp1 := V_len126 (p + 1) (by omega)
      have lp2 := V_len126 (p - 1) (by omega)
      have fo := far_scale (V p) X 126
      have fo1 := far_scale (V (p + 1)) X 126
      have fo2 := far_scale (V (p - 1)) X 126
      rw [hY] at fo fo1 fo2
      have ko : Hid (far (V p * 2 ^ 126) Y ≤ far (V (p + 1) * 2 ^ 126) Y ∧ far (V p * 2 ^ 126) Y ≤ far (V (p - 1) * 2 ^ 126) Y ∧ (far (V p * 2 ^ 126) Y = 0 ↔ F = 0)) := by
        show _ ∧ _ ∧ _
        rw [fo, fo1, fo2]
        obtain ⟨n5, n6, n7⟩ := N5.out
        refine ⟨Nat.mul_le_mul_right _ n5, Nat.mul_le_mul_right _ n6, ?_⟩
        rw [Nat.mul_eq_zero, ← n7]
        have := Nat.two_pow_pos 126
        constructor
        · rintro (k | k)
          · exact k
          · exact absurd k (by decide)
        · intro k; exact Or.inl k
      clear fo fo1 fo2 N5 N4 hY D
      obtain ⟨A0, hA0⟩ : ∃ A, V p * 2 ^ 126 = A := ⟨_, rfl⟩
      obtain ⟨A1, hA1⟩ : ∃ A, V (p + 1) * 2 ^ 126 = A := ⟨_, rfl⟩
      obtain ⟨A2, hA2⟩ : ∃ A, V (p - 1) * 2 ^ 126 = A := ⟨_, rfl⟩
      rw [hA0] at lp ko
      rw [hA1] at lp1 ko
      rw [hA2] at lp2 ko
      have HA0 : Hid (_ = _) := hA0
      have HA1 : Hid (_ = _) := hA1
      have HA2 : Hid (_ = _) := hA2
      clear hA0 hA1 hA2
      have lo0 := far_le A0 Y _ lp hYl
      have lo1 := far_le A1 Y _ lp1 hYl
      have lo2 := far_le A2 Y _ lp2 hYl
      obtain ⟨G0, hG0⟩ : ∃ A, far A0 Y = A := ⟨_, rfl⟩
      obtain ⟨G1, hG1⟩ : ∃ A, far A1 Y = A := ⟨_, rfl⟩
      obtain ⟨G2, hG2⟩ : ∃ A, far A2 Y = A := ⟨_, rfl⟩
      rw [hG0] at lo0 ko
      rw [hG1] at lo1 ko
      rw [hG2] at lo2 ko
      have HG0 : Hid (_ = _) := hG0
      have HG1 : Hid (_ = _) := hG1
      have HG2 : Hid (_ = _) := hG2
      clear hG0 hG1 hG2
      go_wp2_with fail
      refine (nAt (p : Int) _ (by omega) (by omega) (by rw [MP.out _ (by omega)]; omega)).mono ?_
      rintro e w6 ⟨v6, rfl, own6, hb6⟩
      rw [MP.out _ (by omega), HA0.out] at own6
      have x0 := hb6.cell (p := ⟨w5.heap.size, 0, none⟩) (by simp)
      simp [go_sem] at x0
      have hz6 : w5.heap.size < w6.heap.size := by have := hb6.size; simp at this; omega
      have hb6' := bstep (bmore hb5' _) hb6
      have own5s := (own5'.alloc (.cells #[.slice (some ⟨b5, o5, none⟩) (bl Y).length c5] 31)).below hb6
      clear hb6 hb5' own5'
      go_wp2_with fail
      refine (nFar _ _ _ _ _ _ own6.sees own5s.sees (by omega) (by omega) x0 hz6).mono ?_
      rintro e w7 ⟨v7, rfl, own7, hb7⟩
      rw [HG0.out] at own7
      replace x0 := cell_later hb7 x0
      have hz7 : w5.heap.size < w7.heap.size := by have := hb7.size; omega
      have hb7' := bstep hb6' hb7
      replace own5s := own5s.below hb7
      clear hb7 hb6' own6
      -- the next one
      go_wp2_with fail
      refine (next_any _ _ (by omega) (by omega)).mono ?_
      rintro e w' ⟨rfl, rfl⟩
      rw [NX.out]
      go_wp2_with fail
      refine (nAt ((p + 1 : Nat) : Int) _ (by omega) (by omega) (by rw [MP.out _ (by omega)]; omega)).mono ?_
      rintro e w8 ⟨v8, rfl, own8, hb8⟩
      rw [MP.out _ (by omega), HA1.out] at own8
      replace x0 := cell_later hb8 x0
      have hz8 : w5.heap.size < w8.heap.size := by have := hb8.size; omega
      have hb8' := bstep hb7' hb8
      replace own5s := own5s.below hb8
      replace own7 := own7.below hb8
      clear hb8 hb7'
      go_wp2_with fail
      refine (nFar _ _ _ _ _ _ own8.sees own5s.sees (by omega) (by omega) x0 hz8).mono ?_
      rintro e w9 ⟨v9, rfl, own9, hb9⟩
      rw [HG1.out] at own9
      replace x0 := cell_later hb9 x0
      have hz9 : w5.heap.size < w9.heap.size := by have := hb9.size; omega
      have hb9' := bstep hb8' hb9
      replace own5s := own5s.below hb9
      replace own7 := own7.below hb9
      clear hb9 hb8' own8
      have c1 := cmp_le0 _ _ ko.out.1
      have c2 := cmp_le0 _ _ ko.out.2.1
      go_wp2_with fail
      refine (rCmp _ _ _ _ _ own7.sees own9.sees (bl_bin _) (bl_bin _) (by omega) (by omega)).mono ?_
      rintro e w10 ⟨rfl, hb10⟩
      rw [val_bl, val_bl]
      obtain ⟨C1, hC1⟩ : ∃ c, cmpI G0 G1 = c := ⟨_, rfl⟩
      rw [hC1] at c1 ⊢
      clear hC1
      replace x0 := cell_later hb10 x0
      have hz10 : w5.heap.size < w10.heap.size := by have := hb10.size; omega
      have hb10' := bstep hb9' hb10
      replace own5s := own5s.below hb10
      replace own7 := own7.below hb10
      clear hb10 hb9' own9
      -- the one before
      go_wp2_with fail
      refine (prev_any _ _ (by omega) (by omega)).mono ?_
      rintro e w' ⟨rfl, rfl⟩
      rw [PV.out]
      go_wp2_with fail
      refine (nAt ((p - 1 : Nat) : Int) _ (by omega) (by omega) (by rw [MP.out _ (by omega)]; omega)).mono ?_
      rintro e w11 ⟨v11, rfl, own11, hb11⟩
      rw [MP.out _ (by omega), HA2.out] at own11
      replace x0 := cell_later hb11 x0
      have hz11 : w5.heap.size < w11.heap.size := by have := hb11.size; omega
      have hb11' := bstep hb10' hb11
      replace own5s := own5s.below hb11
      replace own7 := own7.below hb11
      clear hb11 hb10'
      go_wp2_with fail
      refine (nFar _ _ _ _ _ _ own11.sees own5s.sees (by omega) (by omega) x0 hz11).mono ?_
      rintro e w12 ⟨v12, rfl, own12, hb12⟩
      rw [HG2.out] at own12
      have hb12' := bstep hb11' hb12
      replace own7 := own7.below hb12
      clear hb12 hb11' own11 own5s x0
      go_wp2_with fail
      refine (rCmp _ _ _ _ _ own7.sees own12.sees (bl_bin _) (bl_bin _) (by omega) (by omega)).mono ?_
      rintro e w13 ⟨rfl, hb13⟩
      rw [val_bl, val_bl]
      obtain ⟨C2, hC2⟩ : ∃ c, cmpI G0 G2 = c := ⟨_, rfl⟩
      rw [hC2] at c2 ⊢
      clear hC2
      have hb13' := bstep hb12' hb13
      clear hb13 hb12' own12
      obtain ⟨b7, o7, c7, rfl, hbb7, hcc7, hm7, hcell7⟩ := own7.sees
      clear hcell7 own7
      obtain ⟨L, hL⟩ : ∃ L, (bl G0).length = L := ⟨_, rfl⟩
      rw [hL] at hcc7 ⊢
      have hLF : L = 0 ↔ F = 0 := by rw [← hL, bl_nil_iff]; exact ko.out.2.2
      clear hL
      by_cases hF0 : F = 0
      · have hL0 := hLF.2 hF0
        subst hF0 hL0
        clear hLF
        go_wp2
        go_ret
        refine ⟨ret_eq (bool_eq ?_), hb13'⟩
        simp
      · have hL0 : ¬ L = 0 := fun k => hF0 (hLF.1 k)
        have hLb : ((L : Int) == 0) = false := by rw [beq_eq_false_iff_ne]; omega
        have hFb : ((F : Int) == 0) = false := by rw [beq_eq_false_iff_ne]; omega
        clear hLF
        go_wp2
        go_ret
        refine ⟨ret_eq (bool_eq ?_), hb13'⟩
        simp

/-! ### THE ROW's STEP -/
set_option maxRecDepth 100000 in
theorem lifted (os : Os) (started : os.Started) (H : Type) (enc : TypeId × Value → H) :
    ReturnsInHanded {} Try.checked os 6 .any (Rows.roundNearSpec.pre6 enc Try.prog Try.f6 Rows.roundNearRow.domain false) (Rows.roundNearSpec.post enc Try.prog Try.f6 false true false false) := by
  refine returnsInHanded_of_change (C := Try.checked) own started (by kernel_rfl) Try.func6
    (ChangeSpec.witness6 (enc := enc) (C := Try.checked) false ⟨#[], #[.agg #[.int .u64 0, .int .u64 0], .int .i64 0], []⟩ 8 (by kernel_rfl) (by kernel_rfl) (by kernel_rfl) (by kernel_rfl)) ?_
  intro W base args ds gs before hval0 hW hcnd _
  have hval : ∀ (j : Nat) t v, Try.f6.params[j]? = some t → args[j]? = some v → Value.okWide Try.prog W .any base t v := hval0
  have hW' := hW
  obtain ⟨p, q, hA0, hV, rfl, hfz, hnd⟩ := hW
  have hA : DataW.TrodAll enc Try.prog W 0 (fun _ => true) true Try.f6.params.toList args.toList ds p := hA0
  rw [Try.params6] at hA hval
  obtain ⟨v0, vs0, d0, ds0, p0, q0, hargs, rfl, rfl, h0, r0⟩ := trodAll_cons hA
  obtain ⟨v1, vs1, d1, ds1, p1, q1, rfl, rfl, rfl, h1, r1⟩ := trodAll_cons r0
  obtain ⟨rfl, rfl, rfl⟩ := trodAll_nil r1
  obtain rfl : args = #[v0, v1] := by cases args; simp_all
  obtain ⟨rfl, rfl⟩ := trodVars_none hV
  obtain ⟨c00, c01, y00, y01, m0, rfl, rfl, rfl, hy00, hy01⟩ := open_agg2 Try.underlying24 (by kernel_rfl) cells24 (hval 0 24 v0 rfl rfl) h0
  obtain ⟨a0h, e00, rfl, w0h⟩ := DataW.trod_int Try.underlying22 hy00
  obtain ⟨a0l, e01, rfl, w0l⟩ := DataW.trod_int Try.underlying22 hy01
  simp at e00 e01
  subst e00 e01
  obtain ⟨a1, rfl, rfl, rfl, w1⟩ := open_int Try.underlying3 (hval 1 3 v1 rfl rfl) h1
  clear hA0 hval0
  have sr0 : ∀ (W' : World) (sp : Nat → Bool), DataW.Trod enc Try.prog W' 0 sp true 24 (.agg #[.int .u64 a0h, .int .u64 a0l]) (.agg [.lit (.int .u64 a0h), .lit (.int .u64 a0l)]) [] := fun W' sp =>
    shut_agg2 (y0 := (.lit (.int .u64 a0h), [])) (y1 := (.lit (.int .u64 a0l), [])) Try.underlying24 (by kernel_rfl) cells24 ⟨1, by simp [DataW.trod, Try.underlying22, w0h]⟩ ⟨1, by simp [DataW.trod, Try.underlying22, w0l]⟩
  refine (walk a0h a0l a1 W w0h w0l w1).mono fun e W' ⟨he, bel⟩ => ?_
  subst he
  exact ⟨_, rfl, _, _, _, [], _, [], hW', trodAll_mk1 (shut_bool Try.underlying4 _), (trodAll_cons_mk (sr0 _ _) (trodAll_cons_mk (shut_int Try.underlying3 w1) trodAll_mk0)), rfl, bel.frame _, fun h => by cases h⟩

theorem over : Rows.roundNearRow.holds Try.pinned (OpenSpec.ofChange Rows.roundNearSpec) :=
  OpenClaim.holds_of_wide 6 Try.f6 rfl rfl rfl rfl rfl rfl rfl ⟨rfl, rfl, rfl, rfl, rfl⟩ rfl rfl rfl rfl rfl (by kernel_rfl) Try.func6 (by kernel_rfl)
    (of_decide_eq_true (by kernel_rfl)) (by unfold Func.isWrapper; first | (rw [if_pos (by decide +kernel)]; kernel_rfl) | (rw [if_neg (by decide +kernel)]; exact ⟨rfl, rfl⟩))
    (fun os started H enc _ => lifted os started H enc)

/-- THE STATEMENT -/
theorem proved : Rows.RoundNearSaid :=
  over
#print axioms proved
end Go.Proofs.Ytbflkcpcbnkpbaa.roundNear
