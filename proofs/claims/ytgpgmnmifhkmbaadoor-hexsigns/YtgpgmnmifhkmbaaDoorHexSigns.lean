/-
  The law HexSigns returns true at every input, and leaves its arguments as they were. Conditions: none but those of the card (three tables of Go's library are as the program's text lays them).
-/
import Derived.Test.YtgpgmnmifhkmbaaDoorRows
import Derived.Test.YtgpgmnmifhkmbaaDoorCards
import Derived.Test.YtgpgmnmifhkmbaaDoorTie
import Derived.Test.YtgpgmnmifhkmbaaDoorHexU
import Derived.Test.YtgpgmnmifhkmbaaDoorBst
import Derived.WalkKit
import Derived.ProofKit
import Derived.OpenShut
import Derived.Lay
import Derived.LaidOnce
import Derived.SevenTiedAt
import Derived.Lib.SmallJoins
import Derived.Stop.LaidErr
import Derived.Below
namespace Go.Proofs.YtgpgmnmifhkmbaaDoor.hexSigns
open Go.ChangeShapes Go.WideShapes Go.ChangeAt Go.RowKit
set_option linter.unusedVariables false
set_option linter.unusedSimpArgs false

theorem txt_nan (b : Int) (h : wKind b = 5) : txt b = [110, 97, 110] := by unfold txt; rw [if_pos h]
theorem toList_mk (l : List UInt8) : (⟨l.toArray⟩ : ByteArray).toList = l := by rw [ByteArray.toList_eq]
theorem str_obtain (l : List UInt8) (h : l.length ≤ 41) : ∃ s : ByteArray, ⟨l.toArray⟩ = s ∧ s.size ≤ 41 ∧ s.toList = l := ⟨_, rfl, by rw [size_of_list]; exact h, toList_mk l⟩
set_option maxRecDepth 100000 in
set_option maxHeartbeats 4000000 in
theorem walk (a0 a1 : Int) (w : World) (h0 : 0 ≤ a0) (h1 : a0 < 18446744073709551616) (g0 : 0 ≤ a1) (g1 : a1 < 18446744073709551616) (hT : Tabs w) :
    Calls Tryd.prog 8 #[.int .u64 a0, .int .u64 a1] w fun e w' => e = .returned (.bool true) ∧ Below w.heap.size w w' := by
  have HT : Hid (Tabs w) := hT
  clear hT
  have hk : ∀ (b : Int) (w : World), 0 ≤ b → b < 18446744073709551616 → Calls Tryd.prog 12 #[.int .u64 b] w fun e w' => e = .returned (.int .i64 (wKind b)) ∧ w = w' := fun b w x y => (kind_any b w x y).mono fun e w' ⟨p, q⟩ => ⟨p, q.symm⟩
  have hf : ∀ (b : Int) (w : World), 0 ≤ b → b < 18446744073709551616 → Calls Tryd.prog 21 #[.int .u64 b] w fun e w' => e = .returned (.int .u64 (wFlip b)) ∧ w = w' := fun b w x y => (flip_any b w x y).mono fun e w' ⟨p, q⟩ => ⟨p, q.symm⟩
  have ha : ∀ (b : Int) (w : World), 0 ≤ b → b < 18446744073709551616 → Calls Tryd.prog 22 #[.int .u64 b] w fun e w' => e = .returned (.int .u64 (b % 9223372036854775808)) ∧ w = w' := fun b w x y => (abs_any b w x y).mono fun e w' ⟨p, q⟩ => ⟨p, q.symm⟩
  have HK := Lib.hid hk
  have HF := Lib.hid hf
  have HA := Lib.hid ha
  clear hk hf ha
  by_cases k5 : wKind a0 = 5 ∨ wKind a1 = 5
  · have kq : wKind 9221120237041090560 = 5 := by decide
    have Q1 : Hid (_ = _) := txt_nan _ kq
    have Q2 : Hid (_ = _) := txt_nan (wFlip 9221120237041090560) (by decide)
    clear kq
    by_cases k0 : wKind a0 = 5
    · have kk : (wKind a0 == 5) = true := by rw [k0]; rfl
      clear k5
      go_enter Tryd.func8, Tryd.ntmps8
      go_wp2_with (first | (go_at_call 9; refine (hHead _ HT.out).mono ?_; rintro e W0 ⟨rfl, hb0⟩; have HT0 : Hid (Tabs W0) := HT.out.below hb0) | (go_at_call 12; refine (HK.out _ _ h0 h1).mono ?_; rintro e w' ⟨rfl, rfl⟩))
      refine (hText _ _ (by decide) (by decide) HT0.out).mono ?_
      rintro e W1 ⟨rfl, hb1⟩
      have HT1 : Hid (Tabs W1) := HT0.out.below hb1
      rw [Q1.out]
      go_wp2_with (first | (go_at_call 21; refine (HF.out _ _ (by decide) (by decide)).mono ?_; rintro e w' ⟨rfl, rfl⟩))
      refine (hText _ _ (by decide) (by decide) HT1.out).mono ?_
      rintro e W2 ⟨rfl, hb2⟩
      rw [Q2.out]
      have hb : Below w.heap.size w W2 := (hb0.trans (hb1.mono hb0.size)).trans (hb2.mono (by have := hb0.size; have := hb1.size; omega))
      go_wp2
      go_ret
      exact ⟨rfl, hb⟩
    · have k1 : wKind a1 = 5 := by omega
      have kk : (wKind a0 == 5) = false := by rw [beq_eq_false_iff_ne]; exact k0
      have kk1 : (wKind a1 == 5) = true := by rw [k1]; rfl
      clear k5
      go_enter Tryd.func8, Tryd.ntmps8
      go_wp2_with (first | (go_at_call 9; refine (hHead _ HT.out).mono ?_; rintro e W0 ⟨rfl, hb0⟩; have HT0 : Hid (Tabs W0) := HT.out.below hb0) | (go_at_call_of 12 a0; refine (HK.out _ _ h0 h1).mono ?_; rintro e w' ⟨rfl, rfl⟩) | (go_at_call_of 12 a1; refine (HK.out _ _ g0 g1).mono ?_; rintro e w' ⟨rfl, rfl⟩))
      refine (hText _ _ (by decide) (by decide) HT0.out).mono ?_
      rintro e W1 ⟨rfl, hb1⟩
      have HT1 : Hid (Tabs W1) := HT0.out.below hb1
      rw [Q1.out]
      go_wp2_with (first | (go_at_call 21; refine (HF.out _ _ (by decide) (by decide)).mono ?_; rintro e w' ⟨rfl, rfl⟩))
      refine (hText _ _ (by decide) (by decide) HT1.out).mono ?_
      rintro e W2 ⟨rfl, hb2⟩
      rw [Q2.out]
      have hb : Below w.heap.size w W2 := (hb0.trans (hb1.mono hb0.size)).trans (hb2.mono (by have := hb0.size; have := hb1.size; omega))
      go_wp2
      go_ret
      exact ⟨rfl, hb⟩
  · have k0 : ¬ wKind a0 = 5 := fun h => k5 (.inl h)
    have k1 : ¬ wKind a1 = 5 := fun h => k5 (.inr h)
    have kk : (wKind a0 == 5) = false := by rw [beq_eq_false_iff_ne]; exact k0
    have kk1 : (wKind a1 == 5) = false := by rw [beq_eq_false_iff_ne]; exact k1
    obtain ⟨X, hX⟩ : ∃ X, a0 % 9223372036854775808 = X := ⟨_, rfl⟩
    have x0 : 0 ≤ X := by omega
    have x1 : X < 9223372036854775808 := by omega
    have x2 : X < 18446744073709551616 := by omega
    have kX : wKind X ≠ 5 := by rw [← hX]; have := kind_mag a0; unfold magI at this; rw [this]; exact k0
    obtain ⟨Y, hY⟩ : ∃ Y, wFlip X = Y := ⟨_, rfl⟩
    have hY' : Y = X + 9223372036854775808 := by rw [← hY]; unfold wFlip; omega
    have y0 : 0 ≤ Y := by omega
    have y1 : Y < 18446744073709551616 := by omega
    have T1 := txt_flip X x0 x1 kX
    rw [← hY'] at T1
    obtain ⟨SY, eY, zY, lY⟩ := str_obtain (txt Y) (txt_len Y y0)
    obtain ⟨SX, eX, zX, lX⟩ := str_obtain (txt X) (txt_len X x0)
    obtain ⟨SA, eA, zA, lA⟩ := str_obtain (txt a0) (txt_len a0 h0)
    obtain ⟨SB, eB, zB_, lB⟩ := str_obtain (txt a1) (txt_len a1 g0)
    have E1 : SY.toList == (⟨#[45]⟩ ++ SX : ByteArray).toList := by
      rw [lY, ← eX, show (⟨#[45]⟩ : ByteArray) = ⟨([45] : List UInt8).toArray⟩ from rfl, ByteArray.mk_append_mk, toList_mk, T1]
      exact beq_self_eq_true _
    have E2 : (SA.toList == SB.toList) = (a0 == a1) := by
      rw [lA, lB]
      by_cases h : a0 = a1
      · subst h; rw [beq_self_eq_true, beq_self_eq_true]
      · rw [beq_eq_false_iff_ne.2 h, beq_eq_false_iff_ne]
        exact fun e => h (txt_inj a0 a1 h0 h1 g0 g1 k0 k1 e)
    have PX : Hid (_ = X) := hX
    have PY : Hid (_ = Y) := hY
    have RY := Lib.hid eY
    have RX := Lib.hid eX
    have RA := Lib.hid eA
    have RB := Lib.hid eB
    clear k5 k0 k1 hX hY hY' T1 eY eX eA eB lY lX lA lB kX
    go_enter Tryd.func8, Tryd.ntmps8
    go_wp2_with (first | (go_at_call 9; refine (hHead _ HT.out).mono ?_; rintro e W0 ⟨rfl, hb0⟩; have HT0 : Hid (Tabs W0) := HT.out.below hb0) | (go_at_call_of 12 a0; refine (HK.out _ _ h0 h1).mono ?_; rintro e w' ⟨rfl, rfl⟩) | (go_at_call_of 12 a1; refine (HK.out _ _ g0 g1).mono ?_; rintro e w' ⟨rfl, rfl⟩) | (go_at_call 22; refine (HA.out _ _ h0 h1).mono ?_; rintro e w' ⟨rfl, rfl⟩; rw [PX.out]) | (go_at_call 21; refine (HF.out _ _ x0 x2).mono ?_; rintro e w' ⟨rfl, rfl⟩; rw [PY.out]))
    refine (hText _ _ y0 y1 HT0.out).mono ?_
    rintro e W1 ⟨rfl, hb1⟩
    have HT1 : Hid (Tabs W1) := HT0.out.below hb1
    rw [RY.out]
    go_wp2_with fail
    refine (hText _ _ x0 x2 HT1.out).mono ?_
    rintro e W2 ⟨rfl, hb2⟩
    have HT2 : Hid (Tabs W2) := HT1.out.below hb2
    rw [RX.out]
    go_wp2_with fail
    refine (hText _ _ h0 h1 HT2.out).mono ?_
    rintro e W3 ⟨rfl, hb3⟩
    have HT3 : Hid (Tabs W3) := HT2.out.below hb3
    rw [RA.out]
    go_wp2_with fail
    refine (hText _ _ g0 g1 HT3.out).mono ?_
    rintro e W4 ⟨rfl, hb4⟩
    rw [RB.out]
    have hbb : Below w.heap.size w W4 := bstep (bstep (bstep (bstep hb0 hb1) hb2) hb3) hb4
    clear hb0 hb1 hb2 hb3 hb4
    go_wp2
    all_goals go_ret
    all_goals exact ⟨rfl, hbb⟩
theorem own : ownKnob Tryd.prog.godebug = none := by kernel_rfl
theorem tabs_of_laid {W : World} (h : laidMet Tryd.prog Rows.hexSignsRow.laid W) : Tabs W := by
  have h2 : laidMet Tryd.prog [("math/bits.deBruijn64tab", Rows.laid_math_bits_deBruijn64tab), ("internal/strconv.uint64pow10", Rows.laid_internal_strconv_uint64pow10)] W := h.tail
  have h3 : laidMet Tryd.prog [("internal/strconv.uint64pow10", Rows.laid_internal_strconv_uint64pow10)] W := h2.tail
  have t2 : Lib.TabIs Tryd.prog W "math/bits.deBruijn64tab" .u8 (Lib.deBruijn64tab.map (fun (n : Nat) => (n : Int))) := Lib.tabIs_of_head (g := 0) (t := 83) (e := 5) (n := 64) (by kernel_rfl) (by kernel_rfl) (by kernel_rfl) (by kernel_rfl) (by kernel_rfl) (by kernel_rfl) h2
  have t3 : Lib.TabIs Tryd.prog W "internal/strconv.uint64pow10" .u64 Lib.pow10Tab := Lib.tabIs_of_head (g := 5) (t := 118) (e := 22) (n := 20) (by kernel_rfl) (by kernel_rfl) (by kernel_rfl) (by kernel_rfl) (by kernel_rfl) (by kernel_rfl) h3
  refine ⟨fun j hj => ?_, t3⟩
  have := t2.cell (g := Tryd.lays7_29_ren.g 1) (by kernel_rfl) j (by rw [List.length_map]; exact hj)
  rw [this]
  congr 2
  simp [List.getD, hj]
set_option maxRecDepth 100000 in
theorem lifted (os : Os) (started : os.Started) (H : Type) (enc : TypeId × Value → H) :
    ReturnsInHanded {} Tryd.checked os 8 .any (fun w args => (Rows.hexSignsSpec.pre enc Tryd.prog Tryd.f8 [] false w args ∧ laidMetH Tryd.prog Rows.hexSignsRow.laid w) ∧ sizedMet enc Tryd.prog Tryd.f8 (OpenSpec.ofChange Rows.hexSignsSpec) false w args)
      (Rows.hexSignsSpec.post enc Tryd.prog Tryd.f8 false true false false) := by
  refine returnsInHanded_of_change_and (C := Tryd.checked) (X := fun w _ => laidMetH Tryd.prog Rows.hexSignsRow.laid w) (fun _ _ _ hh h => h.of_heap hh) own started (by kernel_rfl) Tryd.func8
    (ChangeSpec.witness_shaped (enc := enc) (C := Tryd.checked) (os := os) (X := fun w _ => laidMetH Tryd.prog Rows.hexSignsRow.laid w) false (World.laidAll Tryd.prog os Rows.hexSignsRow.laid) #[.int .u64 0, .int .u64 0] 8 (World.laidAll_os _ _ _)
      (World.shaped_of_ZipB (by kernel_rfl) (by kernel_rfl)) (by kernel_rfl) (by kernel_rfl) (by kernel_rfl)
      (by rw [MakeChecks.laidMetH_plain _ _ _ (by kernel_rfl)]; exact laidMet_laidAll _ (by kernel_rfl) (by kernel_rfl))) ?_
  intro W base args ds gs before hval0 hW _ _ hL _
  have hval : ∀ (j : Nat) t v, Tryd.f8.params[j]? = some t → args[j]? = some v → Value.okWide Tryd.prog W .any base t v := hval0
  have hW' := hW
  obtain ⟨p, q, hA0, hV, rfl, hfz, hnd⟩ := hW
  have hA : DataW.TrodAll enc Tryd.prog W 0 (fun _ => true) true Tryd.f8.params.toList args.toList ds p := hA0
  rw [Tryd.params8] at hA hval
  obtain ⟨v0, vs0, d0, ds0, p0, q0, hargs, rfl, rfl, h0, r0⟩ := trodAll_cons hA
  obtain ⟨v1, vs1, d1, ds1, p1, q1, rfl, rfl, rfl, h1, r1⟩ := trodAll_cons r0
  obtain ⟨rfl, rfl, rfl⟩ := trodAll_nil r1
  obtain rfl : args = #[v0, v1] := by cases args; simp_all
  obtain ⟨rfl, rfl⟩ := trodVars_none hV
  obtain ⟨a0, rfl, rfl, rfl, w0⟩ := open_int Tryd.underlying22 (hval 0 22 v0 rfl rfl) h0
  obtain ⟨a1, rfl, rfl, rfl, w1⟩ := open_int Tryd.underlying22 (hval 1 22 v1 rfl rfl) h1
  clear hA0 hval0
  rw [MakeChecks.laidMetH_plain _ _ _ (by kernel_rfl)] at hL
  obtain ⟨b0, b1⟩ := bounds_u64 w0
  obtain ⟨c0, c1⟩ := bounds_u64 w1
  refine (walk a0 a1 W b0 (by omega) c0 (by omega) (tabs_of_laid hL)).mono fun e W' ⟨he, bel⟩ => ?_
  subst he
  exact ⟨_, rfl, _, _, _, [], _, [], hW', trodAll_mk1 (shut_bool Tryd.underlying4 _), (trodAll_cons_mk (shut_int Tryd.underlying22 w0) (trodAll_cons_mk (shut_int Tryd.underlying22 w1) trodAll_mk0)), rfl, bel.frame _, fun h => by cases h⟩
theorem over : Rows.HexSignsSaid :=
  OpenClaim.holds_of_wide 8 Tryd.f8 rfl rfl rfl rfl rfl rfl rfl ⟨rfl, rfl, rfl, rfl, rfl⟩ rfl rfl rfl rfl rfl (by kernel_rfl) Tryd.func8 (by kernel_rfl)
    (of_decide_eq_true (by kernel_rfl)) (by unfold Func.isWrapper; first | (rw [if_pos (by decide +kernel)]; kernel_rfl) | (rw [if_neg (by decide +kernel)]; exact ⟨rfl, rfl⟩))
    (fun os started H enc _ => lifted os started H enc)
/-- THE STATEMENT -/
theorem proved : Rows.HexSignsCardSaid :=
  Claim7.holds_tied_plain_at .later [] [.data, .data, .data] true Rows.hexSignsCard.stood.harness true
    over (fun _ h => by cases h) (by kernel_rfl) (fun _ h => by cases h) hexSigns_row_tie rfl ⟨rfl, rfl⟩ (by kernel_rfl) rfl
    (fun f fn hf hfn => by
      obtain rfl : f = 8 := Option.some.inj ((show Tryd.prog.funcNamed "gimbal/gimballaw08.HexSigns" = some 8 by kernel_rfl).symm.trans hf) |>.symm
      obtain rfl : fn = Tryd.f8 := (Option.some.inj (Tryd.func8.symm.trans hfn)).symm
      exact ⟨by kernel_rfl, fun j t ht => by
        rw [Tryd.params8] at ht
        have hm : t ∈ [22, 22] := by simpa using Array.mem_of_getElem? ht
        have hall : ([22, 22].all fun u => !Tryd.prog.wantsStandIn u) = true := by kernel_rfl
        exact (show Tryd.prog.wantsStandIn t = false by simpa using List.all_eq_true.1 hall t hm)⟩)
    (by kernel_rfl)
#print axioms proved
end Go.Proofs.YtgpgmnmifhkmbaaDoor.hexSigns
