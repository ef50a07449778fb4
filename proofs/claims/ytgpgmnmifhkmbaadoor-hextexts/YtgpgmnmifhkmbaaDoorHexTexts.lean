/-
  The law HexTexts returns true at every input, and leaves its arguments as they were. Conditions: none but those of the card (variables of Go's library are as the program's text lays them).
-/
import Derived.Test.YtgpgmnmifhkmbaaDoorRows
import Derived.Test.YtgpgmnmifhkmbaaDoorCards
import Derived.Test.YtgpgmnmifhkmbaaDoorTie
import Derived.Test.YtgpgmnmifhkmbaaDoorHexG
import Derived.Test.YtgpgmnmifhkmbaaDoorHexL
import Derived.Test.YtgpgmnmifhkmbaaDoorHexU
import Derived.Test.YtgpgmnmifhkmbaaDoorBst
import Derived.WalkKit
import Derived.ProofKit
import Derived.OpenShut
import Derived.Lay
import Derived.LaidOnce
import Derived.SevenTiedAt
import Derived.Lib.SmallJoins
import Derived.Stop.LaidErr
import Derived.Below
namespace Go.Proofs.YtgpgmnmifhkmbaaDoor.hexTexts
open Go.ChangeShapes Go.WideShapes Go.ChangeAt Go.RowKit
set_option linter.unusedVariables false
set_option linter.unusedSimpArgs false

theorem kind_same (b : Int) (w : World) (x : 0 ≤ b) (y : b < 18446744073709551616) : Calls Tryd.prog 12 #[.int .u64 b] w fun e w' => e = .returned (.int .i64 (wKind b)) ∧ w = w' := (kind_any b w x y).mono fun e w' ⟨p, q⟩ => ⟨p, q.symm⟩
set_option maxRecDepth 100000 in
set_option maxHeartbeats 4000000 in
theorem walk (a0 : Int) (w : World) (h0 : 0 ≤ a0) (h1 : a0 < 18446744073709551616) (hT : Tabs w) :
    Calls Tryd.prog 3 #[.int .u64 a0] w fun e w' => e = .returned (.bool true) ∧ Below w.heap.size w w' := by
  have HT := Lib.hid hT
  obtain ⟨S, eS, zS, lS, dS⟩ := str_ob (txt a0)
  have ES := Lib.hid eS
  have PA := Lib.hid (fun W hT => hParseTxt a0 W h0 h1 hT)
  have LT := Lib.hid (fun W => lText a0 W h0 h1)
  rw [eS] at PA LT
  by_cases k : wKind a0 = 5
  · have kk : (wKind a0 == 5) = true := by rw [k]; rfl
    have N : (S.toList == [110, 97, 110]) = true := by rw [lS]; unfold txt; rw [if_pos k]; rfl
    rw [if_pos k] at PA
    clear hT eS zS lS dS
    go_enter Tryd.func3, Tryd.ntmps3
    go_wp2_with (first | (go_at_call 9; refine (hHead _ HT.out).mono ?_; rintro e W0 ⟨rfl, hb0⟩; have HT0 := Lib.hid (HT.out.below hb0)) | (go_at_call 10; refine (hText _ _ h0 h1 HT0.out).mono ?_; rintro e W1 ⟨rfl, hb1⟩; rw [ES.out]; have HT1 := Lib.hid (HT0.out.below hb1)) | (go_at_call 11; refine (PA.out _ HT1.out).mono ?_; rintro e W2 ⟨rfl, hb2⟩) | (go_at_call 12; refine (kind_same _ _ h0 h1).mono ?_; rintro e w' ⟨rfl, rfl⟩))
    all_goals go_ret
    all_goals exact ⟨rfl, bstep (bstep hb0 hb1) hb2⟩
  · have kk : (wKind a0 == 5) = false := by rw [beq_eq_false_iff_ne]; exact k
    rw [if_neg k] at PA
    have N : (S.toList == S.toList) = true := beq_self_eq_true _
    clear hT eS zS lS dS
    go_enter Tryd.func3, Tryd.ntmps3
    go_wp2_with (first | (go_at_call 9; refine (hHead _ HT.out).mono ?_; rintro e W0 ⟨rfl, hb0⟩; have HT0 := Lib.hid (HT.out.below hb0)) | (go_at_call 10; refine (hText _ _ h0 h1 HT0.out).mono ?_; rintro e W1 ⟨rfl, hb1⟩; rw [ES.out]; have HT1 := Lib.hid (HT0.out.below hb1)) | (go_at_call 11; refine (PA.out _ HT1.out).mono ?_; rintro e W2 ⟨rfl, hb2⟩) | (go_at_call 12; refine (kind_same _ _ h0 h1).mono ?_; rintro e w' ⟨rfl, rfl⟩) | (go_at_call 13; refine (LT.out _).mono ?_; rintro e W3 ⟨rfl, hb3⟩))
    all_goals go_ret
    all_goals exact ⟨rfl, bstep (bstep (bstep hb0 hb1) hb2) hb3⟩
theorem own : ownKnob Tryd.prog.godebug = none := by kernel_rfl
theorem tabs_of_laid {W : World} (h : laidMet Tryd.prog Rows.hexTextsRow.laid W) : Tabs W := by
  have h2 : laidMet Tryd.prog [("math/bits.deBruijn64tab", Rows.laid_math_bits_deBruijn64tab), ("internal/strconv.uint64pow10", Rows.laid_internal_strconv_uint64pow10), ("strconv.ErrRange", Rows.laid_strconv_ErrRange), ("strconv.ErrSyntax", Rows.laid_strconv_ErrSyntax)] W := h.tail
  have h3 : laidMet Tryd.prog [("internal/strconv.uint64pow10", Rows.laid_internal_strconv_uint64pow10), ("strconv.ErrRange", Rows.laid_strconv_ErrRange), ("strconv.ErrSyntax", Rows.laid_strconv_ErrSyntax)] W := h2.tail
  have t2 : Lib.TabIs Tryd.prog W "math/bits.deBruijn64tab" .u8 (Lib.deBruijn64tab.map (fun (n : Nat) => (n : Int))) := Lib.tabIs_of_head (g := 0) (t := 83) (e := 5) (n := 64) (by kernel_rfl) (by kernel_rfl) (by kernel_rfl) (by kernel_rfl) (by kernel_rfl) (by kernel_rfl) h2
  have t3 : Lib.TabIs Tryd.prog W "internal/strconv.uint64pow10" .u64 Lib.pow10Tab := Lib.tabIs_of_head (g := 5) (t := 118) (e := 22) (n := 20) (by kernel_rfl) (by kernel_rfl) (by kernel_rfl) (by kernel_rfl) (by kernel_rfl) (by kernel_rfl) h3
  refine ⟨fun j hj => ?_, t3⟩
  have := t2.cell (g := Tryd.lays7_29_ren.g 1) (by kernel_rfl) j (by rw [List.length_map]; exact hj)
  rw [this]
  congr 2
  simp [List.getD, hj]
set_option maxRecDepth 100000 in
theorem lifted (os : Os) (started : os.Started) (H : Type) (enc : TypeId × Value → H) :
    ReturnsInHanded {} Tryd.checked os 3 .any (fun w args => (Rows.hexTextsSpec.pre enc Tryd.prog Tryd.f3 [] false w args ∧ laidMetH Tryd.prog Rows.hexTextsRow.laid w) ∧ sizedMet enc Tryd.prog Tryd.f3 (OpenSpec.ofChange Rows.hexTextsSpec) false w args)
      (Rows.hexTextsSpec.post enc Tryd.prog Tryd.f3 false true false false) := by
  refine returnsInHanded_of_change_and (C := Tryd.checked) (X := fun w _ => laidMetH Tryd.prog Rows.hexTextsRow.laid w) (fun _ _ _ hh h => h.of_heap hh) own started (by kernel_rfl) Tryd.func3
    (ChangeSpec.witness_shaped (enc := enc) (C := Tryd.checked) (os := os) (X := fun w _ => laidMetH Tryd.prog Rows.hexTextsRow.laid w) false (World.laidAll Tryd.prog os Rows.hexTextsRow.laid) #[.int .u64 0] 8 (World.laidAll_os _ _ _)
      (World.shaped_of_ZipB (by kernel_rfl) (by kernel_rfl)) (by kernel_rfl) (by kernel_rfl) (by kernel_rfl)
      (by rw [MakeChecks.laidMetH_plain _ _ _ (by kernel_rfl)]; exact laidMet_laidAll _ (by kernel_rfl) (by kernel_rfl))) ?_
  intro W base args ds gs before hval0 hW _ _ hL _
  have hval : ∀ (j : Nat) t v, Tryd.f3.params[j]? = some t → args[j]? = some v → Value.okWide Tryd.prog W .any base t v := hval0
  have hW' := hW
  obtain ⟨p, q, hA0, hV, rfl, hfz, hnd⟩ := hW
  have hA : DataW.TrodAll enc Tryd.prog W 0 (fun _ => true) true Tryd.f3.params.toList args.toList ds p := hA0
  rw [Tryd.params3] at hA hval
  obtain ⟨v0, vs0, d0, ds0, p0, q0, hargs, rfl, rfl, h0, r0⟩ := trodAll_cons hA
  obtain ⟨rfl, rfl, rfl⟩ := trodAll_nil r0
  obtain rfl : args = #[v0] := by cases args; simp_all
  obtain ⟨rfl, rfl⟩ := trodVars_none hV
  obtain ⟨a0, rfl, rfl, rfl, w0⟩ := open_int Tryd.underlying22 (hval 0 22 v0 rfl rfl) h0
  clear hA0 hval0
  rw [MakeChecks.laidMetH_plain _ _ _ (by kernel_rfl)] at hL
  obtain ⟨b0, c0⟩ := bounds_u64 w0
  refine (walk a0 W b0 (by omega) (tabs_of_laid hL)).mono fun e W' ⟨he, bel⟩ => ?_
  subst he
  exact ⟨_, rfl, _, _, _, [], _, [], hW', trodAll_mk1 (shut_bool Tryd.underlying4 _), (trodAll_cons_mk (shut_int Tryd.underlying22 w0) trodAll_mk0), rfl, bel.frame _, fun h => by cases h⟩
theorem over : Rows.HexTextsSaid :=
  OpenClaim.holds_of_wide 3 Tryd.f3 rfl rfl rfl rfl rfl rfl rfl ⟨rfl, rfl, rfl, rfl, rfl⟩ rfl rfl rfl rfl rfl (by kernel_rfl) Tryd.func3 (by kernel_rfl)
    (of_decide_eq_true (by kernel_rfl)) (by unfold Func.isWrapper; first | (rw [if_pos (by decide +kernel)]; kernel_rfl) | (rw [if_neg (by decide +kernel)]; exact ⟨rfl, rfl⟩))
    (fun os started H enc _ => lifted os started H enc)
/-- THE STATEMENT -/
theorem proved : Rows.HexTextsCardSaid :=
  Claim7.holds_tied_plain_at .later [] [.data, .data, .data, .sentinel, .sentinel] true Rows.hexTextsCard.stood.harness true
    over (fun _ h => by cases h) (by kernel_rfl) (fun _ h => by cases h) hexTexts_row_tie rfl ⟨rfl, rfl⟩ (by kernel_rfl) rfl
    (fun f fn hf hfn => by
      obtain rfl : f = 3 := Option.some.inj ((show Tryd.prog.funcNamed "gimbal/gimballaw08.HexTexts" = some 3 by kernel_rfl).symm.trans hf) |>.symm
      obtain rfl : fn = Tryd.f3 := (Option.some.inj (Tryd.func3.symm.trans hfn)).symm
      exact ⟨by kernel_rfl, fun j t ht => by
        rw [Tryd.params3] at ht
        have hm : t ∈ [22] := by simpa using Array.mem_of_getElem? ht
        have hall : ([22].all fun u => !Tryd.prog.wantsStandIn u) = true := by kernel_rfl
        exact (show Tryd.prog.wantsStandIn t = false by simpa using List.all_eq_true.1 hall t hm)⟩)
    (by kernel_rfl)
#print axioms proved
end Go.Proofs.YtgpgmnmifhkmbaaDoor.hexTexts
