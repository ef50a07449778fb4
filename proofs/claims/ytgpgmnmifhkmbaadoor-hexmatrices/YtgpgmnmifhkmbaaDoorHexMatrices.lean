/-
  The law HexMatrices returns true at every input, and leaves its arguments as they were. Conditions: none but those of the card (variables of Go's library are as the program's text lays them).
-/
import Derived.Test.YtgpgmnmifhkmbaaDoorRows
import Derived.Test.YtgpgmnmifhkmbaaDoorCards
import Derived.Test.YtgpgmnmifhkmbaaDoorTie
import Derived.Test.YtgpgmnmifhkmbaaDoorHexO
import Derived.Test.YtgpgmnmifhkmbaaDoorHexL
import Derived.Test.YtgpgmnmifhkmbaaDoorHexU
import Derived.Test.YtgpgmnmifhkmbaaDoorBst
import Derived.WalkKit
import Derived.ProofKit
import Derived.OpenShut
import Derived.Lay
import Derived.LaidOnce
import Derived.SevenTiedAt
import Derived.Lib.SmallJoins
import Derived.Stop.LaidErr
import Derived.Below
import Derived.ChangeMaps5
namespace Go.Proofs.YtgpgmnmifhkmbaaDoor.hexMatrices
open Go.ChangeShapes Go.WideShapes Go.ChangeAt Go.RowKit
open Go.ChangeMaps (open_string shut_string)
set_option linter.unusedVariables false
set_option linter.unusedSimpArgs false

set_option maxRecDepth 100000 in
set_option maxHeartbeats 4000000 in
theorem walk (a0 : ByteArray) (w : World) (ws : a0.size ≤ maxLen) (hT : Tabs w) (hE : ErrVars w) :
    Calls Tryd.prog 7 #[.string a0] w fun e w' => e = .returned (.bool true) ∧ Below w.heap.size w w' := by
  have HT := Lib.hid hT
  have HE := Lib.hid hE
  unfold maxLen at ws
  clear hT hE
  by_cases hl : (500 : Int) < (a0.size : Int)
  · go_enter Tryd.func7, Tryd.ntmps7
    go_wp2_with (first | (go_at_call 9; refine (hHead _ HT.out).mono ?_; rintro e W0 ⟨rfl, hb0⟩))
    go_ret
    exact ⟨rfl, hb0⟩
  · have hl2 : (a0.size : Int) ≤ 500 := by omega
    have ea : (⟨a0.data.toList.toArray⟩ : ByteArray) = a0 := rfl
    have hll : a0.data.toList.length ≤ 1000 := by rw [← Lib.size_eq]; omega
    have HM := Lib.hid (fun W => hMatrixAny a0.data.toList W hll)
    rw [ea] at HM
    clear ea hll
    go_enter Tryd.func7, Tryd.ntmps7
    go_wp2_with (first | (go_at_call 9; refine (hHead _ HT.out).mono ?_; rintro e W0 ⟨rfl, hb0⟩; have HT0 := Lib.hid (HT.out.below hb0); have HE0 := Lib.hid (HE.out.below hb0)))
    refine (HM.out W0 HT0.out HE0.out).mono ?_
    rintro e W1 ⟨hc, hb1⟩
    have B1 := Lib.hid (bstep hb0 hb1)
    have HT1 := Lib.hid (HT0.out.below hb1)
    clear hb1
    rcases hc with rfl | ⟨m, n, v, vs, hm, hn, rfl, own, hvl, hvr, htx⟩
    · go_wp2
      go_ret
      exact ⟨rfl, ((B1.out.alloc (by have := B1.out.size; omega) _).alloc (by have := B1.out.size; simp; omega) _)⟩
    · have OW := Lib.hid own
      have HVR := Lib.hid hvr
      have TX := Lib.hid htx
      obtain ⟨g, c, hv, hob, hg0, hg1, hc0, hc1, hcl⟩ := own.at
      obtain ⟨x, hx⟩ : ∃ x : Nat, m * n = x := ⟨_, rfl⟩
      have hxi : (m : Int) * (n : Int) = (x : Int) := by rw [← hx]; push_cast; rfl
      have hxb : x ≤ 16777216 := by rw [← hx]; exact Nat.mul_le_mul hm hn
      have HX := Lib.hid hx
      rw [hx] at hvl
      subst hvl
      subst hv
      have m0 : ¬ (m : Int) < 0 := by omega
      have m1 : ¬ (4096 : Int) < (m : Int) := by omega
      have n0 : ¬ (n : Int) < 0 := by omega
      have n1 : ¬ (4096 : Int) < (n : Int) := by omega
      obtain ⟨SV, eSV⟩ : ∃ SV : World, (W1.alloc (.cells #[.int .i64 n] 3)).alloc (.cells #[.slice (some ⟨g, 0, none⟩) vs.length c] 34) = SV := ⟨_, rfl⟩
      have ES := Lib.hid eSV
      have BS : Hid (Below w.heap.size w SV) := by
        show Below _ _ _
        rw [← eSV]
        exact ((B1.out.alloc (by have := B1.out.size; omega) _).alloc (by have := B1.out.size; simp; omega) _)
      have bS : Below W1.heap.size W1 SV := by
        rw [← eSV]
        exact (((Below.refl _ W1).alloc (Nat.le_refl _) _).alloc (by simp) _)
      have hTS : Tabs SV := HT1.out.below bS
      have hvS : SeesU SV (.slice (some ⟨g, 0, none⟩) vs.length c) vs := OW.out.sees.below bS
      have hpS : SV.cell? ⟨W1.heap.size + 1, 0, none⟩ = some (.slice (some ⟨g, 0, none⟩) vs.length c) := by rw [← eSV]; simp [go_sem]
      have hqS : SV.cell? ⟨W1.heap.size, 0, none⟩ = some (.int .i64 n) := by rw [← eSV]; simp [go_sem]
      have hszS : SV.heap.size = W1.heap.size + 2 := by rw [← eSV]; simp
      have hrg : ∀ i k, 0 ≤ atL n vs i k ∧ atL n vs i k < 18446744073709551616 := by
        intro i k
        unfold atL
        rw [List.getD]
        cases h : vs[i * n + k]? with
        | none => exact ⟨by decide, by decide⟩
        | some y => exact HVR.out y (List.mem_of_getElem? h)
      have RW := Lib.hid (hRows2 m n (atL n vs) ⟨W1.heap.size + 1, 0, none⟩ ⟨W1.heap.size, 0, none⟩ SV hm hn (fun i k => (hrg i k).1) (fun i k => (hrg i k).2) hTS (fun i k W hi hk hW =>
        hAt2 _ _ n i k _ vs W ((hW.cell (p := ⟨W1.heap.size + 1, 0, none⟩) (show W1.heap.size + 1 < SV.heap.size by omega)).trans hpS) ((hW.cell (p := ⟨W1.heap.size, 0, none⟩) (show W1.heap.size < SV.heap.size by omega)).trans hqS) (hvS.below hW) (by omega) (by
          have h1 : (i + 1) * n ≤ m * n := Nat.mul_le_mul_right _ (by omega)
          rw [Nat.add_mul] at h1
          rw [← hx]
          omega)))
      obtain ⟨T, eT, zT, lT, dT⟩ := str_ob (rowsT m n (atL n vs))
      rw [eT] at RW
      have N : (T.toList == a0.toList) = true := by
        have ha : a0.toList = a0.data.toList := toL a0.data.toList
        rw [lT, ha, TX.out, beq_self_eq_true]
      clear own hvr htx hob hg0 hg1 hc0 hc1 hcl hx eSV bS hTS hvS hpS hqS hszS hrg eT zT lT dT
      go_wp2_with fail
      rw [ES.out]
      refine RW.out.mono ?_
      rintro e W2 ⟨rfl, hb2⟩
      have B2 := Lib.hid (bstep BS.out hb2)
      clear hb2
      go_wp2
      go_ret
      exact ⟨rfl, B2.out⟩
theorem own : ownKnob Tryd.prog.godebug = none := by kernel_rfl
theorem tabs_of_laid {W : World} (h : laidMet Tryd.prog Rows.hexMatricesRow.laid W) : Tabs W := by
  have h2 : laidMet Tryd.prog [("math/bits.deBruijn64tab", Rows.laid_math_bits_deBruijn64tab), ("internal/strconv.uint64pow10", Rows.laid_internal_strconv_uint64pow10), ("strconv.ErrRange", Rows.laid_strconv_ErrRange), ("strconv.ErrSyntax", Rows.laid_strconv_ErrSyntax)] W := h.tail
  have h3 : laidMet Tryd.prog [("internal/strconv.uint64pow10", Rows.laid_internal_strconv_uint64pow10), ("strconv.ErrRange", Rows.laid_strconv_ErrRange), ("strconv.ErrSyntax", Rows.laid_strconv_ErrSyntax)] W := h2.tail
  have t2 : Lib.TabIs Tryd.prog W "math/bits.deBruijn64tab" .u8 (Lib.deBruijn64tab.map (fun (n : Nat) => (n : Int))) := Lib.tabIs_of_head (g := 0) (t := 83) (e := 5) (n := 64) (by kernel_rfl) (by kernel_rfl) (by kernel_rfl) (by kernel_rfl) (by kernel_rfl) (by kernel_rfl) h2
  have t3 : Lib.TabIs Tryd.prog W "internal/strconv.uint64pow10" .u64 Lib.pow10Tab := Lib.tabIs_of_head (g := 5) (t := 118) (e := 22) (n := 20) (by kernel_rfl) (by kernel_rfl) (by kernel_rfl) (by kernel_rfl) (by kernel_rfl) (by kernel_rfl) h3
  refine ⟨fun j hj => ?_, t3⟩
  have := t2.cell (g := Tryd.lays7_29_ren.g 1) (by kernel_rfl) j (by rw [List.length_map]; exact hj)
  rw [this]
  congr 2
  simp [List.getD, hj]
theorem errs_of_laid {W : World} (h : laidMet Tryd.prog Rows.hexMatricesRow.laid W) : ErrVars W := by
  have h4 : laidMet Tryd.prog [("strconv.ErrRange", Rows.laid_strconv_ErrRange), ("strconv.ErrSyntax", Rows.laid_strconv_ErrSyntax)] W := h.tail.tail.tail
  have h5 : laidMet Tryd.prog [("strconv.ErrSyntax", Rows.laid_strconv_ErrSyntax)] W := h4.tail
  exact ⟨errvar_any (g := 6) (by kernel_rfl) (by kernel_rfl) h5, errvar_any (g := 7) (by kernel_rfl) (by kernel_rfl) h4⟩
set_option maxRecDepth 100000 in
theorem lifted (os : Os) (started : os.Started) (H : Type) (enc : TypeId × Value → H) :
    ReturnsInHanded {} Tryd.checked os 7 .any (fun w args => (Rows.hexMatricesSpec.pre enc Tryd.prog Tryd.f7 [] false w args ∧ laidMetH Tryd.prog Rows.hexMatricesRow.laid w) ∧ sizedMet enc Tryd.prog Tryd.f7 (OpenSpec.ofChange Rows.hexMatricesSpec) false w args)
      (Rows.hexMatricesSpec.post enc Tryd.prog Tryd.f7 false true false false) := by
  refine returnsInHanded_of_change_and (C := Tryd.checked) (X := fun w _ => laidMetH Tryd.prog Rows.hexMatricesRow.laid w) (fun _ _ _ hh h => h.of_heap hh) own started (by kernel_rfl) Tryd.func7
    (ChangeSpec.witness_shaped (enc := enc) (C := Tryd.checked) (os := os) (X := fun w _ => laidMetH Tryd.prog Rows.hexMatricesRow.laid w) false (World.laidAll Tryd.prog os Rows.hexMatricesRow.laid) #[.string ⟨#[]⟩] 8 (World.laidAll_os _ _ _)
      (World.shaped_of_ZipB (by kernel_rfl) (by kernel_rfl)) (by kernel_rfl) (by kernel_rfl) (by kernel_rfl)
      (by rw [MakeChecks.laidMetH_plain _ _ _ (by kernel_rfl)]; exact laidMet_laidAll _ (by kernel_rfl) (by kernel_rfl))) ?_
  intro W base args ds gs before hval0 hW _ _ hL _
  have hval : ∀ (j : Nat) t v, Tryd.f7.params[j]? = some t → args[j]? = some v → Value.okWide Tryd.prog W .any base t v := hval0
  have hW' := hW
  obtain ⟨p, q, hA0, hV, rfl, hfz, hnd⟩ := hW
  have hA : DataW.TrodAll enc Tryd.prog W 0 (fun _ => true) true Tryd.f7.params.toList args.toList ds p := hA0
  rw [Tryd.params7] at hA hval
  obtain ⟨v0, vs0, d0, ds0, p0, q0, hargs, rfl, rfl, h0, r0⟩ := trodAll_cons hA
  obtain ⟨rfl, rfl, rfl⟩ := trodAll_nil r0
  obtain rfl : args = #[v0] := by cases args; simp_all
  obtain ⟨rfl, rfl⟩ := trodVars_none hV
  obtain ⟨a0, rfl, rfl, rfl, w0⟩ := open_string Tryd.underlying9 (hval 0 9 v0 rfl rfl) h0
  clear hA0 hval0
  rw [MakeChecks.laidMetH_plain _ _ _ (by kernel_rfl)] at hL
  refine (walk a0 W w0 (tabs_of_laid hL) (errs_of_laid hL)).mono fun e W' ⟨he, bel⟩ => ?_
  subst he
  exact ⟨_, rfl, _, _, _, [], _, [], hW', trodAll_mk1 (shut_bool Tryd.underlying4 _), (trodAll_cons_mk (shut_string Tryd.underlying9 w0) trodAll_mk0), rfl, bel.frame _, fun h => by cases h⟩
theorem over : Rows.HexMatricesSaid :=
  OpenClaim.holds_of_wide 7 Tryd.f7 rfl rfl rfl rfl rfl rfl rfl ⟨rfl, rfl, rfl, rfl, rfl⟩ rfl rfl rfl rfl rfl (by kernel_rfl) Tryd.func7 (by kernel_rfl)
    (of_decide_eq_true (by kernel_rfl)) (by unfold Func.isWrapper; first | (rw [if_pos (by decide +kernel)]; kernel_rfl) | (rw [if_neg (by decide +kernel)]; exact ⟨rfl, rfl⟩))
    (fun os started H enc _ => lifted os started H enc)
/-- THE STATEMENT -/
theorem proved : Rows.HexMatricesCardSaid :=
  Claim7.holds_tied_plain_at .later [] [.data, .data, .data, .sentinel, .sentinel] true Rows.hexMatricesCard.stood.harness true
    over (fun _ h => by cases h) (by kernel_rfl) (fun _ h => by cases h) hexMatrices_row_tie rfl ⟨rfl, rfl⟩ (by kernel_rfl) rfl
    (fun f fn hf hfn => by
      obtain rfl : f = 7 := Option.some.inj ((show Tryd.prog.funcNamed Rows.hexMatricesRow.func = some 7 by kernel_rfl).symm.trans hf) |>.symm
      obtain rfl : fn = Tryd.f7 := (Option.some.inj (Tryd.func7.symm.trans hfn)).symm
      exact ⟨by kernel_rfl, fun j t ht => by
        rw [Tryd.params7] at ht
        have hm : t ∈ [9] := by simpa using Array.mem_of_getElem? ht
        have hall : ([9].all fun u => !Tryd.prog.wantsStandIn u) = true := by kernel_rfl
        exact (show Tryd.prog.wantsStandIn t = false by simpa using List.all_eq_true.1 hall t hm)⟩)
    (by kernel_rfl)
#print axioms proved
end Go.Proofs.YtgpgmnmifhkmbaaDoor.hexMatrices
