/-
  The law VecNormSteps returns true at every input (any slice of patterns), and leaves its argument as it was. No conditions.
-/
import Derived.Test.YtokgfeeaoioegaaRows
import Derived.WalkKit
import Derived.ProofKit
import Derived.OpenShut
import Derived.Test.YtokgfeeaoioegaaGrI
import Derived.ShutString
import Derived.ChangeOld
import Derived.Below
namespace Go.Proofs.Ytokgfeeaoioegaa.vecNormSteps
open Go.ChangeShapes Go.WideShapes Go.ChangeAt Go.RowKit
open Go.ChangeMaps (open_string shut_string)
set_option linter.unusedVariables false

theorem own : ownKnob Try.prog.godebug = none := by kernel_rfl
theorem laidOut : laidOutB Try.prog = true := by kernel_rfl

/-- WHAT THE WALK IS TOLD OF A SLICE OF INTEGERS THAT CAME IN: it is nil; or it leads to a row of 'cap' cells, the numbers 'zs' (the first 'len' are its elements, the rest its spare room), each fitting its kind. -/
def IsRow (k : IntKind) (w : World) (a : Option Addr) (len cap : Nat) (zs : List Int) : Prop :=
  (a = none ∧ len = 0 ∧ cap = 0 ∧ zs = []) ∨
  ∃ x, a = some x ∧ len ≤ cap ∧ cap ≤ maxLen ∧ zs.length = cap ∧ (∀ i, i < zs.length → w.cell? (x.add i) = some (.int k (zs.getD i 0))) ∧ ∀ n ∈ zs, (Lit.int k n).wf = true

theorem row_of (w : World) (a : Option Addr) (len cap : Nat) (zs : List Int) (h : IsRow .u64 w a len cap zs) : URow w a len cap (fun i => zs.getD i 0) := by
  rcases h with ⟨rfl, rfl, rfl, rfl⟩ | ⟨x, rfl, h1, h2, h3, h4, h5⟩
  · exact ⟨Nat.le_refl _, Nat.zero_le _, fun i => by simp, fun h => absurd h (Nat.lt_irrefl 0)⟩
  · refine ⟨h1, h2, fun i => ?_, fun hp => ?_⟩
    · show 0 ≤ zs.getD i 0 ∧ zs.getD i 0 < 18446744073709551616
      rcases Nat.lt_or_ge i zs.length with g | g
      · have hm : zs.getD i 0 ∈ zs := by
          rw [List.getD_eq_getElem?_getD, List.getElem?_eq_getElem g]
          exact List.getElem_mem g
        obtain ⟨q1, q2⟩ := bounds_u64 (h5 _ hm)
        exact ⟨q1, by omega⟩
      · rw [List.getD_eq_getElem?_getD, List.getElem?_eq_none g]
        simp
    · obtain ⟨b, o, s⟩ := x
      have hs : s = none := by simpa [Addr.add] using World.cell?_spot (h4 0 (by omega))
      subst hs
      have hb : b < w.heap.size := by
        have := World.block_lt_of_cell? _ _ (h4 0 (by omega))
        simpa [Addr.add] using this
      refine ⟨b, o, rfl, hb, fun i hi => ?_⟩
      have := h4 i (by omega)
      rw [add_plain] at this
      exact this
theorem no_pow {X : Nat → Int} {n : Nat} {q : Int} (h : IsPow X n q) (hf : FinX X n) : ¬ NoPow X n := by
  rintro (g | ⟨i, hi, g⟩)
  · obtain ⟨_, _, _, i, hi, h4⟩ := h
    rw [g i hi] at h4
    have := Nat.two_pow_pos (q + 1074).toNat
    have e : V 0 = 0 := rfl
    omega
  · exact g (hf i hi)
theorem or0_all : ∀ j : Fin 256, bits .or .u8 0 ((j.1 : Nat) : Int) = ((j.1 : Nat) : Int) := by decide +kernel
theorem or0 (F : Int) (h0 : 0 ≤ F) (h1 : F < 256) : bits .or .u8 0 F = F := by
  have := or0_all ⟨F.toNat, by omega⟩
  simp only at this
  rw [show ((F.toNat : Nat) : Int) = F by omega] at this
  exact this
theorem or_bd (F f : Int) : 0 ≤ bits .or .u8 F f ∧ bits .or .u8 F f < 256 := by
  have h := bounds_u8 (wf_bits .or .u8 F f)
  omega
theorem calc_cell {w : World} {k : Nat} {F : Int} (h : IsCalc w (.pointer (some ⟨k, 0, none⟩)) (some k) F) : w.cell? ⟨k, 0, none⟩ = some (.int .u8 F) ∧ w.frozen? ⟨k, 0, none⟩ = false ∧ k < w.heap.size := by
  rcases h with ⟨_, h⟩ | ⟨j, _, h2, h3, h4, h5⟩
  · cases h
  · injection h2 with h2
    subst h2
    exact ⟨h4, h5, h3⟩
set_option maxRecDepth 100000 in
set_option maxHeartbeats 4000000 in
theorem walk (a0 : Option Addr) (len0 cap0 : Nat) (z0 : List Int) (w : World) (w0 : IsRow .u64 w a0 len0 cap0 z0) :
    Calls Try.prog 12 #[.slice a0 len0 cap0] w fun e w' => e = .returned (.bool true) ∧ Below w.heap.size w w' := by
  have hr := row_of w a0 len0 cap0 z0 w0
  generalize (fun i => z0.getD i 0) = X at hr
  clear w0
  by_cases hl : 40 < len0
  · obtain ⟨h1, h2, hz, h4⟩ := hr
    have hl2 : (40 : Int) < (len0 : Int) := by omega
    clear hz h4
    go_enter Try.func12, Try.ntmps12
    go_wp2_with fail
    refine (lHead10 _).mono ?_
    rintro e w1 ⟨rfl, hb1⟩
    go_wp2
    go_ret
    exact ⟨ret_eq rfl, hb1⟩
  · have hl2 : ¬ (40 : Int) < (len0 : Int) := by omega
    have HR : Hid (URow _ _ _ _ _) := hr
    clear hr
    go_enter Try.func12, Try.ntmps12
    go_wp2_with fail
    refine (lHead10 _).mono ?_
    rintro e w1 ⟨rfl, hb1⟩
    have hz1 := hb1.size
    have B1 : Hid (Below w.heap.size w w1) := hb1
    clear hb1
    go_wp2_with fail
    refine (vNrm _ (some w1.heap.size) 0 _ _ _ X _ (calc_new w1) (HR.out.below (bmore B1.out _)) (HR.out.apt (fun k e => by injection e with e; omega)) (by omega)).mono ?_
    rintro e w2 ⟨hB2, hQ⟩
    have B2 : Hid (Below w.heap.size w w2) := (bmore B1.out _).trans (hB2.below _ (by simp; omega) (fun k e => by injection e with e; omega))
    clear hB2
    rcases hQ with ⟨q, hF, hP, rfl, hC⟩ | ⟨hN, B, t, hG, rfl, hC⟩
    · obtain ⟨q0, q1⟩ : -1074 ≤ q ∧ q ≤ 1023 := ⟨hP.1, hP.2.1⟩
      have HF : Hid (FinX X len0) := hF
      have HP : Hid (IsPow X len0 q) := hP
      have C2 : Hid (IsCalc _ _ _ _) := hC
      clear hF hP hC
      go_wp2_with fail
      refine (vPower _ _ _ X _ (HR.out.below B2.out) (by omega)).mono ?_
      rintro e w3 ⟨q', ok, rfl, rfl, hq⟩
      rcases hq with ⟨rfl, _, hP'⟩ | ⟨_, _, hN⟩
      · obtain rfl := hP'.only HP.out
        clear hP'
        have hB2 := B2.out.size
        have CN : Hid (IsCalc _ _ _ _) := calc_new w3
        have BN : Hid (Below w3.heap.size w3 (w3.alloc (.cells #[.int .u8 0] 66))) := (Below.refl _ _).alloc (Nat.le_refl _) _
        have hdl : decide ((40 : Int) < (len0 : Int)) = false := by simp; omega
        have NV : Hid (nrmV X len0 q' = scaleS (sqrtS (dotV (unitS X q') (unitS X q') len0)).1 q') := rfl
        have NF : Hid (nrmF X len0 q' = bits .or .u8 (nrmV X len0 q').2 (bits .and .u8 (dotF 0 (unitS X q') (unitS X q') len0) 1)) := rfl
        obtain ⟨r, hr⟩ : ∃ r, (nrmV X len0 q').1 = r := ⟨_, rfl⟩
        rw [hr]
        have HRr : Hid (_ = _) := hr
        clear hr
        go_wp2
        go_loopw [10, 54] (fun s i wr => ∃ k : Nat, s = .int .u64 (dotV (unitS X q') (unitS X q') k) ∧ i = .int .i64 (k : Int) ∧ k ≤ len0 ∧ Hid (IsCalc wr (.pointer (some ⟨w3.heap.size, 0, none⟩)) (some w3.heap.size) (dotF 0 (unitS X q') (unitS X q') k)) ∧ Hid (Below w3.heap.size w3 wr)) (fun _ i _ => len0 - (intOf i).toNat)
        case atStart => exact ⟨0, rfl, rfl, Nat.zero_le _, CN.out, BN.out⟩
        case round =>
          obtain ⟨k, rfl, rfl, hk, C, B⟩ := hrel
          by_cases hlt : (k : Int) < (len0 : Int)
          · obtain ⟨_, _, zx, fx⟩ := HR.out.below (bstep B2.out B.out)
            obtain ⟨b1, o1, rfl, l1, e1⟩ := fx (by omega)
            have x1 := e1 k (by omega)
            obtain ⟨x0, x2⟩ := zx k
            obtain ⟨d0, d1⟩ := dotV_rng (unitS X q') (unitS X q') k
            clear zx fx e1
            have SV : Hid ((addS (dotV (unitS X q') (unitS X q') k) (mulS (unitS X q' k) (unitS X q' k)).1).1 = dotV (unitS X q') (unitS X q') (k + 1)) := rfl
            have SF : Hid (bits .or .u8 (bits .or .u8 (dotF 0 (unitS X q') (unitS X q') k) (mulS (unitS X q' k) (unitS X q' k)).2) (addS (dotV (unitS X q') (unitS X q') k) (mulS (unitS X q' k) (unitS X q' k)).1).2 = dotF 0 (unitS X q') (unitS X q') (k + 1)) := rfl
            have SU : Hid (unitS X q' k = (scaleS (X k) (-q')).1) := rfl
            obtain ⟨x, hx⟩ : ∃ x, X k = x := ⟨_, rfl⟩
            obtain ⟨d, hd⟩ : ∃ d, dotV (unitS X q') (unitS X q') k = d := ⟨_, rfl⟩
            obtain ⟨F1, hF1⟩ : ∃ d, dotF 0 (unitS X q') (unitS X q') k = d := ⟨_, rfl⟩
            rw [hx] at x1 x0 x2 SU
            rw [hd] at d0 d1 SV SF ⊢
            rw [hF1] at C SF
            obtain ⟨u0, u1, _, _⟩ := scaleS_bd x (-q') x0 x2
            obtain ⟨u, hu⟩ : ∃ u, unitS X q' k = u := ⟨_, rfl⟩
            rw [hu] at SV SF SU
            rw [← SU.out] at u0 u1
            clear hx hd hF1 hu
            go_wp2_with fail
            refine (mScale x (-q') _ x0 x2 (by omega) (by omega)).mono ?_
            rintro e w4 ⟨rfl, hb4⟩
            rw [← SU.out]
            have C4 : Hid (IsCalc _ _ _ _) := C.out.later hb4
            have B4 : Hid (Below w3.heap.size w3 w4) := B.out.trans (hb4.mono B.out.size)
            clear hb4 C B
            obtain ⟨m0, m1⟩ := mulS_rng u u
            go_wp2_with fail
            refine (uMul _ (some w3.heap.size) u u F1 _ C4.out u0 u1 u0 u1).mono ?_
            rintro e w5 ⟨rfl, hC5, hB5⟩
            obtain ⟨M, hM⟩ : ∃ M, mulS u u = M := ⟨_, rfl⟩
            rw [hM] at m0 m1 hC5 SV SF ⊢
            clear hM
            obtain ⟨m, fm⟩ := M
            simp only at m0 m1 SV SF
            have C5 : Hid (IsCalc _ _ _ _) := hC5
            have B5 : Hid (Below w3.heap.size w3 w5) := B4.out.trans (hB5.below _ B4.out.size (fun k e => by injection e with e; omega))
            clear hC5 hB5 C4 B4
            go_wp2_with fail
            refine (uAdd _ (some w3.heap.size) d m _ _ C5.out d0 d1 m0 m1).mono ?_
            rintro e w6 ⟨rfl, hC6, hB6⟩
            rw [SV.out]
            rw [SF.out] at hC6
            have C6 : Hid (IsCalc _ _ _ _) := hC6
            have B6 : Hid (Below w3.heap.size w3 w6) := B5.out.trans (hB6.below _ B5.out.size (fun k e => by injection e with e; omega))
            clear hC6 hB6 C5 B5
            go_wp2
            go_roundw
            case rel => exact ⟨k + 1, rfl, by go_num, by omega, C6, B6⟩
            case measure => simp [intOf]; omega
          · obtain rfl : k = len0 := by omega
            obtain ⟨d0, d1⟩ := dotV_rng (unitS X q') (unitS X q') k
            obtain ⟨D, hD⟩ : ∃ D, dotV (unitS X q') (unitS X q') k = D := ⟨_, rfl⟩
            obtain ⟨G, hG⟩ : ∃ G, dotF 0 (unitS X q') (unitS X q') k = G := ⟨_, rfl⟩
            rw [hD] at d0 d1 NV ⊢
            rw [hG] at NF C
            clear hD hG
            obtain ⟨s0, s1, s2, s3⟩ := sqrtS_bd D d0 d1
            go_wp2_with fail
            refine (mSqrt D _ d0 d1).mono ?_
            rintro e w4 ⟨rfl, hb4⟩
            have C4 : Hid (IsCalc _ _ _ _) := C.out.later hb4
            have B4 : Hid (Below w3.heap.size w3 w4) := B.out.trans (hb4.mono B.out.size)
            clear hb4 C B
            obtain ⟨R, hR⟩ : ∃ R, sqrtS D = R := ⟨_, rfl⟩
            rw [hR] at s0 s1 s2 s3 NV ⊢
            obtain ⟨r1, rf⟩ := R
            simp only at s0 s1 s2 s3 NV
            clear hR
            go_wp2_with fail
            refine (mScale r1 q' _ s0 s1 (by omega) (by omega)).mono ?_
            rintro e w5 ⟨rfl, hb5⟩
            have B5 : Hid (Below w3.heap.size w3 w5) := B4.out.trans (hb5.mono B4.out.size)
            obtain ⟨oc, oz, ol⟩ := calc_cell (C4.out.later hb5)
            obtain ⟨cc, cz, cl⟩ := calc_cell (C2.out.later B5.out)
            clear hb5 C4 B4
            obtain ⟨T, hT⟩ : ∃ T, scaleS r1 q' = T := ⟨_, rfl⟩
            have NV' : Hid (nrmV X k q' = T) := NV.out.trans hT
            rw [hT]
            clear hT NV
            obtain ⟨t, tf⟩ := T
            have hrt : r = t := by
              have := HRr.out
              rw [NV'.out] at this
              exact this.symm
            subst hrt
            have hnf := NF.out
            rw [NV'.out] at hnf
            have hbd := or_bd tf (bits .and .u8 G 1)
            have ho := or0 _ hbd.1 hbd.2
            rw [hnf, show (r, tf).2 = tf from rfl, ho] at cc
            clear hnf hbd ho NF NV' HRr
            have BE : Hid (Below w.heap.size w w5) := bstep B2.out B5.out
            go_wp2
            go_quiet (fail)
            go_wp2
            go_ret
            exact ⟨ret_eq rfl, below_drewN BE.out _⟩
      · exact absurd hN (no_pow HP.out HF.out)
    · have HN : Hid (NoPow X len0) := hN
      have HG : Hid (Great _ _ _ _) := hG
      obtain ⟨cc, cz, cl⟩ := calc_cell hC
      clear hC hN hG
      go_wp2_with fail
      refine (vPower _ _ _ X _ (HR.out.below B2.out) (by omega)).mono ?_
      rintro e w3 ⟨q', ok, rfl, rfl, hq⟩
      rcases hq with ⟨_, hF, hP'⟩ | ⟨rfl, rfl, _⟩
      · exact absurd HN.out (no_pow hP' hF)
      · go_wp2_with fail
        refine (oGreat _ _ _ X _ (HR.out.below B2.out) (by omega)).mono ?_
        rintro e w4 ⟨B', t', rfl, hg, rfl⟩
        obtain rfl := hg.only HG.out
        clear hg
        go_wp2
        go_ret
        exact ⟨ret_eq rfl, B2.out⟩

/-! ### THE ROW's STEP: WRITTEN OUT: LEAVE IT -/
set_option maxRecDepth 100000 in
theorem lifted (os : Os) (started : os.Started) (H : Type) (enc : TypeId × Value → H) :
    ReturnsInHanded {} Try.checked os 12 .any (Rows.vecNormStepsSpec.pre6 enc Try.prog Try.f12 Rows.vecNormStepsRow.domain false) (Rows.vecNormStepsSpec.post enc Try.prog Try.f12 false true false false) := by
  refine returnsInHanded_of_change (C := Try.checked) own started (by kernel_rfl) Try.func12
    (ChangeSpec.witness6 (enc := enc) (C := Try.checked) false ⟨#[], #[.slice none 0 0], []⟩ 8 (by kernel_rfl) (by kernel_rfl) (by kernel_rfl) (by kernel_rfl)) ?_
  intro W base args ds gs before hval0 hW hcnd _
  have hval : ∀ (j : Nat) t v, Try.f12.params[j]? = some t → args[j]? = some v → Value.okWide Try.prog W .any base t v := hval0
  have hW' := hW
  obtain ⟨p, q, hA0, hV, rfl, hfz, hnd⟩ := hW
  have hA : DataW.TrodAll enc Try.prog W 0 (fun _ => true) true Try.f12.params.toList args.toList ds p := hA0
  rw [Try.params12] at hA hval
  obtain ⟨v0, vs0, d0, ds0, p0, q0, hargs, rfl, rfl, h0, r0⟩ := trodAll_cons hA
  obtain ⟨rfl, rfl, rfl⟩ := trodAll_nil r0
  obtain rfl : args = #[v0] := by cases args; simp_all
  obtain ⟨rfl, rfl⟩ := trodVars_none hV
  obtain ⟨a0, len0, cap0, rfl⟩ := okWide_slice Try.underlying23 (hval 0 23 v0 rfl rfl)
  have k0 := h0
  have lt0 : ∀ x ∈ p0, x.block < W.heap.size := by obtain ⟨m, hm⟩ := k0; exact DataW.trod_lt m _ _ _ hm
  obtain ⟨z0, w0⟩ : ∃ zs, IsRow .u64 W a0 len0 cap0 zs := by
    obtain ⟨fuel, hf⟩ := h0
    rcases open_ints Try.underlying23 Try.underlying26 (by kernel_rfl) hf with ⟨hcs, _⟩ | ⟨x, l, c, zs, hcs, _, hl, hm, hz, _, hcell, hwz⟩
    · simp [Value.cells] at hcs
      obtain ⟨rfl, rfl, rfl⟩ := hcs
      exact ⟨[], .inl ⟨rfl, rfl, rfl, rfl⟩⟩
    · simp [Value.cells] at hcs
      obtain ⟨rfl, rfl, rfl⟩ := hcs
      exact ⟨zs, .inr ⟨_, rfl, hl, hm, by simpa using hz, hcell, hwz⟩⟩
  clear hA0 hval0
  refine (walk a0 len0 cap0 z0 W w0).mono fun e W' ⟨he, bel⟩ => ?_
  subst he
  exact ⟨_, rfl, _, _, _, [], _, [], hW', trodAll_mk1 (shut_bool Try.underlying4 _), (trodAll_cons_mk (Below.trod laidOut (by kernel_rfl) (of_decide_eq_true (by kernel_rfl)) k0 bel lt0) trodAll_mk0), rfl, bel.frame _, fun h => by cases h⟩

theorem over : Rows.vecNormStepsRow.holds Try.pinned (OpenSpec.ofChange Rows.vecNormStepsSpec) :=
  OpenClaim.holds_of_wide 12 Try.f12 rfl rfl rfl rfl rfl rfl rfl ⟨rfl, rfl, rfl, rfl, rfl⟩ rfl rfl rfl rfl rfl (by kernel_rfl) Try.func12 (by kernel_rfl)
    (of_decide_eq_true (by kernel_rfl)) (by unfold Func.isWrapper; first | (rw [if_pos (by decide +kernel)]; kernel_rfl) | (rw [if_neg (by decide +kernel)]; exact ⟨rfl, rfl⟩))
    (fun os started H enc _ => lifted os started H enc)

/-- ████ THE STATEMENT ████ -/
theorem proved : Rows.VecNormStepsSaid := over
#print axioms proved
end Go.Proofs.Ytokgfeeaoioegaa.vecNormSteps
