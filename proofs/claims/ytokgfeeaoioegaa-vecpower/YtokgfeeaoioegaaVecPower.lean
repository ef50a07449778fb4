/-
  The law VecPower returns true at every input (any slice of patterns, any integer), and leaves its arguments as they were. No conditions.
-/
import Derived.Test.YtokgfeeaoioegaaRows
import Derived.WalkKit
import Derived.ProofKit
import Derived.OpenShut
import Derived.OwnWalk
import Derived.Test.YtokgfeeaoioegaaGrI
import Derived.ShutString
import Derived.ChangeOld
import Derived.Below
namespace Go.Proofs.Ytokgfeeaoioegaa.vecPower
open Go.ChangeShapes Go.WideShapes Go.ChangeAt Go.RowKit
open Go.ChangeMaps (open_string shut_string)
set_option linter.unusedVariables false

theorem own : ownKnob Try.prog.godebug = none := by kernel_rfl
theorem laidOut : laidOutB Try.prog = true := by kernel_rfl

/-- WHAT THE WALK IS TOLD OF A SLICE OF INTEGERS THAT CAME IN: it is nil; or it leads to a row of 'cap' cells, the numbers 'zs' (the first 'len' are its elements, the rest its spare room), each fitting its kind. -/
def IsRow (k : IntKind) (w : World) (a : Option Addr) (len cap : Nat) (zs : List Int) : Prop :=
  (a = none ∧ len = 0 ∧ cap = 0 ∧ zs = []) ∨
  ∃ x, a = some x ∧ len ≤ cap ∧ cap ≤ maxLen ∧ zs.length = cap ∧ (∀ i, i < zs.length → w.cell? (x.add i) = some (.int k (zs.getD i 0))) ∧ ∀ n ∈ zs, (Lit.int k n).wf = true

theorem row_of (w : World) (a : Option Addr) (len cap : Nat) (zs : List Int) (h : IsRow .u64 w a len cap zs) : URow w a len cap (fun i => zs.getD i 0) := by
  rcases h with ⟨rfl, rfl, rfl, rfl⟩ | ⟨x, rfl, h1, h2, h3, h4, h5⟩
  · exact ⟨Nat.le_refl _, Nat.zero_le _, fun i => by simp, fun h => absurd h (Nat.lt_irrefl 0)⟩
  · refine ⟨h1, h2, fun i => ?_, fun hp => ?_⟩
    · show 0 ≤ zs.getD i 0 ∧ zs.getD i 0 < 18446744073709551616
      rcases Nat.lt_or_ge i zs.length with g | g
      · have hm : zs.getD i 0 ∈ zs := by
          rw [List.getD_eq_getElem?_getD, List.getElem?_eq_getElem g]
          exact List.getElem_mem g
        obtain ⟨q1, q2⟩ := bounds_u64 (h5 _ hm)
        exact ⟨q1, by omega⟩
      · rw [List.getD_eq_getElem?_getD, List.getElem?_eq_none g]
        simp
    · obtain ⟨b, o, s⟩ := x
      have hs : s = none := by simpa [Addr.add] using World.cell?_spot (h4 0 (by omega))
      subst hs
      have hb : b < w.heap.size := by
        have := World.block_lt_of_cell? _ _ (h4 0 (by omega))
        simpa [Addr.add] using this
      refine ⟨b, o, rfl, hb, fun i hi => ?_⟩
      have := h4 i (by omega)
      rw [add_plain] at this
      exact this
set_option maxRecDepth 100000 in
set_option maxHeartbeats 1000000 in
theorem walk (a0 : Option Addr) (len0 cap0 : Nat) (z0 : List Int) (a1 : Int) (w : World) (w0 : IsRow .u64 w a0 len0 cap0 z0) (w1 : (Lit.int .i64 a1).wf = true) :
    Calls Try.prog 14 #[.slice a0 len0 cap0, .int .i64 a1] w fun e w' => e = .returned (.bool true) ∧ Below w.heap.size w w' := by
  have hr := row_of w a0 len0 cap0 z0 w0
  generalize (fun i => z0.getD i 0) = X at hr
  clear w0
  by_cases hl : 40 < len0
  · obtain ⟨h1, h2, hz, h4⟩ := hr
    have hl2 : (40 : Int) < (len0 : Int) := by omega
    clear hz h4
    go_enter Try.func14, Try.ntmps14
    go_wp2_with fail
    refine (lHead10 _).mono ?_
    rintro e w1 ⟨rfl, hb1⟩
    go_wp2
    go_ret
    exact ⟨ret_eq rfl, hb1⟩
  · have hl2 : ¬ (40 : Int) < (len0 : Int) := by omega
    have HR : Hid (URow _ _ _ _ _) := hr
    clear hr
    have hand := and_255_i a1
    obtain ⟨N, hN⟩ : ∃ N, a1 % 256 - 128 = N := ⟨_, rfl⟩
    have N0 : -128 ≤ N := by omega
    have N1 : N ≤ 127 := by omega
    have hwr : IntKind.i64.wrap (a1 % 256 - 128) = N := by rw [hN, IntKind.wrap_i64]; omega
    obtain ⟨Y, hY⟩ : ∃ Y : Nat → Int, Y = fun i => (scaleS (X i) N).1 := ⟨_, rfl⟩
    have YB : Hid (∀ i, 0 ≤ Y i ∧ Y i < 18446744073709551616) := by
      intro i
      rw [hY]
      have := scaleS_bd (X i) N (HR.out.2.2.1 i).1 (HR.out.2.2.1 i).2
      exact ⟨this.1, this.2.1⟩
    have HY : Hid (Y = fun i => (scaleS (X i) N).1) := hY
    clear hY hN
    go_enter Try.func14, Try.ntmps14
    go_wp2_with fail
    refine (lHead10 _).mono ?_
    rintro e w1 ⟨rfl, hb1⟩
    have hz1 := hb1.size
    have B1 : Hid (Below w.heap.size w w1) := hb1
    clear hb1
    have hdl : decide ((40 : Int) < (len0 : Int)) = false := by simp; omega
    go_wp2
    go_loopw [5, 26] (fun y i wr => ∃ k : Nat, i = .int .i64 (k : Int) ∧ k ≤ len0 ∧ Hid (OwnU wr w.heap.size y (lst Y k)) ∧ Hid (∀ i, i < k → (scaleS (X i) N).2 = 0 ∧ mag (X i) < 9218868437227405312) ∧ Hid (Below w.heap.size w wr)) (fun _ i _ => len0 - (intOf i).toNat)
    case atStart => exact ⟨0, rfl, Nat.zero_le _, OwnU.new w1 _ hz1, fun i h => absurd h (Nat.not_lt_zero i), bmore B1.out _⟩
    case round =>
      rename_i y i
      obtain ⟨k, rfl, hk, O, A, B⟩ := hrel
      by_cases hlt : (k : Int) < (len0 : Int)
      · obtain ⟨_, _, zx, fx⟩ := HR.out.below B.out
        obtain ⟨b1, o1, rfl, l1, e1⟩ := fx (by omega)
        have x1 := e1 k (by omega)
        obtain ⟨x0, x2⟩ := zx k
        clear zx fx e1
        have AK : Hid ((scaleS (X k) N).2 = 0 → mag (X k) < 9218868437227405312 → ∀ i, i < k + 1 → (scaleS (X i) N).2 = 0 ∧ mag (X i) < 9218868437227405312) := by
          intro g1 g2 i hi
          rcases Nat.lt_or_ge i k with h | h
          · exact A.out i h
          · rw [show i = k by omega]; exact ⟨g1, g2⟩
        have YK : Hid (Y k = (scaleS (X k) N).1) := by show _ = _; rw [HY.out]
        obtain ⟨x, hx⟩ : ∃ x, X k = x := ⟨_, rfl⟩
        rw [hx] at x1 x0 x2 AK YK
        clear hx A
        obtain ⟨s0, s1, f0, f1⟩ := scaleS_bd x N x0 x2
        go_wp2_with fail
        refine (mScale x N _ x0 x2 (by omega) (by omega)).mono ?_
        rintro e w4 ⟨rfl, hb4⟩
        have O4 : Hid (OwnU _ _ _ _) := O.out.below hb4
        have B4 : Hid (Below w.heap.size w w4) := bstep B.out hb4
        have hz4 := B4.out.size
        clear hb4 O B
        obtain ⟨T, hT⟩ : ∃ T, scaleS x N = T := ⟨_, rfl⟩
        rw [hT] at s0 s1 f0 f1 AK YK ⊢
        clear hT
        obtain ⟨s, f⟩ := T
        simp only at s0 s1 f0 f1 AK YK
        by_cases hf0 : f = 0
        · subst hf0
          have FM : Hid (decide (x / 4503599627370496 % 2048 < 2047) = decide (mag x < 9218868437227405312)) := by
            show _ = _
            rw [decide_eq_decide]
            exact fin_mag x
          by_cases hm : mag x < 9218868437227405312
          · have A2 : Hid (∀ i, i < k + 1 → (scaleS (X i) N).2 = 0 ∧ mag (X i) < 9218868437227405312) := AK.out rfl hm
            have FT : Hid (decide (x / 4503599627370496 % 2048 < 2047) = true) := by
              show _ = _
              rw [FM.out]
              exact decide_eq_true hm
            clear AK FM hm
            go_wp2_with (first | (go_at_call 57; refine (finite_any _ _ x0 x2).mono ?_; rintro e w' ⟨rfl, hw⟩; rw [FT.out]; have hw2 := hw.symm; clear hw; subst hw2) | (at_builtin; refine wpListU_app rfl _ _ rfl w.heap.size _ (lst Y k) rfl (O4.out.alloc _) _ [s] rfl (SeesU.one w4 s) (by rw [lst_len]; simp; omega) (by simp; omega) ?_))
            intro v5 w5 own5 bel5 _ _
            have O5 : Hid (OwnU w5 w.heap.size v5 (lst Y (k + 1))) := by
              show OwnU _ _ _ _
              rw [lst_succ, YK.out]
              exact own5
            have B5 : Hid (Below w.heap.size w w5) := (bmore B4.out _).trans bel5
            clear own5 bel5 O4 B4
            go_wp2
            go_roundw
            case rel => exact ⟨k + 1, by go_num, by omega, O5, A2, B5⟩
            case measure => simp [intOf]; omega
          · have FT : Hid (decide (x / 4503599627370496 % 2048 < 2047) = false) := by
              show _ = _
              rw [FM.out]
              exact decide_eq_false hm
            clear AK FM hm
            go_wp2_with (first | (go_at_call 57; refine (finite_any _ _ x0 x2).mono ?_; rintro e w' ⟨rfl, hw⟩; rw [FT.out]; have hw2 := hw.symm; clear hw; subst hw2))
            go_ret
            exact ⟨ret_eq rfl, B4.out⟩
        · clear AK
          go_wp2
          go_ret
          exact ⟨ret_eq rfl, B4.out⟩
      · obtain rfl : k = len0 := by omega
        obtain ⟨g, c, rfl, hg0, hg1, hRY⟩ := O.out.row YB.out
        have HRY : Hid (URow _ _ _ _ _) := hRY
        clear O hRY
        have hzB := B.out.size
        go_wp2_with fail
        refine (vNrm _ (some wr.heap.size) 0 _ _ _ X _ (calc_new wr) (HR.out.below (bmore B.out _)) (HR.out.apt (fun k e => by injection e with e; omega)) (by omega)).mono ?_
        rintro e w2 ⟨hB2, hQ⟩
        have hBA : Below wr.heap.size wr w2 := ((Below.refl _ _).alloc (Nat.le_refl _) _).trans (hB2.below _ (by simp) (fun k e => by injection e with e; omega))
        have BA2 : Hid (Below wr.heap.size wr w2) := hBA
        have hz2 := hBA.size
        have FX : Hid (FinX X k) := fun i hi => (A.out i hi).2
        clear hB2 hBA
        rcases hQ with ⟨q, hF, hP, rfl, hC⟩ | ⟨hNo, B0, t0, hG, rfl, hC⟩
        · have PX : Hid (IsPow X k q) := hP
          have PY : Hid (IsPow Y k (q + N)) := by
            show IsPow _ _ _
            rw [HY.out]
            exact hP.scale N (fun i hi => (A.out i hi).2) (fun i hi => (A.out i hi).1)
          have FY : Hid (FinX Y k) := by
            intro i hi
            rw [HY.out]
            exact (scale_V (X i) N (A.out i hi).2 (A.out i hi).1).1
          have KEY : Hid ((nrmV X k q).2 ≤ 1 → nrmV Y k (q + N) = scaleS (nrmV X k q).1 N) := by
            intro h
            rw [HY.out]
            exact nrm_scale X k q N (fun i hi => HR.out.2.2.1 i) (fun i hi => (A.out i hi).1) h
          have C2 : Hid (IsCalc _ _ _ _) := hC
          clear hF hP hC A
          obtain ⟨v0, v1⟩ : 0 ≤ (nrmV X k q).1 ∧ (nrmV X k q).1 < 18446744073709551616 := by
            obtain ⟨v0, v1⟩ := dotV_rng (unitS X q) (unitS X q) k
            obtain ⟨s0, s1, _, _⟩ := sqrtS_bd _ v0 v1
            obtain ⟨s2, s3, _, _⟩ := scaleS_bd _ q s0 s1
            exact ⟨s2, s3⟩
          obtain ⟨nr0, nr1⟩ := nrmF_rng X k q
          obtain ⟨ny0, ny1⟩ := nrmF_rng Y k (q + N)
          have SIX : Hid (bits .and .u8 (nrmF X k q) 6 = 0 → (nrmV X k q).2 ≤ 1) := nrmF_six X k q
          obtain ⟨r, hr⟩ : ∃ r, (nrmV X k q).1 = r := ⟨_, rfl⟩
          obtain ⟨FX1, hFX1⟩ : ∃ r, nrmF X k q = r := ⟨_, rfl⟩
          rw [hr] at v0 v1 KEY ⊢
          rw [hFX1] at nr0 nr1 SIX C2
          rw [or0 FX1 nr0 (by omega)] at C2
          clear hr hFX1
          go_wp2_with fail
          refine (vNrm _ (some wr.heap.size) FX1 _ _ _ Y _ C2.out (HRY.out.below BA2.out) (HRY.out.apt (fun k e => by injection e with e; omega)) (by omega)).mono ?_
          rintro e w3 ⟨hB3, hQ⟩
          have BA3 : Hid (Below wr.heap.size wr w3) := BA2.out.trans (hB3.below _ hz2 (fun k e => by injection e with e; omega))
          clear hB3
          rcases hQ with ⟨q', _, hP', rfl, hC⟩ | ⟨hNo, _⟩
          · obtain rfl := hP'.only PY.out
            clear hP'
            obtain ⟨cc, cz, cl⟩ := calc_cell hC
            obtain ⟨FY1, hFY1⟩ : ∃ r, nrmF Y k (q + N) = r := ⟨_, rfl⟩
            rw [hFY1] at ny0 ny1 cc
            clear hC hFY1
            have ORA : Hid (bits .and .u8 (bits .or .u8 FX1 FY1) 6 = 0 → bits .and .u8 FX1 6 = 0) := fun h => (or_and ⟨6, by decide⟩ FX1 FY1 nr0 nr1 ny0 ny1 h).1
            obtain ⟨FF, hFF⟩ : ∃ r, bits .or .u8 FX1 FY1 = r := ⟨_, rfl⟩
            rw [hFF] at cc ORA
            clear hFF
            obtain ⟨rb, hrb⟩ : ∃ r, (nrmV Y k (q + N)).1 = r := ⟨_, rfl⟩
            have EQ : Hid (bits .and .u8 FF 6 = 0 → rb = (scaleS r N).1) := by
              intro h
              rw [← hrb, KEY.out (SIX.out (ORA.out h))]
            rw [hrb]
            clear hrb KEY SIX ORA
            go_wp2_with fail
            refine (mScale r N _ v0 v1 (by omega) (by omega)).mono ?_
            rintro e w4 ⟨rfl, hb4⟩
            have cc4 := (hb4.cell (p := ⟨wr.heap.size, 0, none⟩) cl).trans cc
            have BE : Hid (Below w.heap.size w w4) := bstep B.out (BA3.out.trans (hb4.mono BA3.out.size))
            clear hb4 cc
            obtain ⟨T, hT⟩ : ∃ T, scaleS r N = T := ⟨_, rfl⟩
            rw [hT] at EQ ⊢
            clear hT
            obtain ⟨wn, f⟩ := T
            simp only at EQ
            obtain ⟨G6, hG6⟩ : ∃ r, bits .and .u8 FF 6 = r := ⟨_, rfl⟩
            rw [hG6] at EQ
            by_cases h6 : G6 = 0
            · subst h6
              have e1 := EQ.out rfl
              subst e1
              clear EQ
              by_cases hf : f = 0
              · subst hf
                go_wp2
                go_ret
                exact ⟨ret_eq rfl, BE.out⟩
              · go_wp2
                go_ret
                exact ⟨ret_eq rfl, BE.out⟩
            · clear EQ
              go_wp2
              go_ret
              exact ⟨ret_eq rfl, BE.out⟩
          · exact absurd hNo (no_pow PY.out FY.out)
        · have ZX : Hid (∀ i, i < k → mag (X i) = 0) := no_zero hNo FX.out
          have ZY : Hid (∀ i, i < k → mag (Y i) = 0) := by
            intro i hi
            rw [HY.out]
            show mag (scaleS (X i) N).1 = 0
            rw [scale_zero (X i) N (ZX.out i hi)]
            exact ZX.out i hi
          obtain rfl := great_zero hG ZX.out
          have C2 : Hid (IsCalc _ _ _ _) := hC
          clear hNo hG hC A
          go_wp2_with fail
          refine (vNrm _ (some wr.heap.size) 0 _ _ _ Y _ C2.out (HRY.out.below BA2.out) (HRY.out.apt (fun k e => by injection e with e; omega)) (by omega)).mono ?_
          rintro e w3 ⟨hB3, hQ⟩
          have BA3 : Hid (Below wr.heap.size wr w3) := BA2.out.trans (hB3.below _ hz2 (fun k e => by injection e with e; omega))
          clear hB3
          rcases hQ with ⟨q', hF', hP', _⟩ | ⟨_, B1', t1', hG', rfl, hC⟩
          · exact absurd (Or.inl ZY.out) (no_pow hP' hF')
          · obtain rfl := great_zero hG' ZY.out
            obtain ⟨cc, cz, cl⟩ := calc_cell hC
            clear hG' hC
            have S0 : Hid (scaleS 0 N = (0, 0)) := scale_zero 0 N (by decide)
            go_wp2_with fail
            refine (mScale 0 N _ (by omega) (by omega) (by omega) (by omega)).mono ?_
            rintro e w4 ⟨rfl, hb4⟩
            rw [S0.out]
            have cc4 := (hb4.cell (p := ⟨wr.heap.size, 0, none⟩) cl).trans cc
            have BE : Hid (Below w.heap.size w w4) := bstep B.out (BA3.out.trans (hb4.mono BA3.out.size))
            clear hb4 cc
            go_wp2
            go_ret
            exact ⟨ret_eq rfl, BE.out⟩

/-! ### THE ROW's STEP: WRITTEN OUT: LEAVE IT -/
set_option maxRecDepth 100000 in
theorem lifted (os : Os) (started : os.Started) (H : Type) (enc : TypeId × Value → H) :
    ReturnsInHanded {} Try.checked os 14 .any (Rows.vecPowerSpec.pre6 enc Try.prog Try.f14 Rows.vecPowerRow.domain false) (Rows.vecPowerSpec.post enc Try.prog Try.f14 false true false false) := by
  refine returnsInHanded_of_change (C := Try.checked) own started (by kernel_rfl) Try.func14
    (ChangeSpec.witness6 (enc := enc) (C := Try.checked) false ⟨#[], #[.slice none 0 0, .int .i64 0], []⟩ 8 (by kernel_rfl) (by kernel_rfl) (by kernel_rfl) (by kernel_rfl)) ?_
  intro W base args ds gs before hval0 hW hcnd _
  have hval : ∀ (j : Nat) t v, Try.f14.params[j]? = some t → args[j]? = some v → Value.okWide Try.prog W .any base t v := hval0
  have hW' := hW
  obtain ⟨p, q, hA0, hV, rfl, hfz, hnd⟩ := hW
  have hA : DataW.TrodAll enc Try.prog W 0 (fun _ => true) true Try.f14.params.toList args.toList ds p := hA0
  rw [Try.params14] at hA hval
  obtain ⟨v0, vs0, d0, ds0, p0, q0, hargs, rfl, rfl, h0, r0⟩ := trodAll_cons hA
  obtain ⟨v1, vs1, d1, ds1, p1, q1, rfl, rfl, rfl, h1, r1⟩ := trodAll_cons r0
  obtain ⟨rfl, rfl, rfl⟩ := trodAll_nil r1
  obtain rfl : args = #[v0, v1] := by cases args; simp_all
  obtain ⟨rfl, rfl⟩ := trodVars_none hV
  obtain ⟨a0, len0, cap0, rfl⟩ := okWide_slice Try.underlying23 (hval 0 23 v0 rfl rfl)
  have k0 := h0
  have lt0 : ∀ x ∈ p0, x.block < W.heap.size := by obtain ⟨m, hm⟩ := k0; exact DataW.trod_lt m _ _ _ hm
  obtain ⟨z0, w0⟩ : ∃ zs, IsRow .u64 W a0 len0 cap0 zs := by
    obtain ⟨fuel, hf⟩ := h0
    rcases open_ints Try.underlying23 Try.underlying26 (by kernel_rfl) hf with ⟨hcs, _⟩ | ⟨x, l, c, zs, hcs, _, hl, hm, hz, _, hcell, hwz⟩
    · simp [Value.cells] at hcs
      obtain ⟨rfl, rfl, rfl⟩ := hcs
      exact ⟨[], .inl ⟨rfl, rfl, rfl, rfl⟩⟩
    · simp [Value.cells] at hcs
      obtain ⟨rfl, rfl, rfl⟩ := hcs
      exact ⟨zs, .inr ⟨_, rfl, hl, hm, by simpa using hz, hcell, hwz⟩⟩
  obtain ⟨a1, rfl, rfl, rfl, w1⟩ := open_int Try.underlying3 (hval 1 3 v1 rfl rfl) h1
  clear hA0 hval0
  refine (walk a0 len0 cap0 z0 a1 W w0 w1).mono fun e W' ⟨he, bel⟩ => ?_
  subst he
  exact ⟨_, rfl, _, _, _, [], _, [], hW', trodAll_mk1 (shut_bool Try.underlying4 _), (trodAll_cons_mk (Below.trod laidOut (by kernel_rfl) (of_decide_eq_true (by kernel_rfl)) k0 bel lt0) (trodAll_cons_mk (shut_int Try.underlying3 w1) trodAll_mk0)), rfl, bel.frame _, fun h => by cases h⟩

theorem over : Rows.vecPowerRow.holds Try.pinned (OpenSpec.ofChange Rows.vecPowerSpec) :=
  OpenClaim.holds_of_wide 14 Try.f14 rfl rfl rfl rfl rfl rfl rfl ⟨rfl, rfl, rfl, rfl, rfl⟩ rfl rfl rfl rfl rfl (by kernel_rfl) Try.func14 (by kernel_rfl)
    (of_decide_eq_true (by kernel_rfl)) (by unfold Func.isWrapper; first | (rw [if_pos (by decide +kernel)]; kernel_rfl) | (rw [if_neg (by decide +kernel)]; exact ⟨rfl, rfl⟩))
    (fun os started H enc _ => lifted os started H enc)

/-- ████ THE STATEMENT ████ -/
theorem proved : Rows.VecPowerSaid := over
#print axioms proved
end Go.Proofs.Ytokgfeeaoioegaa.vecPower
