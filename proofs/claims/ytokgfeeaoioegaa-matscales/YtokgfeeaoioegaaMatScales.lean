/-
  The law MatScales returns true at every input (any sizes, any slice of patterns, any power), and leaves its arguments as they were. No conditions.
-/
import Derived.Test.YtokgfeeaoioegaaRows
import Derived.WalkKit
import Derived.ProofKit
import Derived.OpenShut
import Derived.Test.YtokgfeeaoioegaaGrK
import Derived.ShutString
import Derived.ChangeOld
import Derived.Below
namespace Go.Proofs.Ytokgfeeaoioegaa.matScales
open Go.ChangeShapes Go.WideShapes Go.ChangeAt Go.RowKit
open Go.ChangeMaps (open_string shut_string)
set_option linter.unusedVariables false

theorem own : ownKnob Try.prog.godebug = none := by kernel_rfl
theorem laidOut : laidOutB Try.prog = true := by kernel_rfl

/-- WHAT THE WALK IS TOLD OF A SLICE OF INTEGERS THAT CAME IN: it is nil; or it leads to a row of 'cap' cells, the numbers 'zs' (the first 'len' are its elements, the rest its spare room), each fitting its kind. -/
def IsRow (k : IntKind) (w : World) (a : Option Addr) (len cap : Nat) (zs : List Int) : Prop :=
  (a = none ∧ len = 0 ∧ cap = 0 ∧ zs = []) ∨
  ∃ x, a = some x ∧ len ≤ cap ∧ cap ≤ maxLen ∧ zs.length = cap ∧ (∀ i, i < zs.length → w.cell? (x.add i) = some (.int k (zs.getD i 0))) ∧ ∀ n ∈ zs, (Lit.int k n).wf = true

theorem row_of (w : World) (a : Option Addr) (len cap : Nat) (zs : List Int) (h : IsRow .u64 w a len cap zs) : URow w a len cap (fun i => zs.getD i 0) := by
  rcases h with ⟨rfl, rfl, rfl, rfl⟩ | ⟨x, rfl, h1, h2, h3, h4, h5⟩
  · exact ⟨Nat.le_refl _, Nat.zero_le _, fun i => by simp, fun h => absurd h (Nat.lt_irrefl 0)⟩
  · refine ⟨h1, h2, fun i => ?_, fun hp => ?_⟩
    · show 0 ≤ zs.getD i 0 ∧ zs.getD i 0 < 18446744073709551616
      rcases Nat.lt_or_ge i zs.length with g | g
      · have hm : zs.getD i 0 ∈ zs := by
          rw [List.getD_eq_getElem?_getD, List.getElem?_eq_getElem g]
          exact List.getElem_mem g
        obtain ⟨q1, q2⟩ := bounds_u64 (h5 _ hm)
        exact ⟨q1, by omega⟩
      · rw [List.getD_eq_getElem?_getD, List.getElem?_eq_none g]
        simp
    · obtain ⟨b, o, s⟩ := x
      have hs : s = none := by simpa [Addr.add] using World.cell?_spot (h4 0 (by omega))
      subst hs
      have hb : b < w.heap.size := by
        have := World.block_lt_of_cell? _ _ (h4 0 (by omega))
        simpa [Addr.add] using this
      refine ⟨b, o, rfl, hb, fun i hi => ?_⟩
      have := h4 i (by omega)
      rw [add_plain] at this
      exact this
set_option maxRecDepth 100000 in
set_option maxHeartbeats 4000000 in
theorem walk (a0 : Int) (a1 : Int) (a2 : Int) (a3 : Option Addr) (len3 cap3 : Nat) (z3 : List Int) (a4 : Int) (w : World) (w0 : (Lit.int .i64 a0).wf = true) (w1 : (Lit.int .i64 a1).wf = true) (w2 : (Lit.int .i64 a2).wf = true) (w3 : IsRow .u64 w a3 len3 cap3 z3) (w4 : (Lit.int .i64 a4).wf = true) :
    Calls Try.prog 7 #[.int .i64 a0, .int .i64 a1, .int .i64 a2, .slice a3 len3 cap3, .int .i64 a4] w fun e w' => e = .returned (.bool true) ∧ Below w.heap.size w w' := by
  have hr := row_of w a3 len3 cap3 z3 w3
  generalize (fun i => z3.getD i 0) = U at hr
  obtain ⟨n0, n1⟩ := bounds_i64 w4
  clear w0 w1 w2 w3 w4
  obtain ⟨R, hR⟩ : ∃ R : Nat, (R : Int) = a0 % 8 := ⟨(a0 % 8).toNat, by omega⟩
  obtain ⟨C, hC⟩ : ∃ C : Nat, (C : Int) = a1 % 8 := ⟨(a1 % 8).toNat, by omega⟩
  obtain ⟨S, hS⟩ : ∃ S : Nat, (S : Int) = a1 % 8 + a2 % 4 := ⟨(a1 % 8 + a2 % 4).toNat, by omega⟩
  by_cases hl : 100 < len3
  · obtain ⟨h1, h2, hz, h4⟩ := hr
    have hl2 : (100 : Int) < (len3 : Int) := by omega
    clear hz h4 hR hC hS
    go_enter Try.func7, Try.ntmps7
    go_wp2_with fail
    refine (lHead9 _).mono ?_
    rintro e w1 ⟨rfl, hb1⟩
    go_wp2
    go_ret
    exact ⟨ret_eq rfl, hb1⟩
  · have hl2 : ¬ (100 : Int) < (len3 : Int) := by omega
    have hdl : decide ((100 : Int) < (len3 : Int)) = false := by simp; omega
    have HR : Hid (URow _ _ _ _ _) := hr
    have hR7 : R ≤ 7 := by omega
    have hC7 : C ≤ 7 := by omega
    have hS7 : S ≤ 10 := by omega
    have hCS : C ≤ S := by omega
    have hRC : R * C ≤ 49 := Nat.mul_le_mul hR7 hC7
    have hRS : R * S ≤ 70 := Nat.mul_le_mul hR7 hS7
    have PR : Hid ((R : Int) = a0 % 8) := hR
    have PC : Hid ((C : Int) = a1 % 8) := hC
    have PS : Hid ((S : Int) = a1 % 8 + a2 % 4) := hS
    clear hr hR hC hS
    go_enter Try.func7, Try.ntmps7
    go_wp2_with fail
    refine (lHead9 _).mono ?_
    rintro e w1 ⟨rfl, hb1⟩
    have B1 : Hid (Below w.heap.size w w1) := hb1
    clear hb1
    go_wp2_with fail
    refine (lMade a0 a1 a2 a3 len3 cap3 U R C S w1 PR.out PC.out PS.out (HR.out.below B1.out) (by omega)).mono ?_
    rintro e w2 ⟨g, xs, rfl, hg, hx, hM, hb2⟩
    obtain ⟨Z, hZ⟩ : ∃ Z : Nat → Int, Z = fun i => xs[i]?.getD 0 := ⟨_, rfl⟩
    have UZ : Hid (URow w2 (some ⟨g, 0, none⟩) (R * S) (R * S) Z) := by
      have := hx.row (by rw [hM.1]; omega) (fun i => hM.2.1.get i)
      rw [hM.1, ← hZ] at this
      exact this
    have B2 : Hid (Below w.heap.size w w2) := bstep B1.out hb2
    have T2 : Hid (Rgt (R : Int) (C : Int) (S : Int) (R * S)) := loose R C S (by omega) hCS (by omega)
    have T3 : Hid (Rgt (R : Int) (C : Int) (C : Int) (R * C)) := tight R C (by omega) (by omega)
    clear hb2 hx hM hZ hg
    go_wp2_with fail
    have mW := MBox.made w2 (R : Int) (C : Int) (S : Int) (.slice (some ⟨g, 0, none⟩) (R * S) (R * S))
    have bW : Below w2.heap.size w2 (w2.alloc (.cells #[.int .i64 (R : Int), .int .i64 (C : Int), .int .i64 (S : Int), .slice (some ⟨g, 0, none⟩) (R * S) (R * S)] 25)) := (Below.refl _ _).alloc (Nat.le_refl _) _
    generalize (w2.alloc (.cells #[.int .i64 (R : Int), .int .i64 (C : Int), .int .i64 (S : Int), .slice (some ⟨g, 0, none⟩) (R * S) (R * S)] 25)) = W at mW bW ⊢
    refine (mScaleM R C S _ _ _ Z a4 W T2.out (UZ.out.below bW) (by omega) (by omega) (by omega)).mono ?_
    rintro e w3 ⟨g2, rfl, hg2, hU2, hb3⟩
    obtain ⟨X, hX⟩ : ∃ X, X = flat Z C S := ⟨_, rfl⟩
    have FX : Hid (∀ i k, k < C → X (i * C + k) = Z (i * S + k)) := by rw [hX]; exact fun i k hk => flat_at Z C S i k hk
    rw [← hX] at hU2 ⊢
    have M3 : Hid (MBox w3 _ _ _ _ _) := mW.below hb3
    have UZ3 : Hid (URow w3 (some ⟨g, 0, none⟩) (R * S) (R * S) Z) := UZ.out.below (bstep bW hb3)
    have UX3 : Hid (URow w3 (some ⟨g2, 0, none⟩) (R * C) (R * C) (scV X a4)) := hU2
    have B3 : Hid (Below w.heap.size w w3) := bstep B2.out (bstep bW hb3)
    have ZB : Hid (∀ i, 0 ≤ Z i ∧ Z i < 18446744073709551616) := UZ.out.2.2.1
    obtain ⟨FF, hFF⟩ : ∃ F, scF 0 X a4 (R * C) = F := ⟨_, rfl⟩
    rw [hFF]
    have HFF : Hid (_ = _) := hFF
    clear hb3 hU2 hX bW mW UZ B2 hFF hg2
    obtain ⟨p0, p1, p2, p3, p4⟩ := M3.out
    go_wp2
    have mV := MBox.made w3 (R : Int) (C : Int) (C : Int) (.slice (some ⟨g2, 0, none⟩) (R * C) (R * C))
    have bV : Below w3.heap.size w3 (w3.alloc (.cells #[.int .i64 (R : Int), .int .i64 (C : Int), .int .i64 (C : Int), .slice (some ⟨g2, 0, none⟩) (R * C) (R * C)] 25)) := (Below.refl _ _).alloc (Nat.le_refl _) _
    obtain ⟨b12, hb12⟩ : ∃ b, b = w3.heap.size := ⟨_, rfl⟩
    obtain ⟨b11, hb11⟩ : ∃ b, b = w2.heap.size := ⟨_, rfl⟩
    rw [← hb12] at mV ⊢
    rw [← hb11] at M3 ⊢
    generalize (w3.alloc (.cells #[.int .i64 (R : Int), .int .i64 (C : Int), .int .i64 (C : Int), .slice (some ⟨g2, 0, none⟩) (R * C) (R * C)] 25)) = V at mV bV ⊢
    have MM : Hid (MBox V b11 (R : Int) (C : Int) (S : Int) (.slice (some ⟨g, 0, none⟩) (R * S) (R * S))) := M3.out.below bV
    have MS : Hid (MBox V b12 (R : Int) (C : Int) (C : Int) (.slice (some ⟨g2, 0, none⟩) (R * C) (R * C))) := mV
    have UM : Hid (URow V (some ⟨g, 0, none⟩) (R * S) (R * S) Z) := UZ3.out.below bV
    have US : Hid (URow V (some ⟨g2, 0, none⟩) (R * C) (R * C) (scV X a4)) := UX3.out.below bV
    have BV : Hid (Below w.heap.size w V) := bstep B3.out bV
    clear mV bV hb12 hb11 M3 UZ3 UX3 B3 p0 p1 p2 p3 p4 B1
    go_loopw [14, 15] (fun t i wr => ∃ n : Nat, t = .int .u8 (scF 0 X a4 (n * C + 0)) ∧ i = .int .i64 (n : Int) ∧ n ≤ R ∧ Hid (Below V.heap.size V wr)) (fun _ i _ => R - (intOf i).toNat)
    case atStart => exact ⟨0, by rw [Nat.zero_mul]; rfl, rfl, Nat.zero_le _, Below.refl _ _⟩
    case round =>
      obtain ⟨n, rfl, rfl, hn, B⟩ := hrel
      obtain ⟨p0, p1, p2, p3, p4⟩ := MM.out.below B.out
      by_cases hlt : (n : Int) < (R : Int)
      · go_wp2
        obtain ⟨W2, hW2⟩ : ∃ x, x = wr := ⟨wr, rfl⟩
        rw [← hW2] at B ⊢
        clear hW2 p0 p1 p2 p3 p4
        go_loopw [14, 16] (fun t i wr => ∃ m : Nat, t = .int .u8 (scF 0 X a4 (n * C + m)) ∧ i = .int .i64 (m : Int) ∧ m ≤ C ∧ Hid (Below V.heap.size V wr)) (fun _ i _ => C - (intOf i).toNat)
        case atStart => exact ⟨0, rfl, rfl, Nat.zero_le _, B⟩
        case round =>
          clear B
          obtain ⟨m, rfl, rfl, hm, B⟩ := hrel
          obtain ⟨p0, p1, p2, p3, p4⟩ := MM.out.below B.out
          by_cases hlt2 : (m : Int) < (C : Int)
          · have SV : Hid ((scaleS (X (n * C + m)) a4).1 = scV X a4 (n * C + m)) := rfl
            have SF : Hid (bits .or .u8 (scF 0 X a4 (n * C + m)) (scaleS (X (n * C + m)) a4).2 = scF 0 X a4 (n * C + m + 1)) := rfl
            have FXm : Hid (X (n * C + m) = Z (n * S + m)) := FX.out n m (by omega)
            have I1 : Hid (((n : Int) * (S : Int) + (m : Int)).toNat = n * S + m) := by show _ = _; rw [← Int.natCast_mul]; omega
            have I2 : Hid (((n : Int) * (C : Int) + (m : Int)).toNat = n * C + m) := by show _ = _; rw [← Int.natCast_mul]; omega
            obtain ⟨x0, x1⟩ := ZB.out (n * S + m)
            rw [FXm.out] at SV SF
            obtain ⟨x, hx⟩ : ∃ x, Z (n * S + m) = x := ⟨_, rfl⟩
            obtain ⟨F1, hF1⟩ : ∃ x, scF 0 X a4 (n * C + m) = x := ⟨_, rfl⟩
            rw [hx] at x0 x1 SV SF
            rw [hF1] at SF ⊢
            have HXX : Hid (_ = _) := hx
            clear hx hF1 FXm
            go_wp2_with fail
            refine (mAt _ _ _ _ _ _ Z _ _ _ T2.out (UM.out.below B.out) ⟨by omega, hlt, by omega, hlt2⟩).mono ?_
            rintro e w4 ⟨rfl, hb4⟩
            rw [I1.out, HXX.out]
            have B4 : Hid (Below V.heap.size V w4) := B.out.trans (hb4.mono B.out.size)
            clear hb4 p0 p1 p2 p3 p4 B
            go_wp2_with fail
            refine (mScale x a4 _ x0 x1 (by omega) (by omega)).mono ?_
            rintro e w5 ⟨rfl, hb5⟩
            have B5 : Hid (Below V.heap.size V w5) := B4.out.trans (hb5.mono B4.out.size)
            obtain ⟨p0, p1, p2, p3, p4⟩ := MS.out.below B5.out
            clear hb5 B4
            obtain ⟨T, hT⟩ : ∃ T, scaleS x a4 = T := ⟨_, rfl⟩
            rw [hT] at SV SF ⊢
            clear hT
            obtain ⟨y, fy⟩ := T
            simp only at SV SF
            have hor := SF.out
            go_wp2_with fail
            refine (mAt _ _ _ _ _ _ (scV X a4) _ _ _ T3.out (US.out.below B5.out) ⟨by omega, hlt, by omega, hlt2⟩).mono ?_
            rintro e w6 ⟨rfl, hb6⟩
            rw [I2.out, ← SV.out]
            have B6 : Hid (Below V.heap.size V w6) := B5.out.trans (hb6.mono B5.out.size)
            clear hb6 B5
            go_wp2
            go_roundw
            case rel => exact ⟨m + 1, rfl, by go_num, by omega, B6⟩
            case measure => simp [intOf]; omega
          · obtain rfl : m = C := by omega
            have SN : Hid (scF 0 X a4 (n * m + m) = scF 0 X a4 ((n + 1) * m + 0)) := by show _ = _; rw [← row_up]
            go_wp2
            rw [SN.out]
            go_roundw
            case rel => exact ⟨n + 1, rfl, by go_num, by omega, B⟩
            case measure => simp [intOf]; omega
      · obtain rfl : n = R := by omega
        have SE : Hid (scF 0 X a4 (n * C + 0) = FF) := HFF.out
        rw [SE.out]
        obtain ⟨q0, q1, q2, q3, q4⟩ := MS.out.below B.out
        have hck : Hid (∀ W, Calls Try.prog 16 #[.agg #[.int .i64 (n : Int), .int .i64 (C : Int), .int .i64 (C : Int), .slice (some ⟨g2, 0, none⟩) (n * C) (n * C)]] W fun e w' => e = .returned (.int .i64 0) ∧ Below W.heap.size W w') := by
          intro W
          refine (mCheck (n : Int) (C : Int) (C : Int) _ (n * C) (n * C) W (by omega) (by omega)).mono ?_
          rintro e w' ⟨⟨rfl, _⟩ | ⟨_, hN⟩, hb⟩
          · exact ⟨rfl, hb⟩
          · exact absurd T3.out hN
        go_wp2_with fail
        refine (hck.out _).mono ?_
        rintro e w4 ⟨rfl, hb4⟩
        have BE : Hid (Below w.heap.size w w4) := bstep BV.out (B.out.trans (hb4.mono B.out.size))
        clear hb4
        go_wp2
        go_ret
        exact ⟨ret_eq rfl, BE.out⟩

/-! ### THE ROW's STEP: WRITTEN OUT: LEAVE IT -/
set_option maxRecDepth 100000 in
theorem lifted (os : Os) (started : os.Started) (H : Type) (enc : TypeId × Value → H) :
    ReturnsInHanded {} Try.checked os 7 .any (Rows.matScalesSpec.pre6 enc Try.prog Try.f7 Rows.matScalesRow.domain false) (Rows.matScalesSpec.post enc Try.prog Try.f7 false true false false) := by
  refine returnsInHanded_of_change (C := Try.checked) own started (by kernel_rfl) Try.func7
    (ChangeSpec.witness6 (enc := enc) (C := Try.checked) false ⟨#[], #[.int .i64 0, .int .i64 0, .int .i64 0, .slice none 0 0, .int .i64 0], []⟩ 8 (by kernel_rfl) (by kernel_rfl) (by kernel_rfl) (by kernel_rfl)) ?_
  intro W base args ds gs before hval0 hW hcnd _
  have hval : ∀ (j : Nat) t v, Try.f7.params[j]? = some t → args[j]? = some v → Value.okWide Try.prog W .any base t v := hval0
  have hW' := hW
  obtain ⟨p, q, hA0, hV, rfl, hfz, hnd⟩ := hW
  have hA : DataW.TrodAll enc Try.prog W 0 (fun _ => true) true Try.f7.params.toList args.toList ds p := hA0
  rw [Try.params7] at hA hval
  obtain ⟨v0, vs0, d0, ds0, p0, q0, hargs, rfl, rfl, h0, r0⟩ := trodAll_cons hA
  obtain ⟨v1, vs1, d1, ds1, p1, q1, rfl, rfl, rfl, h1, r1⟩ := trodAll_cons r0
  obtain ⟨v2, vs2, d2, ds2, p2, q2, rfl, rfl, rfl, h2, r2⟩ := trodAll_cons r1
  obtain ⟨v3, vs3, d3, ds3, p3, q3, rfl, rfl, rfl, h3, r3⟩ := trodAll_cons r2
  obtain ⟨v4, vs4, d4, ds4, p4, q4, rfl, rfl, rfl, h4, r4⟩ := trodAll_cons r3
  obtain ⟨rfl, rfl, rfl⟩ := trodAll_nil r4
  obtain rfl : args = #[v0, v1, v2, v3, v4] := by cases args; simp_all
  obtain ⟨rfl, rfl⟩ := trodVars_none hV
  obtain ⟨a0, rfl, rfl, rfl, w0⟩ := open_int Try.underlying3 (hval 0 3 v0 rfl rfl) h0
  obtain ⟨a1, rfl, rfl, rfl, w1⟩ := open_int Try.underlying3 (hval 1 3 v1 rfl rfl) h1
  obtain ⟨a2, rfl, rfl, rfl, w2⟩ := open_int Try.underlying3 (hval 2 3 v2 rfl rfl) h2
  obtain ⟨a3, len3, cap3, rfl⟩ := okWide_slice Try.underlying23 (hval 3 23 v3 rfl rfl)
  have k3 := h3
  have lt3 : ∀ x ∈ p3, x.block < W.heap.size := by obtain ⟨m, hm⟩ := k3; exact DataW.trod_lt m _ _ _ hm
  obtain ⟨z3, w3⟩ : ∃ zs, IsRow .u64 W a3 len3 cap3 zs := by
    obtain ⟨fuel, hf⟩ := h3
    rcases open_ints Try.underlying23 Try.underlying26 (by kernel_rfl) hf with ⟨hcs, _⟩ | ⟨x, l, c, zs, hcs, _, hl, hm, hz, _, hcell, hwz⟩
    · simp [Value.cells] at hcs
      obtain ⟨rfl, rfl, rfl⟩ := hcs
      exact ⟨[], .inl ⟨rfl, rfl, rfl, rfl⟩⟩
    · simp [Value.cells] at hcs
      obtain ⟨rfl, rfl, rfl⟩ := hcs
      exact ⟨zs, .inr ⟨_, rfl, hl, hm, by simpa using hz, hcell, hwz⟩⟩
  obtain ⟨a4, rfl, rfl, rfl, w4⟩ := open_int Try.underlying3 (hval 4 3 v4 rfl rfl) h4
  clear hA0 hval0
  refine (walk a0 a1 a2 a3 len3 cap3 z3 a4 W w0 w1 w2 w3 w4).mono fun e W' ⟨he, bel⟩ => ?_
  subst he
  exact ⟨_, rfl, _, _, _, [], _, [], hW', trodAll_mk1 (shut_bool Try.underlying4 _), (trodAll_cons_mk (shut_int Try.underlying3 w0) (trodAll_cons_mk (shut_int Try.underlying3 w1) (trodAll_cons_mk (shut_int Try.underlying3 w2) (trodAll_cons_mk (Below.trod laidOut (by kernel_rfl) (of_decide_eq_true (by kernel_rfl)) k3 bel lt3) (trodAll_cons_mk (shut_int Try.underlying3 w4) trodAll_mk0))))), rfl, bel.frame _, fun h => by cases h⟩

theorem over : Rows.matScalesRow.holds Try.pinned (OpenSpec.ofChange Rows.matScalesSpec) :=
  OpenClaim.holds_of_wide 7 Try.f7 rfl rfl rfl rfl rfl rfl rfl ⟨rfl, rfl, rfl, rfl, rfl⟩ rfl rfl rfl rfl rfl (by kernel_rfl) Try.func7 (by kernel_rfl)
    (of_decide_eq_true (by kernel_rfl)) (by unfold Func.isWrapper; first | (rw [if_pos (by decide +kernel)]; kernel_rfl) | (rw [if_neg (by decide +kernel)]; exact ⟨rfl, rfl⟩))
    (fun os started H enc _ => lifted os started H enc)

/-- ████ THE STATEMENT ████ -/
theorem proved : Rows.MatScalesSaid := over
#print axioms proved
end Go.Proofs.Ytokgfeeaoioegaa.matScales
