/-
  The law OrderGreatest returns true at every input (any slice of patterns), and leaves its argument as it was. No conditions.
-/
import Derived.Test.YteohkpiecidicaaRows
import Derived.WalkKit
import Derived.ProofKit
import Derived.OpenShut
import Derived.Test.YteohkpiecidicaaRowM
import Derived.ShutString
import Derived.ChangeOld
import Derived.Below
namespace Go.Proofs.Yteohkpiecidicaa.orderGreatest
open Go.ChangeShapes Go.WideShapes Go.ChangeAt Go.RowKit
open Go.ChangeMaps (open_string shut_string)
set_option linter.unusedVariables false

theorem own : ownKnob Try.prog.godebug = none := by kernel_rfl
theorem laidOut : laidOutB Try.prog = true := by kernel_rfl

/-- WHAT THE WALK IS TOLD OF A SLICE OF INTEGERS THAT CAME IN: it is nil; or it leads to a row of 'cap' cells, the numbers 'zs' (the first 'len' are its elements, the rest its spare room), each fitting its kind. -/
def IsRow (k : IntKind) (w : World) (a : Option Addr) (len cap : Nat) (zs : List Int) : Prop :=
  (a = none ∧ len = 0 ∧ cap = 0 ∧ zs = []) ∨
  ∃ x, a = some x ∧ len ≤ cap ∧ cap ≤ maxLen ∧ zs.length = cap ∧ (∀ i, i < zs.length → w.cell? (x.add i) = some (.int k (zs.getD i 0))) ∧ ∀ n ∈ zs, (Lit.int k n).wf = true

theorem row_of (w : World) (a : Option Addr) (len cap : Nat) (zs : List Int) (h : IsRow .u64 w a len cap zs) : URow w a len cap (fun i => zs.getD i 0) := by
  rcases h with ⟨rfl, rfl, rfl, rfl⟩ | ⟨x, rfl, h1, h2, h3, h4, h5⟩
  · exact ⟨Nat.le_refl _, Nat.zero_le _, fun i => by simp, fun h => absurd h (Nat.lt_irrefl 0)⟩
  · refine ⟨h1, h2, fun i => ?_, fun hp => ?_⟩
    · show 0 ≤ zs.getD i 0 ∧ zs.getD i 0 < 18446744073709551616
      rcases Nat.lt_or_ge i zs.length with g | g
      · have hm : zs.getD i 0 ∈ zs := by
          rw [List.getD_eq_getElem?_getD, List.getElem?_eq_getElem g]
          exact List.getElem_mem g
        obtain ⟨q1, q2⟩ := bounds_u64 (h5 _ hm)
        exact ⟨q1, by omega⟩
      · rw [List.getD_eq_getElem?_getD, List.getElem?_eq_none g]
        simp
    · obtain ⟨b, o, s⟩ := x
      have hs : s = none := by simpa [Addr.add] using World.cell?_spot (h4 0 (by omega))
      subst hs
      have hb : b < w.heap.size := by
        have := World.block_lt_of_cell? _ _ (h4 0 (by omega))
        simpa [Addr.add] using this
      refine ⟨b, o, rfl, hb, fun i hi => ?_⟩
      have := h4 i (by omega)
      rw [add_plain] at this
      exact this
set_option maxRecDepth 100000 in
set_option maxHeartbeats 2000000 in
theorem walk (a0 : Option Addr) (len0 cap0 : Nat) (z0 : List Int) (w : World) (w0 : IsRow .u64 w a0 len0 cap0 z0) :
    Calls Try.prog 13 #[.slice a0 len0 cap0] w fun e w' => e = .returned (.bool true) ∧ Below w.heap.size w w' := by
  have hr := row_of w a0 len0 cap0 z0 w0
  generalize (fun i => z0.getD i 0) = Z at hr
  clear w0
  by_cases hl : 60 < len0
  · obtain ⟨h1, h2, hz, h4⟩ := hr
    have hl2 : (60 : Int) < (len0 : Int) := by omega
    clear hz h4
    go_enter Try.func13, Try.ntmps13
    go_wp2_with (go_at_call 41; refine (oHead _).mono ?_; rintro e w' ⟨rfl, rfl⟩)
    go_ret
    exact ⟨ret_eq rfl, Below.refl _ _⟩
  · have hl2 : ¬ (60 : Int) < (len0 : Int) := by omega
    have HR : Hid (URow _ _ _ _ _) := hr
    obtain ⟨h1, h2, hz, h4⟩ := hr
    have HZ : Hid (∀ i, 0 ≤ Z i ∧ Z i < 18446744073709551616) := hz
    clear hz
    by_cases hp : 0 < len0
    · obtain ⟨b, o, rfl, hb, hcell⟩ := h4 hp
      have HC : Hid (∀ i, i < len0 → w.cell? ⟨b, o + i, none⟩ = some (.int .u64 (Z i))) := hcell
      have hl0 : ((len0 : Int) == 0) = false := by rw [beq_eq_false_iff_ne]; omega
      clear h4 hcell
      go_enter Try.func13, Try.ntmps13
      go_wp2_with (first | (go_at_call 41; refine (oHead _).mono ?_; rintro e w' ⟨rfl, rfl⟩) | fail)
      refine (oGreat _ _ _ Z _ HR.out (by omega)).mono ?_
      rintro e w' ⟨B, T, rfl, hg, rfl⟩
      rcases hg with ⟨k0, n1, n2, n3, rfl, rfl⟩ | hgs
      · have N2 : Hid (_ = _) := n2
        have N3 : Hid (∀ i, i < k0 → isNan (Z i) = false) := n3
        clear n2 n3
        go_wp2
        go_loopw [30] (fun i wr => ∃ k : Nat, i = .int .i64 (k : Int) ∧ k ≤ k0 ∧ wr = w') (fun i _ => len0 - (intOf i).toNat)
        case atStart => exact ⟨0, rfl, by omega, rfl⟩
        case round =>
          obtain ⟨k, rfl, hk, rfl⟩ := hrel
          have hlt : (k : Int) < (len0 : Int) := by omega
          have c1 := HC.out k (by omega)
          obtain ⟨z0, z1⟩ := HZ.out k
          have kn := isNan_kind (Z k)
          by_cases he : k = k0
          · subst he
            rw [N2.out] at kn
            have kn2 : wKind (Z k) = 5 := by
              have := kn.symm
              rw [decide_eq_true_eq] at this
              exact this
            generalize Z k = x at *
            have KN : Hid (_ = _) := kn2
            clear kn kn2
            go_wp2_with (first | (go_at_call 40; refine (kind_any _ _ z0 z1).mono ?_; rintro e w' ⟨rfl, rfl⟩; rw [KN.out]))
            go_ret
            exact ⟨ret_eq (bool_eq (by simp)), Below.refl _ _⟩
          · rw [N3.out k (by omega)] at kn
            have kn2 : ¬ wKind (Z k) = 5 := by
              have := kn.symm
              rw [decide_eq_false_iff_not] at this
              exact this
            generalize Z k = x at *
            obtain ⟨q, hq⟩ : ∃ q, wKind x = q := ⟨_, rfl⟩
            rw [hq] at kn2
            have KN : Hid (_ = _) := hq
            have kb : (q == 5) = false := by rw [beq_eq_false_iff_ne]; exact kn2
            clear kn kn2 hq
            go_wp2_with (first | (go_at_call 40; refine (kind_any _ _ z0 z1).mono ?_; rintro e w' ⟨rfl, rfl⟩; rw [KN.out]))
            go_roundw
            case rel => exact ⟨k + 1, by go_num, by omega, by first | rfl | trivial⟩
            case measure => simp [intOf]; omega
      · obtain ⟨n3, hg⟩ := hgs
        rcases hg with ⟨q1, q2, q3⟩ | ⟨j, rfl, hj, hB, hall⟩
        · omega
        · have N3 : Hid (∀ i, i < len0 → isNan (Z i) = false) := n3
          have HB : Hid (_ = _) := hB
          have HA : Hid (∀ i, i < len0 → Z i % 9223372036854775808 ≤ B ∧ (i < j → Z i % 9223372036854775808 < B)) := hall
          have B0 : 0 ≤ B := by omega
          clear n3 hB hall
          go_wp2
          go_loopw [30] (fun i wr => ∃ k : Nat, i = .int .i64 (k : Int) ∧ k ≤ len0 ∧ wr = w') (fun i _ => len0 - (intOf i).toNat)
          case atStart => exact ⟨0, rfl, by omega, rfl⟩
          case round =>
            obtain ⟨k, rfl, hk, rfl⟩ := hrel
            by_cases hlt : (k : Int) < (len0 : Int)
            · have c1 := HC.out k (by omega)
              obtain ⟨z0, z1⟩ := HZ.out k
              have kn := isNan_kind (Z k)
              rw [N3.out k (by omega)] at kn
              have kn2 : ¬ wKind (Z k) = 5 := by
                have := kn.symm
                rw [decide_eq_false_iff_not] at this
                exact this
              generalize Z k = x at *
              obtain ⟨q, hq⟩ : ∃ q, wKind x = q := ⟨_, rfl⟩
              rw [hq] at kn2
              have KN : Hid (_ = _) := hq
              have kb : (q == 5) = false := by rw [beq_eq_false_iff_ne]; exact kn2
              clear kn kn2 hq
              go_wp2_with (first | (go_at_call 40; refine (kind_any _ _ z0 z1).mono ?_; rintro e w' ⟨rfl, rfl⟩; rw [KN.out]))
              go_roundw
              case rel => exact ⟨k + 1, by go_num, by omega, by first | rfl | trivial⟩
              case measure => simp [intOf]; omega
            · have c1 := HC.out j hj
              obtain ⟨z0, z1⟩ := HZ.out j
              have hj1 : (j : Int) < (len0 : Int) := by omega
              have hj2 : ¬ (j : Int) < 0 := by omega
              have hj3 : ¬ len0 ≤ j := by omega
              have hj4 : ¬ (len0 : Int) ≤ (j : Int) := by omega
              obtain ⟨x, hx⟩ : ∃ x, Z j = x := ⟨_, rfl⟩
              rw [hx] at c1 z0 z1
              have HB2 : Hid (x % 9223372036854775808 = B) := by show _ = _; rw [← hx]; exact HB.out.symm
              clear hx
              go_wp2_with (first | (go_at_call 30; refine (abs_any _ _ z0 z1).mono ?_; rintro e w' ⟨rfl, rfl⟩; rw [HB2.out]))
              go_loopw [65] (fun i wr => ∃ k : Nat, i = .int .i64 (k : Int) ∧ k ≤ len0 ∧ wr = w') (fun i _ => len0 - (intOf i).toNat)
              case atStart => exact ⟨0, rfl, by omega, rfl⟩
              case round =>
                obtain ⟨m, rfl, hm, rfl⟩ := hrel
                by_cases hlt3 : (m : Int) < (len0 : Int)
                · have c2 := HC.out m (by omega)
                  obtain ⟨y0, y1⟩ := HZ.out m
                  obtain ⟨a1, a2⟩ := HA.out m (by omega)
                  generalize Z m = y at *
                  obtain ⟨q, hq⟩ : ∃ q, y % 9223372036854775808 = q := ⟨_, rfl⟩
                  rw [hq] at a1 a2
                  have HQ : Hid (_ = _) := hq
                  have q0 : 0 ≤ q := by omega
                  have a3 : ¬ B < q := by omega
                  clear hq
                  by_cases hmj : (m : Int) < (j : Int)
                  · have a4 : ¬ q = B := by have := a2 (by omega); omega
                    have a5 : (q == B) = false := by rw [beq_eq_false_iff_ne]; exact a4
                    clear a2
                    go_wp2_with (first | (go_at_call 30; refine (abs_any _ _ y0 y1).mono ?_; rintro e w' ⟨rfl, rfl⟩; rw [HQ.out]))
                    go_roundw
                    case rel => exact ⟨m + 1, by go_num, by omega, by first | rfl | trivial⟩
                    case measure => simp [intOf]; omega
                  · clear a2
                    go_wp2_with (first | (go_at_call 30; refine (abs_any _ _ y0 y1).mono ?_; rintro e w' ⟨rfl, rfl⟩; rw [HQ.out]))
                    go_roundw
                    case rel => exact ⟨m + 1, by go_num, by omega, by first | rfl | trivial⟩
                    case measure => simp [intOf]; omega
                · go_wp2
                  go_ret
                  exact ⟨ret_eq rfl, Below.refl _ _⟩
    · have e0 : len0 = 0 := by omega
      subst e0
      clear h4
      go_enter Try.func13, Try.ntmps13
      go_wp2_with (first | (go_at_call 41; refine (oHead _).mono ?_; rintro e w' ⟨rfl, rfl⟩) | fail)
      refine (oGreat _ _ _ Z _ HR.out (by omega)).mono ?_
      rintro e w' ⟨B, T, rfl, hg, rfl⟩
      have hbt : B = 0 ∧ T = -1 := by
        rcases hg with ⟨k0, n1, _⟩ | ⟨_, ⟨_, q2, q3⟩ | ⟨j, _, hj, _⟩⟩
        · omega
        · exact ⟨q2, q3⟩
        · omega
      obtain ⟨rfl, rfl⟩ := hbt
      clear hg HR
      go_wp2
      go_ret
      exact ⟨ret_eq (bool_eq (by simp)), Below.refl _ _⟩

/-! ### THE ROW's STEP: WRITTEN OUT: LEAVE IT -/
set_option maxRecDepth 100000 in
theorem lifted (os : Os) (started : os.Started) (H : Type) (enc : TypeId × Value → H) :
    ReturnsInHanded {} Try.checked os 13 .any (Rows.orderGreatestSpec.pre6 enc Try.prog Try.f13 Rows.orderGreatestRow.domain false) (Rows.orderGreatestSpec.post enc Try.prog Try.f13 false true false false) := by
  refine returnsInHanded_of_change (C := Try.checked) own started (by kernel_rfl) Try.func13
    (ChangeSpec.witness6 (enc := enc) (C := Try.checked) false ⟨#[], #[.slice none 0 0], []⟩ 8 (by kernel_rfl) (by kernel_rfl) (by kernel_rfl) (by kernel_rfl)) ?_
  intro W base args ds gs before hval0 hW hcnd _
  have hval : ∀ (j : Nat) t v, Try.f13.params[j]? = some t → args[j]? = some v → Value.okWide Try.prog W .any base t v := hval0
  have hW' := hW
  obtain ⟨p, q, hA0, hV, rfl, hfz, hnd⟩ := hW
  have hA : DataW.TrodAll enc Try.prog W 0 (fun _ => true) true Try.f13.params.toList args.toList ds p := hA0
  rw [Try.params13] at hA hval
  obtain ⟨v0, vs0, d0, ds0, p0, q0, hargs, rfl, rfl, h0, r0⟩ := trodAll_cons hA
  obtain ⟨rfl, rfl, rfl⟩ := trodAll_nil r0
  obtain rfl : args = #[v0] := by cases args; simp_all
  obtain ⟨rfl, rfl⟩ := trodVars_none hV
  obtain ⟨a0, len0, cap0, rfl⟩ := okWide_slice Try.underlying56 (hval 0 56 v0 rfl rfl)
  have k0 := h0
  have lt0 : ∀ x ∈ p0, x.block < W.heap.size := by obtain ⟨m, hm⟩ := k0; exact DataW.trod_lt m _ _ _ hm
  obtain ⟨z0, w0⟩ : ∃ zs, IsRow .u64 W a0 len0 cap0 zs := by
    obtain ⟨fuel, hf⟩ := h0
    rcases open_ints Try.underlying56 Try.underlying22 (by kernel_rfl) hf with ⟨hcs, _⟩ | ⟨x, l, c, zs, hcs, _, hl, hm, hz, _, hcell, hwz⟩
    · simp [Value.cells] at hcs
      obtain ⟨rfl, rfl, rfl⟩ := hcs
      exact ⟨[], .inl ⟨rfl, rfl, rfl, rfl⟩⟩
    · simp [Value.cells] at hcs
      obtain ⟨rfl, rfl, rfl⟩ := hcs
      exact ⟨zs, .inr ⟨_, rfl, hl, hm, by simpa using hz, hcell, hwz⟩⟩
  clear hA0 hval0
  refine (walk a0 len0 cap0 z0 W w0).mono fun e W' ⟨he, bel⟩ => ?_
  subst he
  exact ⟨_, rfl, _, _, _, [], _, [], hW', trodAll_mk1 (shut_bool Try.underlying4 _), (trodAll_cons_mk (Below.trod laidOut (by kernel_rfl) (of_decide_eq_true (by kernel_rfl)) k0 bel lt0) trodAll_mk0), rfl, bel.frame _, fun h => by cases h⟩

theorem over : Rows.orderGreatestRow.holds Try.pinned (OpenSpec.ofChange Rows.orderGreatestSpec) :=
  OpenClaim.holds_of_wide 13 Try.f13 rfl rfl rfl rfl rfl rfl rfl ⟨rfl, rfl, rfl, rfl, rfl⟩ rfl rfl rfl rfl rfl (by kernel_rfl) Try.func13 (by kernel_rfl)
    (of_decide_eq_true (by kernel_rfl)) (by unfold Func.isWrapper; first | (rw [if_pos (by decide +kernel)]; kernel_rfl) | (rw [if_neg (by decide +kernel)]; exact ⟨rfl, rfl⟩))
    (fun os started H enc _ => lifted os started H enc)

/-- ████ THE STATEMENT ████ -/
theorem proved : Rows.OrderGreatestSaid := over
#print axioms proved
end Go.Proofs.Yteohkpiecidicaa.orderGreatest
