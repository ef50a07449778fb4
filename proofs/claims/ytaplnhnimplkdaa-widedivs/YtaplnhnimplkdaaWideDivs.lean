/-
  The law WideDivs returns true at every input, and leaves its arguments as they were. No conditions.
-/
import Derived.Test.YtaplnhnimplkdaaRows
import Derived.WalkKit
import Derived.ProofKit
import Derived.OpenShut
import Derived.Deep.RegionHeld3
import Derived.Test.YtaplnhnimplkdaaWideL
import Derived.Test.YtaplnhnimplkdaaDivD
import Derived.Lib.SmallJoins
import Derived.Below
namespace Go.Proofs.Ytaplnhnimplkdaa.wideDivs
open Go.ChangeShapes Go.WideShapes Go.ChangeAt Go.RowKit
open Go.Joins (open_agg2 shut_agg2)
set_option linter.unusedVariables false

theorem own : ownKnob Try.prog.godebug = none := by kernel_rfl
theorem cells39 : Try.prog.cellsOf 39 = 2 := by kernel_rfl

theorem quot_lt (M H L V : Nat) (h : H < V) (l : L < M) : (H * M + L) / V < M := by
  rw [Nat.div_lt_iff_lt_mul (by omega), Nat.mul_comm M]
  have : (H + 1) * M ≤ V * M := Nat.mul_le_mul_right _ h
  rw [Nat.add_mul, Nat.one_mul] at this
  omega
--OPT set_option maxHeartbeats 2000000 in
set_option maxHeartbeats 2000000 in
theorem walk (a0h a0l : Int) (a1 : Int) (w : World) (w0h : (Lit.int .u64 a0h).wf = true) (w0l : (Lit.int .u64 a0l).wf = true) (w1 : (Lit.int .u64 a1).wf = true) :
    Calls Try.prog 12 #[.agg #[.int .u64 a0h, .int .u64 a0l], .int .u64 a1] w fun e w' => e = .returned (.bool true) ∧ Below w.heap.size w w' := by
  obtain ⟨a0, a1'⟩ := bounds_u64 w0h
  obtain ⟨a2, a3'⟩ := bounds_u64 w0l
  obtain ⟨b0, b1'⟩ := bounds_u64 w1
  have c1 : a0h < 18446744073709551616 := by omega
  have c3 : a0l < 18446744073709551616 := by omega
  have d1 : a1 < 18446744073709551616 := by omega
  clear a1' a3' b1'
  by_cases hge : a1 ≤ a0h
  · go_enter Try.func12, Try.ntmps12
    go_wp2_with fail
    refine (rHead2 _).mono ?_
    rintro e w2 ⟨rfl, hb2⟩
    have f0 := hb2.cell (p := ⟨w.heap.size, 0, none⟩) (by simp)
    have f1 := hb2.cell (p := ⟨w.heap.size, 1, none⟩) (by simp)
    simp [go_sem] at f0 f1
    have hz2 : w.heap.size < w2.heap.size := by have := hb2.size; simp at this; omega
    have hx2 : Below w.heap.size w w2 := ((Below.refl _ _).alloc (Nat.le_refl _) _).trans (hb2.mono (by simp))
    clear hb2
    go_wp2_with fail
    refine (wDiv_great _ _ _ _ a0 c1 a2 c3 b0 d1 hge).mono ?_
    rintro e w3 ⟨rfl, hb3⟩
    have f0 := cell_later hb3 f0
    have f1 := cell_later hb3 f1
    have hx3 : Below w.heap.size w w3 := hx2.trans (hb3.mono (by omega))
    clear hb3
    go_wp2
    go_ret
    exact ⟨ret_eq rfl, hx3⟩
  · have hlt : a0h < a1 := by omega
    have hlA : (bl (wid a0h a0l)).length ≤ 128 := (bl_length_le _ 128).2 (wid_lt a0h a0l a0 c1 a2 c3)
    have hlB : (bl a1.toNat).length ≤ 64 := (bl_length_le _ 64).2 (by omega)
    have hwd : wid a0h a0l = a0h.toNat * 18446744073709551616 + a0l.toNat := by unfold wid; omega
    have hQl : wid a0h a0l / a1.toNat < 18446744073709551616 := by
      rw [hwd]
      exact quot_lt 18446744073709551616 a0h.toNat a0l.toNat a1.toNat (by omega) (by omega)
    have hRl : wid a0h a0l % a1.toNat < 18446744073709551616 := Nat.lt_trans (Nat.mod_lt _ (by omega)) (by omega)
    obtain ⟨Qt, hQt⟩ : ∃ Qt : Int, Qt = ((wid a0h a0l / a1.toNat : Nat) : Int) := ⟨_, rfl⟩
    obtain ⟨Rt, hRt⟩ : ∃ Rt : Int, Rt = ((wid a0h a0l % a1.toNat : Nat) : Int) := ⟨_, rfl⟩
    have HQt : Hid (_ = _) := hQt
    have HRt : Hid (_ = _) := hRt
    have EQ : Hid (((val (bl (val (bl (wid a0h a0l)) / val (bl a1.toNat))) : Nat) : Int) % 18446744073709551616 = Qt) := by
      show _ = _
      rw [val_bl, val_bl, val_bl, hQt]
      generalize wid a0h a0l / a1.toNat = X at *
      omega
    have ER : Hid (((val (bl (val (bl (wid a0h a0l)) % val (bl a1.toNat))) : Nat) : Int) % 18446744073709551616 = Rt) := by
      show _ = _
      rw [val_bl, val_bl, val_bl, hRt]
      generalize wid a0h a0l % a1.toNat = X at *
      omega
    have hlQ : (bl (val (bl (wid a0h a0l)) / val (bl a1.toNat))).length ≤ 64 := by rw [val_bl, val_bl]; exact (bl_length_le _ 64).2 hQl
    have hlR : (bl (val (bl (wid a0h a0l)) % val (bl a1.toNat))).length ≤ 64 := by rw [val_bl, val_bl]; exact (bl_length_le _ 64).2 hRl
    have hpos : Hid (0 < val (bl a1.toNat)) := by show 0 < _; rw [val_bl]; omega
    have HLQ : Hid (_ ≤ _) := hlQ
    have HLR : Hid (_ ≤ _) := hlR
    clear hwd hQt hRt hlQ hlR hQl hRl
    go_enter Try.func12, Try.ntmps12
    go_wp2_with fail
    refine (rHead2 _).mono ?_
    rintro e w2 ⟨rfl, hb2⟩
    have f0 := hb2.cell (p := ⟨w.heap.size, 0, none⟩) (by simp)
    have f1 := hb2.cell (p := ⟨w.heap.size, 1, none⟩) (by simp)
    simp [go_sem] at f0 f1
    have hz2 : w.heap.size < w2.heap.size := by have := hb2.size; simp at this; omega
    have hx2 : Below w.heap.size w w2 := ((Below.refl _ _).alloc (Nat.le_refl _) _).trans (hb2.mono (by simp))
    clear hb2
    go_wp2_with fail
    refine (wDiv _ _ _ _ _ _ a0 a2 c3 d1 hlt HQt.out HRt.out).mono ?_
    rintro e w3 ⟨rfl, hb3⟩
    have f0 := cell_later hb3 f0
    have f1 := cell_later hb3 f1
    have hz3 : w.heap.size < w3.heap.size := by have := hb3.size; omega
    have hx3 : Below w.heap.size w w3 := hx2.trans (hb3.mono (by omega))
    clear hb3
    go_wp2_with fail
    refine (rList _ _ _ a0 c1 a2 c3).mono ?_
    rintro e w4 ⟨v4, rfl, own4, hb4⟩
    have hz4 : w3.heap.size ≤ w4.heap.size := hb4.size
    have hx4 : Below w.heap.size w w4 := hx3.trans (hb4.mono (by omega))
    clear hb4
    go_wp2_with fail
    refine (rOf _ _ b0 d1).mono ?_
    rintro e w5 ⟨v5, rfl, own5, hb5⟩
    have own4 := own4.below hb5
    have hz5 : w4.heap.size ≤ w5.heap.size := hb5.size
    have hx5 : Below w.heap.size w w5 := hx4.trans (hb5.mono (by omega))
    clear hb5
    go_wp2_with fail
    refine (rDiv _ _ _ _ _ own4.sees own5.sees (bl_bin _) (bl_bin _) (by omega) (by omega) hpos.out).mono ?_
    rintro e w6 ⟨v6, v7, rfl, own6, own7, hb6⟩
    have hx6 : Below w.heap.size w w6 := hx5.trans (hb6.mono (by omega))
    clear hb6 own4 own5
    go_wp2_with fail
    refine (rNum _ _ _ own6.sees (bl_bin _) (by have := HLQ.out; omega)).mono ?_
    rintro e w8 ⟨rfl, rfl⟩
    rw [EQ.out]
    go_wp2_with fail
    refine (rNum _ _ _ own7.sees (bl_bin _) (by have := HLR.out; omega)).mono ?_
    rintro e w9 ⟨rfl, rfl⟩
    rw [ER.out]
    go_wp2
    go_ret
    exact ⟨ret_eq rfl, hx6⟩

/-! ### THE ROW's STEP -/
set_option maxRecDepth 100000 in
theorem lifted (os : Os) (started : os.Started) (H : Type) (enc : TypeId × Value → H) :
    ReturnsInHanded {} Try.checked os 12 .any (Rows.wideDivsSpec.pre6 enc Try.prog Try.f12 Rows.wideDivsRow.domain false) (Rows.wideDivsSpec.post enc Try.prog Try.f12 false true false false) := by
  refine returnsInHanded_of_change (C := Try.checked) own started (by kernel_rfl) Try.func12
    (ChangeSpec.witness6 (enc := enc) (C := Try.checked) false ⟨#[], #[.agg #[.int .u64 0, .int .u64 0], .int .u64 0], []⟩ 8 (by kernel_rfl) (by kernel_rfl) (by kernel_rfl) (by kernel_rfl)) ?_
  intro W base args ds gs before hval0 hW hcnd _
  have hval : ∀ (j : Nat) t v, Try.f12.params[j]? = some t → args[j]? = some v → Value.okWide Try.prog W .any base t v := hval0
  have hW' := hW
  obtain ⟨p, q, hA0, hV, rfl, hfz, hnd⟩ := hW
  have hA : DataW.TrodAll enc Try.prog W 0 (fun _ => true) true Try.f12.params.toList args.toList ds p := hA0
  rw [Try.params12] at hA hval
  obtain ⟨v0, vs0, d0, ds0, p0, q0, hargs, rfl, rfl, h0, r0⟩ := trodAll_cons hA
  obtain ⟨v1, vs1, d1, ds1, p1, q1, rfl, rfl, rfl, h1, r1⟩ := trodAll_cons r0
  obtain ⟨rfl, rfl, rfl⟩ := trodAll_nil r1
  obtain rfl : args = #[v0, v1] := by cases args; simp_all
  obtain ⟨rfl, rfl⟩ := trodVars_none hV
  obtain ⟨c00, c01, y00, y01, m0, rfl, rfl, rfl, hy00, hy01⟩ := open_agg2 Try.underlying39 (by kernel_rfl) cells39 (hval 0 39 v0 rfl rfl) h0
  obtain ⟨a0h, e00, rfl, w0h⟩ := DataW.trod_int Try.underlying22 hy00
  obtain ⟨a0l, e01, rfl, w0l⟩ := DataW.trod_int Try.underlying22 hy01
  simp at e00 e01
  subst e00 e01
  obtain ⟨a1, rfl, rfl, rfl, w1⟩ := open_int Try.underlying22 (hval 1 22 v1 rfl rfl) h1
  clear hA0 hval0
  have sr0 : ∀ (W' : World) (sp : Nat → Bool), DataW.Trod enc Try.prog W' 0 sp true 39 (.agg #[.int .u64 a0h, .int .u64 a0l]) (.agg [.lit (.int .u64 a0h), .lit (.int .u64 a0l)]) [] := fun W' sp =>
    shut_agg2 (y0 := (.lit (.int .u64 a0h), [])) (y1 := (.lit (.int .u64 a0l), [])) Try.underlying39 (by kernel_rfl) cells39 ⟨1, by simp [DataW.trod, Try.underlying22, w0h]⟩ ⟨1, by simp [DataW.trod, Try.underlying22, w0l]⟩
  refine (walk a0h a0l a1 W w0h w0l w1).mono fun e W' ⟨he, bel⟩ => ?_
  subst he
  exact ⟨_, rfl, _, _, _, [], _, [], hW', trodAll_mk1 (shut_bool Try.underlying4 _), (trodAll_cons_mk (sr0 _ _) (trodAll_cons_mk (shut_int Try.underlying22 w1) trodAll_mk0)), rfl, bel.frame _, fun h => by cases h⟩

theorem over : Rows.wideDivsRow.holds Try.pinned (OpenSpec.ofChange Rows.wideDivsSpec) :=
  OpenClaim.holds_of_wide 12 Try.f12 rfl rfl rfl rfl rfl rfl rfl ⟨rfl, rfl, rfl, rfl, rfl⟩ rfl rfl rfl rfl rfl (by kernel_rfl) Try.func12 (by kernel_rfl)
    (of_decide_eq_true (by kernel_rfl)) (by unfold Func.isWrapper; first | (rw [if_pos (by decide +kernel)]; kernel_rfl) | (rw [if_neg (by decide +kernel)]; exact ⟨rfl, rfl⟩))
    (fun os started H enc _ => lifted os started H enc)

/-- THE STATEMENT -/
theorem proved : Rows.WideDivsSaid :=
  over
#print axioms proved
end Go.Proofs.Ytaplnhnimplkdaa.wideDivs
