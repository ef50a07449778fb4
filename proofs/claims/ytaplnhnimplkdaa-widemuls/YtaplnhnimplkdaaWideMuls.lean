/-
  The law WideMuls returns true at every input, and leaves its arguments as they were. No conditions.
-/
import Derived.Test.YtaplnhnimplkdaaRows
import Derived.WalkKit
import Derived.ProofKit
import Derived.OpenShut
import Derived.Deep.RegionHeld3
import Derived.Test.YtaplnhnimplkdaaWideL
import Derived.Lib.SmallJoins
import Derived.Below
namespace Go.Proofs.Ytaplnhnimplkdaa.wideMuls
open Go.ChangeShapes Go.WideShapes Go.ChangeAt Go.RowKit
open Go.Joins (open_agg2 shut_agg2)
set_option linter.unusedVariables false

theorem own : ownKnob Try.prog.godebug = none := by kernel_rfl

theorem walk (a0 : Int) (a1 : Int) (w : World) (w0 : (Lit.int .u64 a0).wf = true) (w1 : (Lit.int .u64 a1).wf = true) :
    Calls Try.prog 10 #[.int .u64 a0, .int .u64 a1] w fun e w' => e = .returned (.bool true) ∧ Below w.heap.size w w' := by
  obtain ⟨h0, h1⟩ := bounds_u64 w0
  obtain ⟨g0, g1⟩ := bounds_u64 w1
  have hl0 : (bl a0.toNat).length ≤ 64 := (bl_length_le _ 64).2 (by omega)
  have hl1 : (bl a1.toNat).length ≤ 64 := (bl_length_le _ 64).2 (by omega)
  have hl2 : (bl (val (bl a0.toNat) * val (bl a1.toNat))).length ≤ 100000 := by
    have := mul_len (bl a0.toNat) (bl a1.toNat) _ (bl_bin _) (bl_bin _) (Nat.le_refl _)
    rw [List.take_of_length_le (Nat.le_refl _)] at this
    omega
  have E : Hid (val (bl (val (bl a0.toNat) * val (bl a1.toNat))) % 2 ^ 128 = a0.toNat * a1.toNat) := by
    show _ = _
    rw [val_bl, val_bl, val_bl]
    refine Nat.mod_eq_of_lt ?_
    have : a0.toNat * a1.toNat < 18446744073709551616 * 18446744073709551616 := Nat.mul_lt_mul'' (by omega) (by omega)
    omega
  go_enter Try.func10, Try.ntmps10
  go_wp2_with fail
  refine (rHead2 _).mono ?_
  rintro e w2 ⟨rfl, hb2⟩
  go_wp2_with fail
  refine (wMul _ _ _ h0 (by omega) g0 (by omega)).mono ?_
  rintro e w3 ⟨h, l, rfl, k0, k1, k2, k3, k4, hb3⟩
  have K4 : Hid (_ = _) := k4
  clear k4
  go_wp2_with fail
  refine (rOf _ _ h0 (by omega)).mono ?_
  rintro e w4 ⟨v4, rfl, own4, hb4⟩
  go_wp2_with fail
  refine (rOf _ _ g0 (by omega)).mono ?_
  rintro e w5 ⟨v5, rfl, own5, hb5⟩
  go_wp2_with fail
  refine (rMul _ _ _ _ _ (own4.below hb5).sees own5.sees (bl_bin _) (bl_bin _) (by omega) (by omega)).mono ?_
  rintro e w6 ⟨v6, rfl, own6, hb6⟩
  go_wp2_with fail
  refine (rBack _ _ _ own6.sees (bl_bin _) (by omega)).mono ?_
  rintro e w7 ⟨h', l', rfl, m0, m1, m2, m3, m4, hb7⟩
  rw [E.out] at m4
  obtain ⟨rfl, rfl⟩ := wid_inj h l h' l' k0 k1 k2 k3 m0 m1 m2 m3 (K4.out.trans m4.symm)
  have hb27 : Below w.heap.size w w7 := (((((hb2.trans (hb3.mono hb2.size)).trans (hb4.mono (Nat.le_trans hb2.size hb3.size))).trans (hb5.mono (by have := hb2.size; have := hb3.size; have := hb4.size; omega))).trans (hb6.mono (by have := hb2.size; have := hb3.size; have := hb4.size; have := hb5.size; omega))).trans (hb7.mono (by have := hb2.size; have := hb3.size; have := hb4.size; have := hb5.size; have := hb6.size; omega)))
  clear m4 own4 own5 own6 hb2 hb3 hb4 hb5 hb6 hb7
  go_wp2_with fail
  refine (wMul _ _ _ g0 (by omega) h0 (by omega)).mono ?_
  rintro e w8 ⟨h8, l8, rfl, n0, n1, n2, n3, n4, hb8⟩
  go_wp2_with fail
  refine (wMul _ _ _ h0 (by omega) g0 (by omega)).mono ?_
  rintro e w9 ⟨h9, l9, rfl, o0, o1, o2, o3, o4, hb9⟩
  obtain ⟨rfl, rfl⟩ := wid_inj h8 l8 h9 l9 n0 n1 n2 n3 o0 o1 o2 o3 (n4.trans ((Nat.mul_comm _ _).trans o4.symm))
  clear n4 o4
  go_wp2
  go_ret
  exact ⟨ret_eq rfl, (hb27.trans (hb8.mono hb27.size)).trans (hb9.mono (Nat.le_trans hb27.size hb8.size))⟩

/-! ### THE ROW's STEP -/
set_option maxRecDepth 100000 in
theorem lifted (os : Os) (started : os.Started) (H : Type) (enc : TypeId × Value → H) :
    ReturnsInHanded {} Try.checked os 10 .any (Rows.wideMulsSpec.pre6 enc Try.prog Try.f10 Rows.wideMulsRow.domain false) (Rows.wideMulsSpec.post enc Try.prog Try.f10 false true false false) := by
  refine returnsInHanded_of_change (C := Try.checked) own started (by kernel_rfl) Try.func10
    (ChangeSpec.witness6 (enc := enc) (C := Try.checked) false ⟨#[], #[.int .u64 0, .int .u64 0], []⟩ 8 (by kernel_rfl) (by kernel_rfl) (by kernel_rfl) (by kernel_rfl)) ?_
  intro W base args ds gs before hval0 hW hcnd _
  have hval : ∀ (j : Nat) t v, Try.f10.params[j]? = some t → args[j]? = some v → Value.okWide Try.prog W .any base t v := hval0
  have hW' := hW
  obtain ⟨p, q, hA0, hV, rfl, hfz, hnd⟩ := hW
  have hA : DataW.TrodAll enc Try.prog W 0 (fun _ => true) true Try.f10.params.toList args.toList ds p := hA0
  rw [Try.params10] at hA hval
  obtain ⟨v0, vs0, d0, ds0, p0, q0, hargs, rfl, rfl, h0, r0⟩ := trodAll_cons hA
  obtain ⟨v1, vs1, d1, ds1, p1, q1, rfl, rfl, rfl, h1, r1⟩ := trodAll_cons r0
  obtain ⟨rfl, rfl, rfl⟩ := trodAll_nil r1
  obtain rfl : args = #[v0, v1] := by cases args; simp_all
  obtain ⟨rfl, rfl⟩ := trodVars_none hV
  obtain ⟨a0, rfl, rfl, rfl, w0⟩ := open_int Try.underlying22 (hval 0 22 v0 rfl rfl) h0
  obtain ⟨a1, rfl, rfl, rfl, w1⟩ := open_int Try.underlying22 (hval 1 22 v1 rfl rfl) h1
  clear hA0 hval0
  refine (walk a0 a1 W w0 w1).mono fun e W' ⟨he, bel⟩ => ?_
  subst he
  exact ⟨_, rfl, _, _, _, [], _, [], hW', trodAll_mk1 (shut_bool Try.underlying4 _), (trodAll_cons_mk (shut_int Try.underlying22 w0) (trodAll_cons_mk (shut_int Try.underlying22 w1) trodAll_mk0)), rfl, bel.frame _, fun h => by cases h⟩

theorem over : Rows.wideMulsRow.holds Try.pinned (OpenSpec.ofChange Rows.wideMulsSpec) :=
  OpenClaim.holds_of_wide 10 Try.f10 rfl rfl rfl rfl rfl rfl rfl ⟨rfl, rfl, rfl, rfl, rfl⟩ rfl rfl rfl rfl rfl (by kernel_rfl) Try.func10 (by kernel_rfl)
    (of_decide_eq_true (by kernel_rfl)) (by unfold Func.isWrapper; first | (rw [if_pos (by decide +kernel)]; kernel_rfl) | (rw [if_neg (by decide +kernel)]; exact ⟨rfl, rfl⟩))
    (fun os started H enc _ => lifted os started H enc)

/-- THE STATEMENT -/
theorem proved : Rows.WideMulsSaid :=
  over
#print axioms proved
end Go.Proofs.Ytaplnhnimplkdaa.wideMuls
