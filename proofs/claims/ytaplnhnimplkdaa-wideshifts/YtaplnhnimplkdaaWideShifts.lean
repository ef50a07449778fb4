/-
  The law WideShifts returns true at every input, and leaves its arguments as they were. No conditions.
-/
import Derived.Test.YtaplnhnimplkdaaRows
import Derived.WalkKit
import Derived.ProofKit
import Derived.OpenShut
import Derived.Deep.RegionHeld3
import Derived.Test.YtaplnhnimplkdaaWideL
import Derived.Lib.SmallJoins
import Derived.Below
namespace Go.Proofs.Ytaplnhnimplkdaa.wideShifts
open Go.ChangeShapes Go.WideShapes Go.ChangeAt Go.RowKit
open Go.Joins (open_agg2 shut_agg2)
set_option linter.unusedVariables false

theorem own : ownKnob Try.prog.godebug = none := by kernel_rfl
theorem cells39 : Try.prog.cellsOf 39 = 2 := by kernel_rfl

theorem clamp (A : Nat) (n K : Int) (hA : A < 2 ^ 128) (hK : K = min (max n 0) 200) : 2 ^ K.toNat * A % 2 ^ 128 = 2 ^ n.toNat * A % 2 ^ 128 ∧ A / 2 ^ K.toNat = A / 2 ^ n.toNat ∧ lostB A K.toNat = lostB A n.toNat := by
  by_cases h : n ≤ 200
  · have : K.toNat = n.toNat := by omega
    rw [this]; exact ⟨rfl, rfl, rfl⟩
  · have e : K.toNat = 200 := by omega
    rw [e]
    obtain ⟨m, hm⟩ : ∃ m, n.toNat = 200 + m := ⟨n.toNat - 200, by omega⟩
    rw [hm]
    have p1 : (2 : Nat) ^ 128 ≤ 2 ^ 200 := Nat.pow_le_pow_right (by decide) (by decide)
    have p2 : (2 : Nat) ^ 200 ≤ 2 ^ (200 + m) := Nat.pow_le_pow_right (by decide) (by omega)
    refine ⟨?_, ?_, ?_⟩
    · rw [show (2 : Nat) ^ (200 + m) * A = 2 ^ 128 * (2 ^ (72 + m) * A) by rw [← Nat.mul_assoc, ← Nat.pow_add]; congr 2; omega, show (2 : Nat) ^ 200 * A = 2 ^ 128 * (2 ^ 72 * A) by rw [← Nat.mul_assoc, ← Nat.pow_add], Nat.mul_mod_right, Nat.mul_mod_right]
    · rw [Nat.div_eq_of_lt (by omega), Nat.div_eq_of_lt (by omega)]
    · unfold lostB
      rw [Nat.mod_eq_of_lt (show A < 2 ^ 200 by omega), Nat.mod_eq_of_lt (show A < 2 ^ (200 + m) by omega)]
--OPT set_option maxHeartbeats 1000000 in
set_option maxHeartbeats 1000000 in
theorem walk (a0h a0l : Int) (a1 : Int) (w : World) (w0h : (Lit.int .u64 a0h).wf = true) (w0l : (Lit.int .u64 a0l).wf = true) (w1 : (Lit.int .i64 a1).wf = true) :
    Calls Try.prog 11 #[.agg #[.int .u64 a0h, .int .u64 a0l], .int .i64 a1] w fun e w' => e = .returned (.bool true) ∧ Below w.heap.size w w' := by
  obtain ⟨h0, h1⟩ := bounds_u64 w0h
  obtain ⟨g0, g1⟩ := bounds_u64 w0l
  obtain ⟨n0, n1⟩ := bounds_i64 w1
  have h1' : a0h < 18446744073709551616 := by omega
  have g1' : a0l < 18446744073709551616 := by omega
  have hA := wid_lt a0h a0l h0 h1' g0 g1'
  have hla : (bl (wid a0h a0l)).length ≤ 128 := (bl_length_le _ 128).2 hA
  obtain ⟨K, hK⟩ : ∃ K : Int, K = min (max a1 0) 200 := ⟨_, rfl⟩
  have C := clamp (wid a0h a0l) a1 K hA hK
  have hK0 : 0 ≤ K := by omega
  have hK1 : K ≤ 200 := by omega
  have hlu : (bl (2 ^ K.toNat * val (bl (wid a0h a0l)))).length ≤ 100000 := by
    have := up_len (bl (wid a0h a0l)) K.toNat (bl_bin _)
    omega
  have hl5 : (bl (wid a0h a0l / 2 ^ a1.toNat)).length ≤ 100000 := by
    have : (bl (wid a0h a0l / 2 ^ a1.toNat)).length ≤ 128 := (bl_length_le _ 128).2 (Nat.lt_of_le_of_lt (Nat.div_le_self _ _) hA)
    omega
  have HD : Hid (wid a0h a0l / 2 ^ a1.toNat < 2 ^ 128) := Nat.lt_of_le_of_lt (Nat.div_le_self _ _) hA
  obtain ⟨H2, L2, b0, b1, b2, b3, e4⟩ : ∃ H2 L2 : Int, 0 ≤ H2 ∧ H2 < 18446744073709551616 ∧ 0 ≤ L2 ∧ L2 < 18446744073709551616 ∧ wid H2 L2 = 2 ^ a1.toNat * wid a0h a0l % 2 ^ 128 :=
    wid_ex _ (mod128_lt _)
  have E4 : Hid (_ = _) := e4
  clear e4
  have hcs : (200 < a1 ∧ K = 200) ∨ (a1 < 0 ∧ K = 0) ∨ (0 ≤ a1 ∧ a1 ≤ 200 ∧ K = a1) := by omega
  obtain ⟨c1, c2, c3⟩ := C
  obtain ⟨t, ht⟩ : ∃ t, lostB (wid a0h a0l) a1.toNat = t := ⟨_, rfl⟩
  rw [ht] at c3
  have HT : Hid (_ = _) := ht
  have C1 : Hid (_ = _) := c1
  have C2 : Hid (_ = _) := c2
  have C3 : Hid (_ = _) := c3
  clear hK c1 c2 c3 ht
  rcases hcs with ⟨q1, rfl⟩ | ⟨q1, rfl⟩ | ⟨q1, q2, rfl⟩
  all_goals
    go_enter Try.func11, Try.ntmps11
    go_wp2_with fail
    refine (rHead2 _).mono ?_
    rintro e w2 ⟨rfl, hb2⟩
    have f0 := hb2.cell (p := ⟨w.heap.size, 0, none⟩) (by simp)
    have f1 := hb2.cell (p := ⟨w.heap.size, 1, none⟩) (by simp)
    simp [go_sem] at f0 f1
    have hz2 : w.heap.size < w2.heap.size := by have := hb2.size; simp at this; omega
    have hx2 : Below w.heap.size w w2 := ((Below.refl _ _).alloc (Nat.le_refl _) _).trans (hb2.mono (by simp))
    clear hb2
    go_wp2_with fail
    refine (wRight _ _ _ _ h0 h1' g0 g1' n1).mono ?_
    rintro e w3 ⟨hr, lr, rfl, rr0, rr1, rr2, rr3, rr4, hb3⟩
    rw [HT.out]
    have f0 := cell_later hb3 f0
    have f1 := cell_later hb3 f1
    have hz3 : w.heap.size < w3.heap.size := by have := hb3.size; omega
    have hx3 : Below w.heap.size w w3 := hx2.trans (hb3.mono (by omega))
    have R4 : Hid (_ = _) := rr4
    clear hb3 rr4
    have hn3 : ¬ w.heap.size = w3.heap.size := by omega
    go_wp2_with fail
    refine (rList _ _ _ h0 h1' g0 g1').mono ?_
    rintro e w4 ⟨v4, rfl, own4, hb4⟩
    have e0 := hb4.cell (p := ⟨w3.heap.size, 0, none⟩) (by simp)
    have e1 := hb4.cell (p := ⟨w3.heap.size, 1, none⟩) (by simp)
    have hy4 : Below w3.heap.size w3 w4 := ((Below.refl _ _).alloc (Nat.le_refl _) _).trans (hb4.mono (by simp))
    have f0 := cell_later hy4 f0
    have f1 := cell_later hy4 f1
    simp [go_sem] at e0 e1
    have hx4 : Below w.heap.size w w4 := hx3.trans (hy4.mono (by omega))
    have hz4 : w3.heap.size < w4.heap.size := by have := hb4.size; simp at this; omega
    clear hb4 hy4
    go_wp2_with fail
    refine (rDown _ _ _ _ own4.sees (bl_bin _) (by omega)).mono ?_
    rintro e w5 ⟨v5, rfl, own5, hb5⟩
    rw [val_bl, C3.out]
    rw [val_bl] at own5
    (try rw [C2.out] at own5)
    have f0 := cell_later hb5 f0
    have f1 := cell_later hb5 f1
    have e0 := cell_later hb5 e0
    have e1 := cell_later hb5 e1
    have hx5 : Below w.heap.size w w5 := hx4.trans (hb5.mono (by omega))
    have hz5 : w4.heap.size ≤ w5.heap.size := hb5.size
    clear hb5 own4
    go_wp2_with fail
    go_region_held3 (fun w' => w'.cell? ⟨w.heap.size, 0, none⟩ = some (.int .u64 a0h) ∧ w'.cell? ⟨w.heap.size, 1, none⟩ = some (.int .u64 a0l) ∧ w'.cell? ⟨w3.heap.size, 0, none⟩ = some (.int .u64 hr) ∧ w'.cell? ⟨w3.heap.size, 1, none⟩ = some (.int .u64 lr)) (simp [go_sem, *])
      (first
        | (go_at_call 50; refine (wLeft _ _ _ _ h0 h1' g0 g1' n1).mono ?_; rintro e w6 ⟨h2, l2, rfl, k0, k1, k2, k3, k4, hb6⟩; obtain ⟨rfl, rfl⟩ := wid_inj H2 L2 h2 l2 b0 b1 b2 b3 k0 k1 k2 k3 (E4.out.trans k4.symm); have hy6 : Below w5.heap.size w5 w6 := ((Below.refl _ _).drew).trans (hb6.mono (by simp)); have p0 := cell_later hy6 f0; have p1 := cell_later hy6 f1; have p2 := cell_later hy6 e0; have p3 := cell_later hy6 e1; clear k4 hb6)
        | (go_at_call 34; refine (rList _ _ _ h0 h1' g0 g1').mono ?_; rintro e w7 ⟨v7, rfl, own7, hb7⟩; have q0 := cell_later hb7 p0; have q1 := cell_later hb7 p1; have q2 := cell_later hb7 p2; have q3 := cell_later hb7 p3; have hy7 : Below w5.heap.size w5 w7 := hy6.trans (hb7.mono hy6.size))
        | (go_at_call 38; refine (rUp _ _ _ _ own7.sees (bl_bin _) (by omega) (by omega)).mono ?_; rintro e w8 ⟨v8, rfl, own8, hb8⟩; have r0 := cell_later hb8 q0; have r1 := cell_later hb8 q1; have r2 := cell_later hb8 q2; have r3 := cell_later hb8 q3; have hy8 : Below w5.heap.size w5 w8 := hy7.trans (hb8.mono hy7.size))
        | (go_at_call_of 40 v5; refine (rBack _ _ _ ((own5.below hy9).sees) (bl_bin _) hl5).mono ?_; rintro e w10 ⟨h4, l4, rfl, c0, c1, c2, c3, c4, hb10⟩; rw [val_bl, Nat.mod_eq_of_lt HD.out] at c4; obtain ⟨rfl, rfl⟩ := wid_inj hr lr h4 l4 rr0 rr1 rr2 rr3 c0 c1 c2 c3 (R4.out.trans c4.symm); have x0 := cell_later hb10 s0; have x1 := cell_later hb10 s1; have x2 := cell_later hb10 s2; have x3 := cell_later hb10 s3; have hy10 : Below w5.heap.size w5 w10 := hy9.trans (hb10.mono hy9.size); clear c4)
        | (go_at_call 40; refine (rBack _ _ _ own8.sees (bl_bin _) hlu).mono ?_; rintro e w9 ⟨h3, l3, rfl, d0, d1, d2, d3, d4, hb9⟩; rw [val_bl, val_bl] at d4; (try rw [C1.out] at d4); obtain ⟨rfl, rfl⟩ := wid_inj H2 L2 h3 l3 b0 b1 b2 b3 d0 d1 d2 d3 (E4.out.trans d4.symm); have s0 := cell_later hb9 r0; have s1 := cell_later hb9 r1; have s2 := cell_later hb9 r2; have s3 := cell_later hb9 r3; have hy9 : Below w5.heap.size w5 w9 := hy8.trans (hb9.mono hy8.size); clear d4))
    go_wp2
    go_ret
    exact ⟨ret_eq rfl, hx5.trans (hy10.mono (by omega))⟩

/-! ### THE ROW's STEP -/
set_option maxRecDepth 100000 in
theorem lifted (os : Os) (started : os.Started) (H : Type) (enc : TypeId × Value → H) :
    ReturnsInHanded {} Try.checked os 11 .any (Rows.wideShiftsSpec.pre6 enc Try.prog Try.f11 Rows.wideShiftsRow.domain false) (Rows.wideShiftsSpec.post enc Try.prog Try.f11 false true false false) := by
  refine returnsInHanded_of_change (C := Try.checked) own started (by kernel_rfl) Try.func11
    (ChangeSpec.witness6 (enc := enc) (C := Try.checked) false ⟨#[], #[.agg #[.int .u64 0, .int .u64 0], .int .i64 0], []⟩ 8 (by kernel_rfl) (by kernel_rfl) (by kernel_rfl) (by kernel_rfl)) ?_
  intro W base args ds gs before hval0 hW hcnd _
  have hval : ∀ (j : Nat) t v, Try.f11.params[j]? = some t → args[j]? = some v → Value.okWide Try.prog W .any base t v := hval0
  have hW' := hW
  obtain ⟨p, q, hA0, hV, rfl, hfz, hnd⟩ := hW
  have hA : DataW.TrodAll enc Try.prog W 0 (fun _ => true) true Try.f11.params.toList args.toList ds p := hA0
  rw [Try.params11] at hA hval
  obtain ⟨v0, vs0, d0, ds0, p0, q0, hargs, rfl, rfl, h0, r0⟩ := trodAll_cons hA
  obtain ⟨v1, vs1, d1, ds1, p1, q1, rfl, rfl, rfl, h1, r1⟩ := trodAll_cons r0
  obtain ⟨rfl, rfl, rfl⟩ := trodAll_nil r1
  obtain rfl : args = #[v0, v1] := by cases args; simp_all
  obtain ⟨rfl, rfl⟩ := trodVars_none hV
  obtain ⟨c00, c01, y00, y01, m0, rfl, rfl, rfl, hy00, hy01⟩ := open_agg2 Try.underlying39 (by kernel_rfl) cells39 (hval 0 39 v0 rfl rfl) h0
  obtain ⟨a0h, e00, rfl, w0h⟩ := DataW.trod_int Try.underlying22 hy00
  obtain ⟨a0l, e01, rfl, w0l⟩ := DataW.trod_int Try.underlying22 hy01
  simp at e00 e01
  subst e00 e01
  obtain ⟨a1, rfl, rfl, rfl, w1⟩ := open_int Try.underlying3 (hval 1 3 v1 rfl rfl) h1
  clear hA0 hval0
  have sr0 : ∀ (W' : World) (sp : Nat → Bool), DataW.Trod enc Try.prog W' 0 sp true 39 (.agg #[.int .u64 a0h, .int .u64 a0l]) (.agg [.lit (.int .u64 a0h), .lit (.int .u64 a0l)]) [] := fun W' sp =>
    shut_agg2 (y0 := (.lit (.int .u64 a0h), [])) (y1 := (.lit (.int .u64 a0l), [])) Try.underlying39 (by kernel_rfl) cells39 ⟨1, by simp [DataW.trod, Try.underlying22, w0h]⟩ ⟨1, by simp [DataW.trod, Try.underlying22, w0l]⟩
  refine (walk a0h a0l a1 W w0h w0l w1).mono fun e W' ⟨he, bel⟩ => ?_
  subst he
  exact ⟨_, rfl, _, _, _, [], _, [], hW', trodAll_mk1 (shut_bool Try.underlying4 _), (trodAll_cons_mk (sr0 _ _) (trodAll_cons_mk (shut_int Try.underlying3 w1) trodAll_mk0)), rfl, bel.frame _, fun h => by cases h⟩

theorem over : Rows.wideShiftsRow.holds Try.pinned (OpenSpec.ofChange Rows.wideShiftsSpec) :=
  OpenClaim.holds_of_wide 11 Try.f11 rfl rfl rfl rfl rfl rfl rfl ⟨rfl, rfl, rfl, rfl, rfl⟩ rfl rfl rfl rfl rfl (by kernel_rfl) Try.func11 (by kernel_rfl)
    (of_decide_eq_true (by kernel_rfl)) (by unfold Func.isWrapper; first | (rw [if_pos (by decide +kernel)]; kernel_rfl) | (rw [if_neg (by decide +kernel)]; exact ⟨rfl, rfl⟩))
    (fun os started H enc _ => lifted os started H enc)

/-- THE STATEMENT -/
theorem proved : Rows.WideShiftsSaid :=
  over
#print axioms proved
end Go.Proofs.Ytaplnhnimplkdaa.wideShifts
