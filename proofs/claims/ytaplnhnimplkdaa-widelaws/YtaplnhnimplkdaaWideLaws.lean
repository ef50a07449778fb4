/-
  The law WideLaws returns true at every input, and leaves its arguments as they were. No conditions.
-/
import Derived.Test.YtaplnhnimplkdaaRows
import Derived.WalkKit
import Derived.ProofKit
import Derived.OpenShut
import Derived.Deep.RegionHeld3
import Derived.Laws.BitsAllLaws
import Derived.Test.YtaplnhnimplkdaaWideL
import Derived.Lib.SmallJoins
import Derived.Below
namespace Go.Proofs.Ytaplnhnimplkdaa.wideLaws
open Go.ChangeShapes Go.WideShapes Go.ChangeAt Go.RowKit
open Go.Joins (open_agg2 shut_agg2)
set_option linter.unusedVariables false

theorem own : ownKnob Try.prog.godebug = none := by kernel_rfl

theorem and63 (n : Int) : bits .and .i64 n 63 = n % 64 := by
  have h63 : (BitVec.ofInt 64 63).toNat = 2 ^ 6 - 1 := by decide
  have key : (BitVec.ofInt 64 n &&& BitVec.ofInt 64 63).toNat = (n % ((2 ^ 64 : Nat) : Int)).toNat % 2 ^ 6 := by
    rw [BitVec.toNat_and, BitVec.toNat_ofInt, h63, Nat.and_two_pow_sub_one_eq_mod]
  show IntKind.i64.wrap ((BitVec.ofInt 64 n &&& BitVec.ofInt 64 63).toNat : Nat) = n % 64
  rw [key, IntKind.wrap_i64]
  omega
theorem dist (a b c : Int) (a0 : 0 ≤ a) (a1 : a < 9223372036854775808) (b0 : 0 ≤ b) (b1 : b < 9223372036854775808) (c0 : 0 ≤ c) (c1 : c < 18446744073709551616) :
    a.toNat * c.toNat + b.toNat * c.toNat = (a + b).toNat * c.toNat ∧ a.toNat * c.toNat + b.toNat * c.toNat < 2 ^ 128 := by
  have e : (a + b).toNat = a.toNat + b.toNat := by omega
  rw [e, Nat.add_mul]
  refine ⟨rfl, ?_⟩
  rw [← Nat.add_mul]
  have : (a.toNat + b.toNat) * c.toNat ≤ 18446744073709551616 * c.toNat := Nat.mul_le_mul_right _ (by omega)
  omega
theorem prod_lt (a b : Int) (a0 : 0 ≤ a) (a1 : a < 9223372036854775808) (b0 : 0 ≤ b) (b1 : b < 9223372036854775808) : a.toNat * b.toNat < 2 ^ 128 := by
  have : a.toNat * b.toNat ≤ 9223372036854775808 * 9223372036854775808 := Nat.mul_le_mul (by omega) (by omega)
  omega
theorem back_up (A n : Nat) (h : lostB A n = false) : 2 ^ n * (A / 2 ^ n) = A := by
  have : A % 2 ^ n = 0 := by unfold lostB at h; simpa using h
  have e := Nat.div_add_mod A (2 ^ n)
  omega
theorem up_back (A n : Nat) : 2 ^ n * A / 2 ^ n = A ∧ lostB (2 ^ n * A) n = false := by
  refine ⟨Nat.mul_div_cancel_left _ (Nat.two_pow_pos _), ?_⟩
  unfold lostB
  simp
theorem up_lt (a : Int) (n : Nat) (a0 : 0 ≤ a) (a1 : a < 9223372036854775808) (hn : n < 64) : 2 ^ n * a.toNat < 2 ^ 128 := by
  have h1 : (2 : Nat) ^ n ≤ 2 ^ 64 := Nat.pow_le_pow_right (by decide) (by omega)
  have : 2 ^ n * a.toNat ≤ 2 ^ 64 * 9223372036854775808 := Nat.mul_le_mul h1 (by omega)
  omega
--OPT set_option maxHeartbeats 1000000 in
set_option maxHeartbeats 1000000 in
theorem walk (a0 : Int) (a1 : Int) (a2 : Int) (a3 : Int) (w : World) (w0 : (Lit.int .u64 a0).wf = true) (w1 : (Lit.int .u64 a1).wf = true) (w2 : (Lit.int .u64 a2).wf = true) (w3 : (Lit.int .i64 a3).wf = true) :
    Calls Try.prog 14 #[.int .u64 a0, .int .u64 a1, .int .u64 a2, .int .i64 a3] w fun e w' => e = .returned (.bool true) ∧ Below w.heap.size w w' := by
  obtain ⟨a0', a1'⟩ := bounds_u64 w0
  obtain ⟨b0', b1'⟩ := bounds_u64 w1
  obtain ⟨c0', c1'⟩ := bounds_u64 w2
  have c2' : a2 < 18446744073709551616 := by omega
  have hn := and63 a3
  obtain ⟨A, hA⟩ : ∃ A : Int, a0 / 2 = A := ⟨_, rfl⟩
  obtain ⟨B, hB⟩ : ∃ B : Int, a1 / 2 = B := ⟨_, rfl⟩
  obtain ⟨N, hN⟩ : ∃ N : Int, a3 % 64 = N := ⟨_, rfl⟩
  have A0 : 0 ≤ A := by omega
  have A1 : A < 9223372036854775808 := by omega
  have B0 : 0 ≤ B := by omega
  have B1 : B < 9223372036854775808 := by omega
  have N0 : 0 ≤ N := by omega
  have N1 : N < 64 := by omega
  rw [hN] at hn
  obtain ⟨d1, d2⟩ := dist A B a2 A0 A1 B0 B1 c0' c2'
  have D1 : Hid (_ = _) := d1
  have D2 : Hid (_ < _) := d2
  have PL : Hid (A.toNat * B.toNat < 2 ^ 128) := prod_lt A B A0 A1 B0 B1
  have A2 : A < 18446744073709551616 := by omega
  have B2 : B < 18446744073709551616 := by omega
  have S0 : 0 ≤ A + B := by omega
  have S1 : A + B < 18446744073709551616 := by omega
  have HN : Hid (_ = _) := hn
  have HA : Hid (_ = _) := hA
  have HB : Hid (_ = _) := hB
  clear d1 d2 hn hA hB hN
  go_enter Try.func14, Try.ntmps14
  go_wp2_with fail
  refine (rHead2 _).mono ?_
  rintro e w2 ⟨rfl, hb2⟩
  go_wp2_with fail
  rw [HA.out, HB.out]
  refine (wMul _ _ _ A0 A2 c0' c2').mono ?_
  rintro e w3 ⟨h3, l3, rfl, k30, k31, k32, k33, k34, hb3⟩
  go_wp2_with fail
  refine (wMul _ _ _ B0 B2 c0' c2').mono ?_
  rintro e w4 ⟨h4, l4, rfl, k40, k41, k42, k43, k44, hb4⟩
  have hx4 : Below w.heap.size w w4 := (hb2.trans (hb3.mono hb2.size)).trans (hb4.mono (Nat.le_trans hb2.size hb3.size))
  clear hb2 hb3 hb4
  have over : decide (2 ^ 128 ≤ wid h3 l3 + wid h4 l4) = false := by rw [k34, k44, decide_eq_false_iff_not]; have := D2.out; omega
  have sum : Hid ((wid h3 l3 + wid h4 l4) % 2 ^ 128 = (A + B).toNat * a2.toNat) := by show _ = _; rw [k34, k44, Nat.mod_eq_of_lt D2.out, D1.out]
  clear k34 k44
  have OV : Hid (_ = _) := over
  clear over
  go_wp2_with fail
  refine (wAdd _ _ _ _ _ k30 k31 k32 k33 k40 k41 k42 k43).mono ?_
  rintro e w5 ⟨hs, ls, rfl, s0, s1, s2, s3, s4, hb5⟩
  rw [OV.out]
  rw [sum.out] at s4
  have S4 : Hid (_ = _) := s4
  have hx5 : Below w.heap.size w w5 := hx4.trans (hb5.mono hx4.size)
  clear hb5 s4 OV sum k30 k31 k32 k33 k40 k41 k42 k43
  have hz5 := hx5.size
  have hwr : IntKind.u64.wrap (A + B) = A + B := by rw [IntKind.wrap_u64]; omega
  go_wp2_with fail
  go_region_held3 (fun w' => w'.cell? ⟨w5.heap.size, 0, none⟩ = some (.int .u64 hs) ∧ w'.cell? ⟨w5.heap.size, 1, none⟩ = some (.int .u64 ls)) (simp [go_sem, *])
    (first
      | (go_at_call 45; refine (wMul _ _ _ S0 S1 c0' c2').mono ?_; rintro e w6 ⟨h6, l6, rfl, k0, k1, k2, k3, k4, hb6⟩; obtain ⟨rfl, rfl⟩ := wid_inj hs ls h6 l6 s0 s1 s2 s3 k0 k1 k2 k3 (S4.out.trans k4.symm); have q0 := hb6.cell (p := ⟨w5.heap.size, 0, none⟩) (by simp); have q1 := hb6.cell (p := ⟨w5.heap.size, 1, none⟩) (by simp); simp [go_sem] at q0 q1; have hx6 : Below w.heap.size w w6 := (hx5.trans ((((Below.refl _ _).alloc (Nat.le_refl _) _).drew).mono hz5)).trans (hb6.mono (by simp; omega)); clear k4 hb6))
  have hz6 := hx6.size
  clear q0 q1 hwr
  obtain ⟨t, ht⟩ : ∃ t, lostB (A.toNat * B.toNat) N.toNat = t := ⟨_, rfl⟩
  have HT : Hid (_ = _) := ht
  clear ht
  go_wp2_with fail
  refine (wMul _ _ _ A0 A2 B0 B2).mono ?_
  rintro e w7 ⟨h7, l7, rfl, k0, k1, k2, k3, k4, hb7⟩
  have hx7 : Below w.heap.size w w7 := hx6.trans (hb7.mono hz6)
  have hz7 := hx7.size
  have K4 : Hid (_ = _) := k4
  clear k4 hb7
  go_wp2_with fail
  rw [HN.out]
  refine (wRight _ _ _ _ k0 k1 k2 k3 (by omega)).mono ?_
  rintro e w8 ⟨h8, l8, rfl, m0, m1, m2, m3, m4, hb8⟩
  rw [K4.out, HT.out]
  rw [K4.out] at m4
  have hx8 : Below w.heap.size w w8 := hx7.trans (hb8.mono hz7)
  have hz8 := hx8.size
  have M4 : Hid (_ = _) := m4
  clear m4 hb8
  cases t
  · have E9 : Hid (2 ^ N.toNat * wid h8 l8 % 2 ^ 128 = A.toNat * B.toNat) := by
      show _ = _
      rw [M4.out, back_up _ _ HT.out, Nat.mod_eq_of_lt PL.out]
    go_wp2_with fail
    refine (wLeft _ _ _ _ m0 m1 m2 m3 (by omega)).mono ?_
    rintro e w9 ⟨h9, l9, rfl, n0, n1, n2, n3, n4, hb9⟩
    rw [E9.out] at n4
    have hx9 : Below w.heap.size w w9 := (hx8.trans (((Below.refl _ _).alloc (Nat.le_refl _) _).mono hz8)).trans (hb9.mono (by simp; omega))
    have hz9 := hx9.size
    have N4 : Hid (_ = _) := n4
    clear n4 hb9
    go_wp2_with fail
    refine (wMul _ _ _ A0 A2 B0 B2).mono ?_
    rintro e w10 ⟨h10, l10, rfl, o0, o1, o2, o3, o4, hb10⟩
    obtain ⟨rfl, rfl⟩ := wid_inj h9 l9 h10 l10 n0 n1 n2 n3 o0 o1 o2 o3 (N4.out.trans o4.symm)
    have hx10 : Below w.heap.size w w10 := hx9.trans (hb10.mono hz9)
    have hz10 := hx10.size
    clear o4 hb10
    go_wp2_with fail
    refine (wLeft _ _ _ _ (by omega) (by omega) A0 A2 (by omega)).mono ?_
    rintro e w11 ⟨h11, l11, rfl, p0, p1, p2, p3, p4, hb11⟩
    have ee : 2 ^ N.toNat * wid 0 A % 2 ^ 128 = 2 ^ N.toNat * A.toNat := by
      rw [show wid 0 A = A.toNat by unfold wid; omega]
      exact Nat.mod_eq_of_lt (up_lt A N.toNat A0 A1 (by omega))
    rw [ee] at p4
    have hx11 : Below w.heap.size w w11 := hx10.trans (hb11.mono hz10)
    have hz11 := hx11.size
    clear hb11 ee
    go_wp2_with fail
    refine (wRight _ _ _ _ p0 p1 p2 p3 (by omega)).mono ?_
    rintro e w12 ⟨h12, l12, rfl, q0, q1, q2, q3, q4, hb12⟩
    rw [p4, (up_back A.toNat N.toNat).2]
    rw [p4, (up_back A.toNat N.toNat).1] at q4
    obtain ⟨rfl, rfl⟩ : h12 = 0 ∧ l12 = A := by unfold wid at q4; omega
    have hx12 : Below w.heap.size w w12 := hx11.trans (hb12.mono hz11)
    have hz12 := hx12.size
    clear q4 p4 hb12
    go_wp2
    go_ret
    exact ⟨ret_eq rfl, hx12.trans (((Below.refl _ _).alloc (Nat.le_refl _) _).mono hz12)⟩
  · go_wp2_with fail
    refine (wLeft _ _ _ _ (by omega) (by omega) A0 A2 (by omega)).mono ?_
    rintro e w11 ⟨h11, l11, rfl, p0, p1, p2, p3, p4, hb11⟩
    have ee : 2 ^ N.toNat * wid 0 A % 2 ^ 128 = 2 ^ N.toNat * A.toNat := by
      rw [show wid 0 A = A.toNat by unfold wid; omega]
      exact Nat.mod_eq_of_lt (up_lt A N.toNat A0 A1 (by omega))
    rw [ee] at p4
    have hx11 : Below w.heap.size w w11 := (hx8.trans (((Below.refl _ _).alloc (Nat.le_refl _) _).mono hz8)).trans (hb11.mono (by simp; omega))
    have hz11 := hx11.size
    clear hb11 ee
    go_wp2_with fail
    refine (wRight _ _ _ _ p0 p1 p2 p3 (by omega)).mono ?_
    rintro e w12 ⟨h12, l12, rfl, q0, q1, q2, q3, q4, hb12⟩
    rw [p4, (up_back A.toNat N.toNat).2]
    rw [p4, (up_back A.toNat N.toNat).1] at q4
    obtain ⟨rfl, rfl⟩ : h12 = 0 ∧ l12 = A := by unfold wid at q4; omega
    have hx12 : Below w.heap.size w w12 := hx11.trans (hb12.mono hz11)
    have hz12 := hx12.size
    clear q4 p4 hb12
    go_wp2
    go_ret
    exact ⟨ret_eq rfl, hx12.trans (((Below.refl _ _).alloc (Nat.le_refl _) _).mono hz12)⟩

/-! ### THE ROW's STEP -/
set_option maxRecDepth 100000 in
theorem lifted (os : Os) (started : os.Started) (H : Type) (enc : TypeId × Value → H) :
    ReturnsInHanded {} Try.checked os 14 .any (Rows.wideLawsSpec.pre6 enc Try.prog Try.f14 Rows.wideLawsRow.domain false) (Rows.wideLawsSpec.post enc Try.prog Try.f14 false true false false) := by
  refine returnsInHanded_of_change (C := Try.checked) own started (by kernel_rfl) Try.func14
    (ChangeSpec.witness6 (enc := enc) (C := Try.checked) false ⟨#[], #[.int .u64 0, .int .u64 0, .int .u64 0, .int .i64 0], []⟩ 8 (by kernel_rfl) (by kernel_rfl) (by kernel_rfl) (by kernel_rfl)) ?_
  intro W base args ds gs before hval0 hW hcnd _
  have hval : ∀ (j : Nat) t v, Try.f14.params[j]? = some t → args[j]? = some v → Value.okWide Try.prog W .any base t v := hval0
  have hW' := hW
  obtain ⟨p, q, hA0, hV, rfl, hfz, hnd⟩ := hW
  have hA : DataW.TrodAll enc Try.prog W 0 (fun _ => true) true Try.f14.params.toList args.toList ds p := hA0
  rw [Try.params14] at hA hval
  obtain ⟨v0, vs0, d0, ds0, p0, q0, hargs, rfl, rfl, h0, r0⟩ := trodAll_cons hA
  obtain ⟨v1, vs1, d1, ds1, p1, q1, rfl, rfl, rfl, h1, r1⟩ := trodAll_cons r0
  obtain ⟨v2, vs2, d2, ds2, p2, q2, rfl, rfl, rfl, h2, r2⟩ := trodAll_cons r1
  obtain ⟨v3, vs3, d3, ds3, p3, q3, rfl, rfl, rfl, h3, r3⟩ := trodAll_cons r2
  obtain ⟨rfl, rfl, rfl⟩ := trodAll_nil r3
  obtain rfl : args = #[v0, v1, v2, v3] := by cases args; simp_all
  obtain ⟨rfl, rfl⟩ := trodVars_none hV
  obtain ⟨a0, rfl, rfl, rfl, w0⟩ := open_int Try.underlying22 (hval 0 22 v0 rfl rfl) h0
  obtain ⟨a1, rfl, rfl, rfl, w1⟩ := open_int Try.underlying22 (hval 1 22 v1 rfl rfl) h1
  obtain ⟨a2, rfl, rfl, rfl, w2⟩ := open_int Try.underlying22 (hval 2 22 v2 rfl rfl) h2
  obtain ⟨a3, rfl, rfl, rfl, w3⟩ := open_int Try.underlying3 (hval 3 3 v3 rfl rfl) h3
  clear hA0 hval0
  refine (walk a0 a1 a2 a3 W w0 w1 w2 w3).mono fun e W' ⟨he, bel⟩ => ?_
  subst he
  exact ⟨_, rfl, _, _, _, [], _, [], hW', trodAll_mk1 (shut_bool Try.underlying4 _), (trodAll_cons_mk (shut_int Try.underlying22 w0) (trodAll_cons_mk (shut_int Try.underlying22 w1) (trodAll_cons_mk (shut_int Try.underlying22 w2) (trodAll_cons_mk (shut_int Try.underlying3 w3) trodAll_mk0)))), rfl, bel.frame _, fun h => by cases h⟩

theorem over : Rows.wideLawsRow.holds Try.pinned (OpenSpec.ofChange Rows.wideLawsSpec) :=
  OpenClaim.holds_of_wide 14 Try.f14 rfl rfl rfl rfl rfl rfl rfl ⟨rfl, rfl, rfl, rfl, rfl⟩ rfl rfl rfl rfl rfl (by kernel_rfl) Try.func14 (by kernel_rfl)
    (of_decide_eq_true (by kernel_rfl)) (by unfold Func.isWrapper; first | (rw [if_pos (by decide +kernel)]; kernel_rfl) | (rw [if_neg (by decide +kernel)]; exact ⟨rfl, rfl⟩))
    (fun os started H enc _ => lifted os started H enc)

/-- THE STATEMENT -/
theorem proved : Rows.WideLawsSaid :=
  over
#print axioms proved
end Go.Proofs.Ytaplnhnimplkdaa.wideLaws
