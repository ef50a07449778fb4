/-
  The law WideSums returns true at every input, and leaves its arguments as they were. No conditions.
-/
import Derived.Test.YtaplnhnimplkdaaRows
import Derived.WalkKit
import Derived.ProofKit
import Derived.OpenShut
import Derived.Deep.RegionHeld3
import Derived.Test.YtaplnhnimplkdaaWideL
import Derived.Lib.SmallJoins
import Derived.Below
namespace Go.Proofs.Ytaplnhnimplkdaa.wideSums
open Go.ChangeShapes Go.WideShapes Go.ChangeAt Go.RowKit
open Go.Joins (open_agg2 shut_agg2)
set_option linter.unusedVariables false

theorem own : ownKnob Try.prog.godebug = none := by kernel_rfl
theorem cells39 : Try.prog.cellsOf 39 = 2 := by kernel_rfl

theorem over_len (S : Nat) : decide ((128 : Int) < ((bl S).length : Nat)) = decide (2 ^ 128 ≤ S) := by
  have := bl_length_lt S 128
  rw [decide_eq_decide]
  omega
theorem zero_len (S : Nat) : ((((bl S).length : Nat) : Int) == 0) = decide (S = 0) := by
  have := bl_nil_iff S
  rw [Bool.eq_iff_iff, beq_iff_eq, decide_eq_true_eq]
  omega
theorem under_cmp (m n : Nat) : decide (cmpI m n < 0) = decide (m < n) := by
  rw [decide_eq_decide]
  unfold cmpI
  split
  · omega
  · split <;> omega
--OPT set_option maxHeartbeats 4000000 in
set_option maxHeartbeats 4000000 in
theorem walk (a0h a0l : Int) (a1h a1l : Int) (w : World) (w0h : (Lit.int .u64 a0h).wf = true) (w0l : (Lit.int .u64 a0l).wf = true) (w1h : (Lit.int .u64 a1h).wf = true) (w1l : (Lit.int .u64 a1l).wf = true) :
    Calls Try.prog 9 #[.agg #[.int .u64 a0h, .int .u64 a0l], .agg #[.int .u64 a1h, .int .u64 a1l]] w fun e w' => e = .returned (.bool true) ∧ Below w.heap.size w w' := by
  obtain ⟨a0, a1⟩ := bounds_u64 w0h
  obtain ⟨a2, a3⟩ := bounds_u64 w0l
  obtain ⟨b0, b1⟩ := bounds_u64 w1h
  obtain ⟨b2, b3⟩ := bounds_u64 w1l
  replace a1 : a0h < 18446744073709551616 := by omega
  replace a3 : a0l < 18446744073709551616 := by omega
  replace b1 : a1h < 18446744073709551616 := by omega
  replace b3 : a1l < 18446744073709551616 := by omega
  have hA := wid_lt a0h a0l a0 a1 a2 a3
  have hB := wid_lt a1h a1l b0 b1 b2 b3
  have hlA : (bl (wid a0h a0l)).length ≤ 128 := (bl_length_le _ 128).2 hA
  have hlB : (bl (wid a1h a1l)).length ≤ 128 := (bl_length_le _ 128).2 hB
  have hlS : (bl (wid a0h a0l + wid a1h a1l)).length ≤ 129 := (bl_length_le _ 129).2 (by omega)
  have hlD : (bl (wid a0h a0l + 2 ^ 128)).length ≤ 129 := (bl_length_le _ 129).2 (by omega)
  have hlE : (bl (wid a0h a0l + 2 ^ 128 - wid a1h a1l)).length ≤ 129 := (bl_length_le _ 129).2 (by omega)
  have hlF : (bl (2 ^ 128)).length ≤ 129 := (bl_length_le _ 129).2 (by omega)
  obtain ⟨ov, hov⟩ : ∃ ov, decide (2 ^ 128 ≤ wid a0h a0l + wid a1h a1l) = ov := ⟨_, rfl⟩
  obtain ⟨un, hun⟩ : ∃ un, decide (wid a0h a0l < wid a1h a1l) = un := ⟨_, rfl⟩
  obtain ⟨ze, hze⟩ : ∃ ze, decide (wid a0h a0l = 0) = ze := ⟨_, rfl⟩
  have R1 := over_len (wid a0h a0l + wid a1h a1l)
  have R2 := under_cmp (wid a0h a0l) (wid a1h a1l)
  have R3 := zero_len (wid a0h a0l)
  rw [hov] at R1
  rw [hun] at R2
  rw [hze] at R3
  have OV : Hid (_ = _) := hov
  have UN : Hid (_ = _) := hun
  have ZE : Hid (_ = _) := hze
  have FS : Hid (val (bl (wid a0h a0l + wid a1h a1l)) % 2 ^ 128 = (wid a0h a0l + wid a1h a1l) % 2 ^ 128) := by show _ = _; rw [val_bl]
  have FD : Hid (val (bl (wid a0h a0l + 2 ^ 128 - wid a1h a1l)) % 2 ^ 128 = (2 ^ 128 + wid a0h a0l - wid a1h a1l) % 2 ^ 128) := by show _ = _; rw [val_bl, Nat.add_comm (wid a0h a0l)]
  have GE : Hid (wid a1h a1l ≤ wid a0h a0l + 2 ^ 128) := by show _ ≤ _; omega
  clear hov hun hze hA hB
  have HR1 : Hid (_ = _) := R1
  have HR2 : Hid (_ = _) := R2
  have HR3 : Hid (_ = _) := R3
  clear R1 R2 R3
  go_enter Try.func9, Try.ntmps9
  go_wp2_with fail
  refine (rHead2 _).mono ?_
  rintro e w2 ⟨rfl, hb2⟩
  have f0 := hb2.cell (p := ⟨w.heap.size, 0, none⟩) (by simp; omega)
  have f1 := hb2.cell (p := ⟨w.heap.size, 1, none⟩) (by simp; omega)
  have f2 := hb2.cell (p := ⟨w.heap.size + 1, 0, none⟩) (by simp)
  have f3 := hb2.cell (p := ⟨w.heap.size + 1, 1, none⟩) (by simp)
  simp [go_sem] at f0 f1 f2 f3
  have hz2 : w.heap.size + 1 < w2.heap.size := by have := hb2.size; simp at this; omega
  have hx2 : Below w.heap.size w w2 := (((Below.refl _ _).alloc (Nat.le_refl _) _).alloc (by simp) _).trans (hb2.mono (by simp; omega))
  clear hb2
  go_wp2_with fail
  refine (rList _ _ _ a0 a1 a2 a3).mono ?_
  rintro e w3 ⟨v3, rfl, own3, hb3⟩
  obtain ⟨g3, o3, c3, hv3, -, -, -, -⟩ := own3.sees
  rw [hv3]
  rw [hv3] at own3
  have f0 := cell_later hb3 f0
  have f1 := cell_later hb3 f1
  have f2 := cell_later hb3 f2
  have f3 := cell_later hb3 f3
  have hz3 : w.heap.size + 1 < w3.heap.size := by have := hb3.size; omega
  have hx3 : Below w.heap.size w w3 := hx2.trans (hb3.mono (by omega))
  clear hb3 hv3
  go_wp2_with fail
  refine (rList _ _ _ b0 b1 b2 b3).mono ?_
  rintro e w4 ⟨v4, rfl, own4, hb4⟩
  have f0 := cell_later hb4 f0
  have f1 := cell_later hb4 f1
  have f2 := cell_later hb4 f2
  have f3 := cell_later hb4 f3
  have own3 := own3.below hb4
  have hz4 : w.heap.size + 1 < w4.heap.size := by have := hb4.size; omega
  have hx4 : Below w.heap.size w w4 := hx3.trans (hb4.mono (by omega))
  clear hb4
  go_wp2_with fail
  refine (rAdd _ _ _ _ _ own3.sees own4.sees (bl_bin _) (bl_bin _) (by omega) (by omega)).mono ?_
  rintro e w5 ⟨v5, rfl, own5, hb5⟩
  rw [val_bl, val_bl] at own5
  obtain ⟨g5, o5, c5, hv5, -, -, -, -⟩ := own5.sees
  rw [hv5]
  rw [hv5] at own5
  have f0 := cell_later hb5 f0
  have f1 := cell_later hb5 f1
  have f2 := cell_later hb5 f2
  have f3 := cell_later hb5 f3
  have own3 := own3.below hb5
  have own4 := own4.below hb5
  have hz5 : w.heap.size + 1 < w5.heap.size := by have := hb5.size; omega
  have hx5 : Below w.heap.size w w5 := hx4.trans (hb5.mono (by omega))
  clear hb5 hv5
  go_wp2_with fail
  refine (wAdd _ _ _ _ _ a0 a1 a2 a3 b0 b1 b2 b3).mono ?_
  rintro e w6 ⟨hs, ls, rfl, s0, s1, s2, s3, s4, hb6⟩
  rw [OV.out]
  have SS : Hid (_ = _) := s4
  have f0 := cell_later hb6 f0
  have f1 := cell_later hb6 f1
  have f2 := cell_later hb6 f2
  have f3 := cell_later hb6 f3
  have own3 := own3.below hb6
  have own4 := own4.below hb6
  have own5 := own5.below hb6
  have hz6 : w.heap.size + 1 < w6.heap.size := by have := hb6.size; omega
  have hx6 : Below w.heap.size w w6 := hx5.trans (hb6.mono (by omega))
  have hn6a : ¬ w.heap.size = w6.heap.size := by omega
  have hn6b : ¬ w.heap.size + 1 = w6.heap.size := by omega
  have hn6c : w.heap.size < w6.heap.size := by omega
  clear hb6 s4
  go_wp2_with fail
  refine (wSub _ _ _ _ _ a0 a1 a2 a3 b0 b1 b2 b3).mono ?_
  rintro e w7 ⟨hd, ld, rfl, d0, d1, d2, d3, d4, hb7⟩
  rw [UN.out]
  have DD : Hid (_ = _) := d4
  have e0 := hb7.cell (p := ⟨w6.heap.size, 0, none⟩) (by simp)
  have e1 := hb7.cell (p := ⟨w6.heap.size, 1, none⟩) (by simp)
  simp [go_sem] at e0 e1
  have hy7 : Below w6.heap.size w6 w7 := ((Below.refl _ _).alloc (Nat.le_refl _) _).trans (hb7.mono (by simp))
  have f0 := cell_later hy7 f0
  have f1 := cell_later hy7 f1
  have f2 := cell_later hy7 f2
  have f3 := cell_later hy7 f3
  have own3 := own3.below hy7
  have own4 := own4.below hy7
  have own5 := own5.below hy7
  have hz7 : w6.heap.size < w7.heap.size := by have := hb7.size; simp at this; omega
  have hx7 : Below w.heap.size w w7 := hx6.trans (hy7.mono (by omega))
  clear hb7 d4 hy7 hn6a hn6b hn6c
  go_wp2_with fail
  have hone : Sees ((w7.alloc (.cells #[.int .u64 hd, .int .u64 ld] 39)).alloc (.cells #[.int .i64 1] 3)) (.slice (some ⟨w7.heap.size + 1, 0, none⟩) 1 1) [1] := by
    have := (Own.one (w7.alloc (.cells #[.int .u64 hd, .int .u64 ld] 39)) 0 1 (Nat.zero_le _)).sees
    simpa using this
  refine (rUp _ _ _ _ hone (Bin.mk (Or.inr rfl) Bin.nil) (by simp) (by omega)).mono ?_
  rintro e w8 ⟨v8, rfl, own8, hb8⟩
  rw [show 2 ^ (128 : Int).toNat * val [1] = 2 ^ 128 by decide] at own8
  have t0 := hb8.cell (p := ⟨w7.heap.size, 0, none⟩) (by simp; omega)
  have t1 := hb8.cell (p := ⟨w7.heap.size, 1, none⟩) (by simp; omega)
  simp [go_sem] at t0 t1
  have hy8 : Below w7.heap.size w7 w8 := (((Below.refl _ _).alloc (Nat.le_refl _) _).alloc (by simp) _).trans (hb8.mono (by simp; omega))
  have f0 := cell_later hy8 f0
  have f1 := cell_later hy8 f1
  have f2 := cell_later hy8 f2
  have f3 := cell_later hy8 f3
  have e0 := cell_later hy8 e0
  have e1 := cell_later hy8 e1
  have own3 := own3.below hy8
  have own4 := own4.below hy8
  have own5 := own5.below hy8
  have hz8 : w7.heap.size < w8.heap.size := by have := hb8.size; simp at this; omega
  have hx8 : Below w.heap.size w w8 := hx7.trans (hy8.mono (by omega))
  clear hb8 hy8 hone
  go_wp2_with fail
  refine (rAdd _ _ _ _ _ own3.sees own8.sees (bl_bin _) (bl_bin _) (by omega) (by omega)).mono ?_
  rintro e w9 ⟨v9, rfl, own9, hb⟩
  rw [val_bl, val_bl] at own9
  have f0 := cell_later hb f0
  have f1 := cell_later hb f1
  have f2 := cell_later hb f2
  have f3 := cell_later hb f3
  have e0 := cell_later hb e0
  have e1 := cell_later hb e1
  have t0 := cell_later hb t0
  have t1 := cell_later hb t1
  have own3 := own3.below hb
  have own4 := own4.below hb
  have own5 := own5.below hb
  have hz9 : w8.heap.size ≤ w9.heap.size := hb.size
  have hx9 : Below w.heap.size w w9 := hx8.trans (hb.mono (by omega))
  clear hb own8
  go_wp2_with fail
  refine (rSub _ _ _ _ _ own9.sees own4.sees (bl_bin _) (bl_bin _) (by omega) (by omega) (by rw [val_bl, val_bl]; exact GE.out)).mono ?_
  rintro e w10 ⟨v10, rfl, own10, hb⟩
  rw [val_bl, val_bl] at own10
  have f0 := cell_later hb f0
  have f1 := cell_later hb f1
  have f2 := cell_later hb f2
  have f3 := cell_later hb f3
  have e0 := cell_later hb e0
  have e1 := cell_later hb e1
  have t0 := cell_later hb t0
  have t1 := cell_later hb t1
  have own3 := own3.below hb
  have own4 := own4.below hb
  have own5 := own5.below hb
  have hz10 : w9.heap.size ≤ w10.heap.size := hb.size
  have hx10 : Below w.heap.size w w10 := hx9.trans (hb.mono (by omega))
  clear hb own9
  go_wp2_with fail
  have hy := (Below.refl w10.heap.size w10).drew
  have own3 := own3.below hy
  have own4 := own4.below hy
  have own5 := own5.below hy
  have own10 := own10.below hy
  have f0 : w10.drew.cell? ⟨w.heap.size, 0, none⟩ = some (.int .u64 a0h) := f0
  have f1 : w10.drew.cell? ⟨w.heap.size, 1, none⟩ = some (.int .u64 a0l) := f1
  have f2 : w10.drew.cell? ⟨w.heap.size + 1, 0, none⟩ = some (.int .u64 a1h) := f2
  have f3 : w10.drew.cell? ⟨w.heap.size + 1, 1, none⟩ = some (.int .u64 a1l) := f3
  have e0 : w10.drew.cell? ⟨w6.heap.size, 0, none⟩ = some (.int .u64 hs) := e0
  have e1 : w10.drew.cell? ⟨w6.heap.size, 1, none⟩ = some (.int .u64 ls) := e1
  have t0 : w10.drew.cell? ⟨w7.heap.size, 0, none⟩ = some (.int .u64 hd) := t0
  have t1 : w10.drew.cell? ⟨w7.heap.size, 1, none⟩ = some (.int .u64 ld) := t1
  have R1 := HR1.out
  have R2 := HR2.out
  have R3 := HR3.out
  go_region_held3 (fun w' => w'.cell? ⟨w.heap.size, 0, none⟩ = some (.int .u64 a0h) ∧ w'.cell? ⟨w.heap.size, 1, none⟩ = some (.int .u64 a0l) ∧ w'.cell? ⟨w.heap.size + 1, 0, none⟩ = some (.int .u64 a1h) ∧ w'.cell? ⟨w.heap.size + 1, 1, none⟩ = some (.int .u64 a1l) ∧ w'.cell? ⟨w6.heap.size, 0, none⟩ = some (.int .u64 hs) ∧ w'.cell? ⟨w6.heap.size, 1, none⟩ = some (.int .u64 ls) ∧ w'.cell? ⟨w7.heap.size, 0, none⟩ = some (.int .u64 hd) ∧ w'.cell? ⟨w7.heap.size, 1, none⟩ = some (.int .u64 ld)) (exact ⟨f0, f1, f2, f3, e0, e1, t0, t1⟩)
    (first
      | (go_at_call_of 40 g5; refine (rBack _ _ _ own5.sees (bl_bin _) (by omega)).mono ?_; rintro e w11 ⟨h4, l4, rfl, c0', c1', c2', c3', c4', hb⟩; rw [FS.out] at c4'; obtain ⟨rfl, rfl⟩ := wid_inj hs ls h4 l4 s0 s1 s2 s3 c0' c1' c2' c3' (SS.out.trans c4'.symm); have f0 := cell_later hb f0; have f1 := cell_later hb f1; have f2 := cell_later hb f2; have f3 := cell_later hb f3; have e0 := cell_later hb e0; have e1 := cell_later hb e1; have t0 := cell_later hb t0; have t1 := cell_later hb t1; have own3 := own3.below hb; have own4 := own4.below hb; have own5 := own5.below hb; have own10 := own10.below hb; have hy := hy.trans (hb.mono hy.size); clear c4' hb)
      | (go_at_call 40; refine (rBack _ _ _ own10.sees (bl_bin _) (by omega)).mono ?_; rintro e w12 ⟨h4, l4, rfl, c0', c1', c2', c3', c4', hb⟩; rw [FD.out] at c4'; obtain ⟨rfl, rfl⟩ := wid_inj hd ld h4 l4 d0 d1 d2 d3 c0' c1' c2' c3' (DD.out.trans c4'.symm); have f0 := cell_later hb f0; have f1 := cell_later hb f1; have f2 := cell_later hb f2; have f3 := cell_later hb f3; have e0 := cell_later hb e0; have e1 := cell_later hb e1; have t0 := cell_later hb t0; have t1 := cell_later hb t1; have own3 := own3.below hb; have own4 := own4.below hb; have own5 := own5.below hb; have own10 := own10.below hb; have hy := hy.trans (hb.mono hy.size); clear c4' hb)
      | (go_at_call 41; refine (rCmp _ _ _ _ _ own3.sees own4.sees (bl_bin _) (bl_bin _) (by omega) (by omega)).mono ?_; rintro e w13 ⟨rfl, hb⟩; rw [val_bl, val_bl]; have f0 := cell_later hb f0; have f1 := cell_later hb f1; have f2 := cell_later hb f2; have f3 := cell_later hb f3; have e0 := cell_later hb e0; have e1 := cell_later hb e1; have t0 := cell_later hb t0; have t1 := cell_later hb t1; have own3 := own3.below hb; have own4 := own4.below hb; have own5 := own5.below hb; have own10 := own10.below hb; have hy := hy.trans (hb.mono hy.size); clear hb)
      | (go_at_call 42; refine (wCmp _ _ _ _ _ a0 a1 a2 a3 b0 b1 b2 b3).mono ?_; rintro e w14 ⟨rfl, hb⟩; have f0 := cell_later hb f0; have f1 := cell_later hb f1; have f2 := cell_later hb f2; have f3 := cell_later hb f3; have e0 := cell_later hb e0; have e1 := cell_later hb e1; have t0 := cell_later hb t0; have t1 := cell_later hb t1; have own3 := own3.below hb; have own4 := own4.below hb; have own5 := own5.below hb; have own10 := own10.below hb; have hy := hy.trans (hb.mono hy.size); clear hb)
      | (go_at_call 43; refine (wLen _ _ _ a0 a1 a2 a3).mono ?_; rintro e w15 ⟨rfl, hb⟩; have f0 := cell_later hb f0; have f1 := cell_later hb f1; have f2 := cell_later hb f2; have f3 := cell_later hb f3; have e0 := cell_later hb e0; have e1 := cell_later hb e1; have t0 := cell_later hb t0; have t1 := cell_later hb t1; have own3 := own3.below hb; have own4 := own4.below hb; have own5 := own5.below hb; have own10 := own10.below hb; have hy := hy.trans (hb.mono hy.size); clear hb)
      | (go_at_call 44; refine (wZero _ _ _ a0 a1 a2 a3).mono ?_; rintro e w16 ⟨rfl, hb⟩; rw [ZE.out]; have f0 := cell_later hb f0; have f1 := cell_later hb f1; have f2 := cell_later hb f2; have f3 := cell_later hb f3; have e0 := cell_later hb e0; have e1 := cell_later hb e1; have t0 := cell_later hb t0; have t1 := cell_later hb t1; have own3 := own3.below hb; have own4 := own4.below hb; have own5 := own5.below hb; have own10 := own10.below hb; have hy := hy.trans (hb.mono hy.size); clear hb))
  clear R1 R2 R3
  go_wp2
  go_ret
  exact ⟨ret_eq rfl, hx10.trans (hy.mono (by omega))⟩

/-! ### THE ROW's STEP -/
set_option maxRecDepth 100000 in
theorem lifted (os : Os) (started : os.Started) (H : Type) (enc : TypeId × Value → H) :
    ReturnsInHanded {} Try.checked os 9 .any (Rows.wideSumsSpec.pre6 enc Try.prog Try.f9 Rows.wideSumsRow.domain false) (Rows.wideSumsSpec.post enc Try.prog Try.f9 false true false false) := by
  refine returnsInHanded_of_change (C := Try.checked) own started (by kernel_rfl) Try.func9
    (ChangeSpec.witness6 (enc := enc) (C := Try.checked) false ⟨#[], #[.agg #[.int .u64 0, .int .u64 0], .agg #[.int .u64 0, .int .u64 0]], []⟩ 8 (by kernel_rfl) (by kernel_rfl) (by kernel_rfl) (by kernel_rfl)) ?_
  intro W base args ds gs before hval0 hW hcnd _
  have hval : ∀ (j : Nat) t v, Try.f9.params[j]? = some t → args[j]? = some v → Value.okWide Try.prog W .any base t v := hval0
  have hW' := hW
  obtain ⟨p, q, hA0, hV, rfl, hfz, hnd⟩ := hW
  have hA : DataW.TrodAll enc Try.prog W 0 (fun _ => true) true Try.f9.params.toList args.toList ds p := hA0
  rw [Try.params9] at hA hval
  obtain ⟨v0, vs0, d0, ds0, p0, q0, hargs, rfl, rfl, h0, r0⟩ := trodAll_cons hA
  obtain ⟨v1, vs1, d1, ds1, p1, q1, rfl, rfl, rfl, h1, r1⟩ := trodAll_cons r0
  obtain ⟨rfl, rfl, rfl⟩ := trodAll_nil r1
  obtain rfl : args = #[v0, v1] := by cases args; simp_all
  obtain ⟨rfl, rfl⟩ := trodVars_none hV
  obtain ⟨c00, c01, y00, y01, m0, rfl, rfl, rfl, hy00, hy01⟩ := open_agg2 Try.underlying39 (by kernel_rfl) cells39 (hval 0 39 v0 rfl rfl) h0
  obtain ⟨a0h, e00, rfl, w0h⟩ := DataW.trod_int Try.underlying22 hy00
  obtain ⟨a0l, e01, rfl, w0l⟩ := DataW.trod_int Try.underlying22 hy01
  simp at e00 e01
  subst e00 e01
  obtain ⟨c10, c11, y10, y11, m1, rfl, rfl, rfl, hy10, hy11⟩ := open_agg2 Try.underlying39 (by kernel_rfl) cells39 (hval 1 39 v1 rfl rfl) h1
  obtain ⟨a1h, e10, rfl, w1h⟩ := DataW.trod_int Try.underlying22 hy10
  obtain ⟨a1l, e11, rfl, w1l⟩ := DataW.trod_int Try.underlying22 hy11
  simp at e10 e11
  subst e10 e11
  clear hA0 hval0
  have sr0 : ∀ (W' : World) (sp : Nat → Bool), DataW.Trod enc Try.prog W' 0 sp true 39 (.agg #[.int .u64 a0h, .int .u64 a0l]) (.agg [.lit (.int .u64 a0h), .lit (.int .u64 a0l)]) [] := fun W' sp =>
    shut_agg2 (y0 := (.lit (.int .u64 a0h), [])) (y1 := (.lit (.int .u64 a0l), [])) Try.underlying39 (by kernel_rfl) cells39 ⟨1, by simp [DataW.trod, Try.underlying22, w0h]⟩ ⟨1, by simp [DataW.trod, Try.underlying22, w0l]⟩
  have sr1 : ∀ (W' : World) (sp : Nat → Bool), DataW.Trod enc Try.prog W' 0 sp true 39 (.agg #[.int .u64 a1h, .int .u64 a1l]) (.agg [.lit (.int .u64 a1h), .lit (.int .u64 a1l)]) [] := fun W' sp =>
    shut_agg2 (y0 := (.lit (.int .u64 a1h), [])) (y1 := (.lit (.int .u64 a1l), [])) Try.underlying39 (by kernel_rfl) cells39 ⟨1, by simp [DataW.trod, Try.underlying22, w1h]⟩ ⟨1, by simp [DataW.trod, Try.underlying22, w1l]⟩
  refine (walk a0h a0l a1h a1l W w0h w0l w1h w1l).mono fun e W' ⟨he, bel⟩ => ?_
  subst he
  exact ⟨_, rfl, _, _, _, [], _, [], hW', trodAll_mk1 (shut_bool Try.underlying4 _), (trodAll_cons_mk (sr0 _ _) (trodAll_cons_mk (sr1 _ _) trodAll_mk0)), rfl, bel.frame _, fun h => by cases h⟩

theorem over : Rows.wideSumsRow.holds Try.pinned (OpenSpec.ofChange Rows.wideSumsSpec) :=
  OpenClaim.holds_of_wide 9 Try.f9 rfl rfl rfl rfl rfl rfl rfl ⟨rfl, rfl, rfl, rfl, rfl⟩ rfl rfl rfl rfl rfl (by kernel_rfl) Try.func9 (by kernel_rfl)
    (of_decide_eq_true (by kernel_rfl)) (by unfold Func.isWrapper; first | (rw [if_pos (by decide +kernel)]; kernel_rfl) | (rw [if_neg (by decide +kernel)]; exact ⟨rfl, rfl⟩))
    (fun os started H enc _ => lifted os started H enc)

/-- THE STATEMENT -/
theorem proved : Rows.WideSumsSaid :=
  over
#print axioms proved
end Go.Proofs.Ytaplnhnimplkdaa.wideSums
