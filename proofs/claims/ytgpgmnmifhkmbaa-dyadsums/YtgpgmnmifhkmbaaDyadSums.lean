/-
  The law DyadSums returns true at every input, and leaves its arguments as they were. No conditions.
-/
import Derived.Test.YtgpgmnmifhkmbaaRows
import Derived.WalkKit
import Derived.ProofKit
import Derived.OpenShut
import Derived.Deep.RegionHeld3
import Derived.Test.YtgpgmnmifhkmbaaDSumD
import Derived.Test.YtgpgmnmifhkmbaaDSumE
import Derived.Lib.SmallJoins
import Derived.Below
namespace Go.Proofs.Ytgpgmnmifhkmbaa.dyadSums
open Go.ChangeShapes Go.WideShapes Go.ChangeAt Go.RowKit
open Go.Joins (open_agg2 shut_agg2)
set_option linter.unusedVariables false

theorem own : ownKnob Try.prog.godebug = none := by kernel_rfl

theorem nine_keep {Wa W : World} (h : Below Wa.heap.size Wa W) {b c d : Nat} {v0 v1 v2 u0 u1 u2 t0 t1 t2 : Value} (lb : b < Wa.heap.size) (lc : c < Wa.heap.size) (ld : d < Wa.heap.size)
    (K : Wa.cell? ⟨b, 0, none⟩ = some v0 ∧ Wa.cell? ⟨b, 1, none⟩ = some v1 ∧ Wa.cell? ⟨b, 2, none⟩ = some v2) (K' : Wa.cell? ⟨c, 0, none⟩ = some u0 ∧ Wa.cell? ⟨c, 1, none⟩ = some u1 ∧ Wa.cell? ⟨c, 2, none⟩ = some u2) (K'' : Wa.cell? ⟨d, 0, none⟩ = some t0 ∧ Wa.cell? ⟨d, 1, none⟩ = some t1 ∧ Wa.cell? ⟨d, 2, none⟩ = some t2) :
    (W.cell? ⟨b, 0, none⟩ = some v0 ∧ W.cell? ⟨b, 1, none⟩ = some v1 ∧ W.cell? ⟨b, 2, none⟩ = some v2) ∧ (W.cell? ⟨c, 0, none⟩ = some u0 ∧ W.cell? ⟨c, 1, none⟩ = some u1 ∧ W.cell? ⟨c, 2, none⟩ = some u2) ∧ (W.cell? ⟨d, 0, none⟩ = some t0 ∧ W.cell? ⟨d, 1, none⟩ = some t1 ∧ W.cell? ⟨d, 2, none⟩ = some t2) :=
  ⟨⟨(h.cell (p := ⟨b, 0, none⟩) lb).trans K.1, (h.cell (p := ⟨b, 1, none⟩) lb).trans K.2.1, (h.cell (p := ⟨b, 2, none⟩) lb).trans K.2.2⟩, ⟨(h.cell (p := ⟨c, 0, none⟩) lc).trans K'.1, (h.cell (p := ⟨c, 1, none⟩) lc).trans K'.2.1, (h.cell (p := ⟨c, 2, none⟩) lc).trans K'.2.2⟩, ⟨(h.cell (p := ⟨d, 0, none⟩) ld).trans K''.1, (h.cell (p := ⟨d, 1, none⟩) ld).trans K''.2.1, (h.cell (p := ⟨d, 2, none⟩) ld).trans K''.2.2⟩⟩
set_option maxRecDepth 100000 in
set_option maxHeartbeats 8000000 in
set_option linter.unusedSimpArgs false in
theorem walk (a0 : Int) (a1 : Int) (w : World) (w0 : (Lit.int .u64 a0).wf = true) (w1 : (Lit.int .u64 a1).wf = true) :
    Calls Try.prog 3 #[.int .u64 a0, .int .u64 a1] w fun e w' => e = .returned (.bool true) ∧ Below w.heap.size w w' := by
  obtain ⟨h0, h1⟩ := bounds_u64 w0
  obtain ⟨g0, g1⟩ := bounds_u64 w1
  have h1' : a0 < 18446744073709551616 := by omega
  have g1' : a1 < 18446744073709551616 := by omega
  clear w0 w1 h1 g1
  obtain ⟨bd0, bd1⟩ := smB_bd a0 h0 h1'
  obtain ⟨po0, po1⟩ := smB_pow a0 h0 h1'
  obtain ⟨p1, p2, p3, p4⟩ := parts_bd (smB a0)
  clear p3 p4
  have nx0 := nv_xv a0 h0 h1'
  obtain ⟨A, hA⟩ : ∃ A, smB a0 = A := ⟨_, rfl⟩
  have SA : Hid (smB a0 = A) := hA
  rw [hA] at bd0 bd1 po0 po1 p1 p2 nx0
  obtain ⟨Mx, hMx⟩ : ∃ M, wMant A = M := ⟨_, rfl⟩
  obtain ⟨Ex, hEx⟩ : ∃ E, wPow A = E := ⟨_, rfl⟩
  obtain ⟨sx, hsx⟩ : ∃ s, sgn A = s := ⟨_, rfl⟩
  rw [hMx] at p1 p2 nx0
  rw [hEx] at po0 po1 nx0
  rw [hsx] at nx0
  obtain ⟨mx, hmx⟩ : ∃ m, Mx.toNat = m := ⟨_, rfl⟩
  rw [hmx] at nx0
  have VMx : Hid (Mx.toNat = mx) := hmx
  have VNx : Hid (xv A = nv sx mx Ex 17) := nx0
  have PMx : Hid (wMant A = Mx) := hMx
  have PEx : Hid (wPow A = Ex) := hEx
  have PSx : Hid (decide (9223372036854775808 ≤ A) = sx) := hsx
  have lbx : (bl mx).length ≤ 53 := (bl_length_le _ _).2 (by rw [← hmx]; omega)
  clear nx0 hMx hEx hsx hA hmx
  obtain ⟨bx0, bx1⟩ := And.intro bd0 bd1
  obtain ⟨qx0, qx1⟩ := And.intro po0 po1
  obtain ⟨rx0, rx1⟩ := And.intro p1 p2
  clear bd0 bd1 po0 po1 p1 p2
  obtain ⟨bd0, bd1⟩ := smB_bd a1 g0 g1'
  obtain ⟨po0, po1⟩ := smB_pow a1 g0 g1'
  obtain ⟨p1, p2, p3, p4⟩ := parts_bd (smB a1)
  clear p3 p4
  have nx0 := nv_xv a1 g0 g1'
  obtain ⟨C, hC⟩ : ∃ A, smB a1 = A := ⟨_, rfl⟩
  have SC : Hid (smB a1 = C) := hC
  rw [hC] at bd0 bd1 po0 po1 p1 p2 nx0
  obtain ⟨My, hMy⟩ : ∃ M, wMant C = M := ⟨_, rfl⟩
  obtain ⟨Ey, hEy⟩ : ∃ E, wPow C = E := ⟨_, rfl⟩
  obtain ⟨sy, hsy⟩ : ∃ s, sgn C = s := ⟨_, rfl⟩
  rw [hMy] at p1 p2 nx0
  rw [hEy] at po0 po1 nx0
  rw [hsy] at nx0
  obtain ⟨my, hmy⟩ : ∃ m, My.toNat = m := ⟨_, rfl⟩
  rw [hmy] at nx0
  have VMy : Hid (My.toNat = my) := hmy
  have VNy : Hid (xv C = nv sy my Ey 17) := nx0
  have PMy : Hid (wMant C = My) := hMy
  have PEy : Hid (wPow C = Ey) := hEy
  have PSy : Hid (decide (9223372036854775808 ≤ C) = sy) := hsy
  have lby : (bl my).length ≤ 53 := (bl_length_le _ _).2 (by rw [← hmy]; omega)
  clear nx0 hMy hEy hsy hC hmy
  obtain ⟨by0, by1⟩ := And.intro bd0 bd1
  obtain ⟨qy0, qy1⟩ := And.intro po0 po1
  obtain ⟨ry0, ry1⟩ := And.intro p1 p2
  clear bd0 bd1 po0 po1 p1 p2
  have ct : Cnt 1 := Cnt.mk _
  go_enter Try.func3, Try.ntmps3
  go_wp2_with (first | (have ck : Cnt 1 := ct; go_at_call 7; refine (lHead7 _).mono ?_; rintro e W0 ⟨rfl, hbx⟩; have hx0 : Hid (Below w.heap.size w W0) := hbx; clear hbx; replace ct : Cnt 2 := Cnt.mk _; clear ck) | (have ck : Cnt 2 := ct; go_at_call 8; refine (lSmall _ _ h0 h1').mono ?_; rintro e w' ⟨rfl, rfl⟩; obtain ⟨W0, rfl⟩ : ∃ x, x = w' := ⟨w', rfl⟩; rw [SA.out]; replace ct : Cnt 3 := Cnt.mk _; clear ck) | (have ck : Cnt 3 := ct; go_at_call 8; refine (lSmall _ _ g0 g1').mono ?_; rintro e w' ⟨rfl, rfl⟩; obtain ⟨W0, rfl⟩ : ∃ x, x = w' := ⟨w', rfl⟩; rw [SC.out]; replace ct : Cnt 4 := Cnt.mk _; clear ck) | (have ck : Cnt 4 := ct; go_at_call 9; refine (neg_any _ _ bx0 bx1).mono ?_; rintro e w' ⟨rfl, rfl⟩; obtain ⟨W0, rfl⟩ : ∃ x, x = w' := ⟨w', rfl⟩; rw [PSx.out]; replace ct : Cnt 5 := Cnt.mk _; clear ck) | (have ck : Cnt 5 := ct; go_at_call 9; refine (neg_any _ _ by0 by1).mono ?_; rintro e w' ⟨rfl, rfl⟩; rw [PSy.out]; replace ct : Cnt 6 := Cnt.mk _; clear ck) | (have ck : Cnt 6 := ct; go_at_call 10; refine (parts_any _ _ bx0 bx1).mono ?_; rintro e w' ⟨rfl, rfl⟩; rw [PMx.out, PEx.out]; replace ct : Cnt 7 := Cnt.mk _; clear ck) | (have ck : Cnt 7 := ct; go_at_call 11; refine (rOf _ _ rx0 (by omega)).mono ?_; rintro e W1 ⟨v1, rfl, ht, hb1⟩; rw [VMx.out] at ht; obtain ⟨Bx, hBx⟩ : ∃ B, B = W0.heap.size + 2 := ⟨_, rfl⟩; have ht' : Own W1 Bx v1 _ := ht.base (by simp [hBx]); obtain ⟨gx, cx, rfl, lx0, lx1⟩ := ht'.at; have Tx : Hid (Sees W1 _ _) := ht'.sees; have hx1 : Hid (Below W0.heap.size W0 W1) := (Below.trans (by repeat (first | (refine Below.drew ?_) | (refine Below.alloc ?_ (by first | omega | (simp <;> omega)) _) | (refine Below.setCell ?_ (by first | omega | (simp <;> omega)) _) | exact Below.refl _ _)) (hb1.mono (by first | omega | (simp <;> omega)))); obtain ⟨hc1, hf1⟩ := bcell hb1; have hz1 : W0.heap.size < W1.heap.size ∧ W0.heap.size + 1 < W1.heap.size := (by have := hb1.size; simp at this; omega); obtain ⟨hz1, hz1'⟩ := hz1; clear hb1 ht ht'; replace ct : Cnt 8 := Cnt.mk _; clear ck) | (have ck : Cnt 8 := ct; go_at_call 10; refine (parts_any _ _ by0 by1).mono ?_; rintro e w' ⟨rfl, rfl⟩; rw [PMy.out, PEy.out]; replace ct : Cnt 9 := Cnt.mk _; clear ck))
  refine (rOf _ _ ry0 (by omega)).mono ?_
  rintro e W2 ⟨v2, rfl, ht, hb2⟩
  rw [VMy.out] at ht
  obtain ⟨By, hBy⟩ : ∃ B, B = W1.heap.size := ⟨_, rfl⟩
  have ht' : Own W2 By v2 _ := ht.base (by simp [hBy, World.setCell])
  obtain ⟨gy, cy, rfl, ly0, ly1⟩ := ht'.at
  have Ty : Hid (Sees W2 _ _) := ht'.sees
  replace Tx : Hid (Sees W2 (.slice (some ⟨gx, 0, none⟩) (bl mx).length cx) (bl mx)) := Sees.below ((Tx.out.set_ne (p := ⟨W0.heap.size, 1, none⟩) (by simp; omega) _).set_ne (p := ⟨W0.heap.size, 2, none⟩) (by simp; omega) _) hb2
  have hx2 : Hid (Below W0.heap.size W0 W2) := (Below.trans (by repeat (first | exact hx1.out | (refine Below.drew ?_) | (refine Below.alloc ?_ (by first | omega | (simp <;> omega)) _) | (refine Below.setCell ?_ (by first | omega | (simp <;> omega)) _) | exact Below.refl _ _)) (hb2.mono (by first | omega | (simp <;> omega))))
  obtain ⟨hc2, hf2⟩ := bcell hb2
  have hz2 : W0.heap.size < W2.heap.size ∧ W0.heap.size + 1 < W2.heap.size ∧ W1.heap.size ≤ W2.heap.size := (by have := hb2.size; simp [World.setCell] at this; omega)
  obtain ⟨hz2, hz2', hz2''⟩ := hz2
  clear hb2 ht ht'
  go_wp2_with fail
  have i1 : (W1.cell? ⟨W0.heap.size, 1, none⟩).isSome = true := by simp [go_sem, *]
  have i2 : (W1.cell? ⟨W0.heap.size, 2, none⟩).isSome = true := by simp [go_sem, *]
  have Kx : ((((W2.setCell ⟨W0.heap.size + 1, 1, none⟩ (.slice (some ⟨gy, 0, none⟩) (bl my).length cy)).setCell ⟨W0.heap.size + 1, 2, none⟩ (.int .i64 Ey)).alloc (.cells #[.bool (!sy), .slice (some ⟨gy, 0, none⟩) (bl my).length cy, .int .i64 Ey] 28)).cell? ⟨W0.heap.size, 0, none⟩ = some (.bool sx) ∧ (((W2.setCell ⟨W0.heap.size + 1, 1, none⟩ (.slice (some ⟨gy, 0, none⟩) (bl my).length cy)).setCell ⟨W0.heap.size + 1, 2, none⟩ (.int .i64 Ey)).alloc (.cells #[.bool (!sy), .slice (some ⟨gy, 0, none⟩) (bl my).length cy, .int .i64 Ey] 28)).cell? ⟨W0.heap.size, 1, none⟩ = some (.slice (some ⟨gx, 0, none⟩) (bl mx).length cx) ∧ (((W2.setCell ⟨W0.heap.size + 1, 1, none⟩ (.slice (some ⟨gy, 0, none⟩) (bl my).length cy)).setCell ⟨W0.heap.size + 1, 2, none⟩ (.int .i64 Ey)).alloc (.cells #[.bool (!sy), .slice (some ⟨gy, 0, none⟩) (bl my).length cy, .int .i64 Ey] 28)).cell? ⟨W0.heap.size, 2, none⟩ = some (.int .i64 Ex)) := by refine ⟨?_, ?_, ?_⟩ <;> simp [go_sem, cell_some, cell_if, *]
  have lx : W0.heap.size < (((W2.setCell ⟨W0.heap.size + 1, 1, none⟩ (.slice (some ⟨gy, 0, none⟩) (bl my).length cy)).setCell ⟨W0.heap.size + 1, 2, none⟩ (.int .i64 Ey)).alloc (.cells #[.bool (!sy), .slice (some ⟨gy, 0, none⟩) (bl my).length cy, .int .i64 Ey] 28)).heap.size := by simp [World.setCell] <;> omega
  have Ky : ((((W2.setCell ⟨W0.heap.size + 1, 1, none⟩ (.slice (some ⟨gy, 0, none⟩) (bl my).length cy)).setCell ⟨W0.heap.size + 1, 2, none⟩ (.int .i64 Ey)).alloc (.cells #[.bool (!sy), .slice (some ⟨gy, 0, none⟩) (bl my).length cy, .int .i64 Ey] 28)).cell? ⟨W0.heap.size + 1, 0, none⟩ = some (.bool sy) ∧ (((W2.setCell ⟨W0.heap.size + 1, 1, none⟩ (.slice (some ⟨gy, 0, none⟩) (bl my).length cy)).setCell ⟨W0.heap.size + 1, 2, none⟩ (.int .i64 Ey)).alloc (.cells #[.bool (!sy), .slice (some ⟨gy, 0, none⟩) (bl my).length cy, .int .i64 Ey] 28)).cell? ⟨W0.heap.size + 1, 1, none⟩ = some (.slice (some ⟨gy, 0, none⟩) (bl my).length cy) ∧ (((W2.setCell ⟨W0.heap.size + 1, 1, none⟩ (.slice (some ⟨gy, 0, none⟩) (bl my).length cy)).setCell ⟨W0.heap.size + 1, 2, none⟩ (.int .i64 Ey)).alloc (.cells #[.bool (!sy), .slice (some ⟨gy, 0, none⟩) (bl my).length cy, .int .i64 Ey] 28)).cell? ⟨W0.heap.size + 1, 2, none⟩ = some (.int .i64 Ey)) := by refine ⟨?_, ?_, ?_⟩ <;> simp [go_sem, cell_some, cell_if, *]
  have ly : W0.heap.size + 1 < (((W2.setCell ⟨W0.heap.size + 1, 1, none⟩ (.slice (some ⟨gy, 0, none⟩) (bl my).length cy)).setCell ⟨W0.heap.size + 1, 2, none⟩ (.int .i64 Ey)).alloc (.cells #[.bool (!sy), .slice (some ⟨gy, 0, none⟩) (bl my).length cy, .int .i64 Ey] 28)).heap.size := by simp [World.setCell] <;> omega
  have Kz : ((((W2.setCell ⟨W0.heap.size + 1, 1, none⟩ (.slice (some ⟨gy, 0, none⟩) (bl my).length cy)).setCell ⟨W0.heap.size + 1, 2, none⟩ (.int .i64 Ey)).alloc (.cells #[.bool (!sy), .slice (some ⟨gy, 0, none⟩) (bl my).length cy, .int .i64 Ey] 28)).cell? ⟨W2.heap.size, 0, none⟩ = some (.bool (!sy)) ∧ (((W2.setCell ⟨W0.heap.size + 1, 1, none⟩ (.slice (some ⟨gy, 0, none⟩) (bl my).length cy)).setCell ⟨W0.heap.size + 1, 2, none⟩ (.int .i64 Ey)).alloc (.cells #[.bool (!sy), .slice (some ⟨gy, 0, none⟩) (bl my).length cy, .int .i64 Ey] 28)).cell? ⟨W2.heap.size, 1, none⟩ = some (.slice (some ⟨gy, 0, none⟩) (bl my).length cy) ∧ (((W2.setCell ⟨W0.heap.size + 1, 1, none⟩ (.slice (some ⟨gy, 0, none⟩) (bl my).length cy)).setCell ⟨W0.heap.size + 1, 2, none⟩ (.int .i64 Ey)).alloc (.cells #[.bool (!sy), .slice (some ⟨gy, 0, none⟩) (bl my).length cy, .int .i64 Ey] 28)).cell? ⟨W2.heap.size, 2, none⟩ = some (.int .i64 Ey)) := by refine ⟨?_, ?_, ?_⟩ <;> simp [go_sem, cell_some, cell_if, *]
  have lz : W2.heap.size < (((W2.setCell ⟨W0.heap.size + 1, 1, none⟩ (.slice (some ⟨gy, 0, none⟩) (bl my).length cy)).setCell ⟨W0.heap.size + 1, 2, none⟩ (.int .i64 Ey)).alloc (.cells #[.bool (!sy), .slice (some ⟨gy, 0, none⟩) (bl my).length cy, .int .i64 Ey] 28)).heap.size := by simp [World.setCell] <;> omega
  have TX : Hid (Sees (((W2.setCell ⟨W0.heap.size + 1, 1, none⟩ (.slice (some ⟨gy, 0, none⟩) (bl my).length cy)).setCell ⟨W0.heap.size + 1, 2, none⟩ (.int .i64 Ey)).alloc (.cells #[.bool (!sy), .slice (some ⟨gy, 0, none⟩) (bl my).length cy, .int .i64 Ey] 28)) (.slice (some ⟨gx, 0, none⟩) (bl mx).length cx) (bl mx)) := ((Tx.out.set_ne (p := ⟨W0.heap.size + 1, 1, none⟩) (by simp; omega) _).set_ne (p := ⟨W0.heap.size + 1, 2, none⟩) (by simp; omega) _).alloc _
  have TY : Hid (Sees (((W2.setCell ⟨W0.heap.size + 1, 1, none⟩ (.slice (some ⟨gy, 0, none⟩) (bl my).length cy)).setCell ⟨W0.heap.size + 1, 2, none⟩ (.int .i64 Ey)).alloc (.cells #[.bool (!sy), .slice (some ⟨gy, 0, none⟩) (bl my).length cy, .int .i64 Ey] 28)) (.slice (some ⟨gy, 0, none⟩) (bl my).length cy) (bl my)) := ((Ty.out.set_ne (p := ⟨W0.heap.size + 1, 1, none⟩) (by simp; omega) _).set_ne (p := ⟨W0.heap.size + 1, 2, none⟩) (by simp; omega) _).alloc _
  have HBw : Hid (Below w.heap.size w (((W2.setCell ⟨W0.heap.size + 1, 1, none⟩ (.slice (some ⟨gy, 0, none⟩) (bl my).length cy)).setCell ⟨W0.heap.size + 1, 2, none⟩ (.int .i64 Ey)).alloc (.cells #[.bool (!sy), .slice (some ⟨gy, 0, none⟩) (bl my).length cy, .int .i64 Ey] 28))) := hx0.out.trans (Below.mono (B := W0.heap.size) (by repeat (first | exact hx2.out | (refine Below.drew ?_) | (refine Below.alloc ?_ (by first | omega | (simp <;> omega)) _) | (refine Below.setCell ?_ (by first | omega | (simp <;> omega)) _) | exact Below.refl _ _)) hx0.out.size)
  clear i1 i2 hc1 hf1 hc2 hf2 Tx Ty hx0 hx1 hx2 hz1 hz1' hz2 hz2' hz2'' lx0 lx1 ly0 ly1 hBx hBy
  generalize ((W2.setCell ⟨W0.heap.size + 1, 1, none⟩ (.slice (some ⟨gy, 0, none⟩) (bl my).length cy)).setCell ⟨W0.heap.size + 1, 2, none⟩ (.int .i64 Ey)).alloc (.cells #[.bool (!sy), .slice (some ⟨gy, 0, none⟩) (bl my).length cy, .int .i64 Ey] 28) = Wa at *
  generalize W2.heap.size = bz at *
  generalize W0.heap.size = bx at *
  obtain ⟨F, hF⟩ : ∃ F, Ex ≤ Ey ∧ F = Ex ∨ Ey < Ex ∧ F = Ey := by
    by_cases h : Ex ≤ Ey
    · exact ⟨Ex, .inl ⟨h, rfl⟩⟩
    · exact ⟨Ey, .inr ⟨by omega, rfl⟩⟩
  have F1 : F ≤ Ex := by omega
  have F2 : F ≤ Ey := by omega
  have F3 : -75 ≤ F := by omega
  have F4 : F ≤ 0 := by omega
  have lmx : mx < 2 ^ 53 := (bl_length_le _ _).1 lbx
  have lmy : my < 2 ^ 53 := (bl_length_le _ _).1 lby
  obtain ⟨P, hP⟩ : ∃ P, 2 ^ (Ex - F).toNat * mx = P := ⟨_, rfl⟩
  obtain ⟨Q, hQ⟩ : ∃ Q, 2 ^ (Ey - F).toNat * my = Q := ⟨_, rfl⟩
  have lP : P < 2 ^ 84 := by
    rw [← hP]
    have h1 : 2 ^ (Ex - F).toNat ≤ 2 ^ 31 := Nat.pow_le_pow_right (by decide) (by omega)
    have h2 : 2 ^ (Ex - F).toNat * mx ≤ 2 ^ 31 * mx := Nat.mul_le_mul_right _ h1
    omega
  have lQ : Q < 2 ^ 84 := by
    rw [← hQ]
    have h1 : 2 ^ (Ey - F).toNat ≤ 2 ^ 31 := Nat.pow_le_pow_right (by decide) (by omega)
    have h2 : 2 ^ (Ey - F).toNat * my ≤ 2 ^ 31 * my := Nat.mul_le_mul_right _ h1
    omega
  obtain ⟨Np, hNp⟩ : ∃ N, sumN sx sy P Q = N := ⟨_, rfl⟩
  obtain ⟨Mp, hMp⟩ : ∃ M, sumM sx sy P Q = M := ⟨_, rfl⟩
  obtain ⟨Nm, hNm⟩ : ∃ N, sumN sx (!sy) P Q = N := ⟨_, rfl⟩
  obtain ⟨Mm, hMm⟩ : ∃ M, sumM sx (!sy) P Q = M := ⟨_, rfl⟩
  have lMp : (bl Mp).length ≤ 90 := bl_len_le _ _ (by rw [← hMp]; unfold sumM; (repeat' split) <;> omega)
  have lMm : (bl Mm).length ≤ 90 := bl_len_le _ _ (by rw [← hMm]; unfold sumM; (repeat' split) <;> omega)
  have lMM : (bl (mx * my)).length ≤ 106 := bl_len_le _ _ (by
    have h1 : mx * my ≤ 2 ^ 53 * my := Nat.mul_le_mul_right _ (Nat.le_of_lt lmx)
    omega)
  have NP : Hid (sumN sx sy (2 ^ (Ex - F).toNat * val (bl mx)) (2 ^ (Ey - F).toNat * val (bl my)) = Np) := by show _ = _; rw [val_bl, val_bl, hP, hQ, hNp]
  have MP : Hid (sumM sx sy (2 ^ (Ex - F).toNat * val (bl mx)) (2 ^ (Ey - F).toNat * val (bl my)) = Mp) := by show _ = _; rw [val_bl, val_bl, hP, hQ, hMp]
  have NM : Hid (sumN sx (!sy) (2 ^ (Ex - F).toNat * val (bl mx)) (2 ^ (Ey - F).toNat * val (bl my)) = Nm) := by show _ = _; rw [val_bl, val_bl, hP, hQ, hNm]
  have MM : Hid (sumM sx (!sy) (2 ^ (Ex - F).toNat * val (bl mx)) (2 ^ (Ey - F).toNat * val (bl my)) = Mm) := by show _ = _; rw [val_bl, val_bl, hP, hQ, hMm]
  have MU : Hid (val (bl mx) * val (bl my) = mx * my) := by show _ = _; rw [val_bl, val_bl]
  have D1 : Hid (nv sx (val (bl mx)) Ex 17 = nv sx mx Ex 17) := by show _ = _; rw [val_bl]
  have D2 : Hid (nv Np (val (bl Mp)) F 17 = nv sx mx Ex 17 + nv sy my Ey 17) := by
    show _ = _
    rw [val_bl, ← hNp, ← hMp, ← hP, ← hQ]
    exact nv_sum sx sy mx my Ex Ey F 17 F1 F2 (by omega)
  have D3 : Hid (nv Nm (val (bl Mm)) F 17 = nv sx mx Ex 17 - nv sy my Ey 17) := by
    show _ = _
    rw [val_bl, ← hNm, ← hMm, ← hP, ← hQ, show nv sx mx Ex 17 - nv sy my Ey 17 = nv sx mx Ex 17 + nv (!sy) my Ey 17 by rw [nv_not]; omega]
    exact nv_sum sx (!sy) mx my Ex Ey F 17 F1 F2 (by omega)
  have D4 : Hid (nv (sx != sy) (val (bl (mx * my))) (Ex + Ey) (17 + 17) = nv sx mx Ex 17 * nv sy my Ey 17) := by
    show _ = _
    rw [val_bl]
    exact nv_mul sx sy mx my Ex Ey 17 17 (by omega) (by omega)
  clear hP hQ lP lQ hNp hMp hNm hMm lmx lmy
  have HBa : Hid (Below Wa.heap.size Wa Wa) := Below.refl _ _
  have hsz := HBa.out.size
  have ct : Cnt 1 := Cnt.mk _
  go_region_held3 (fun w' => (w'.cell? ⟨bx, 0, none⟩ = some (.bool sx) ∧ w'.cell? ⟨bx, 1, none⟩ = some (.slice (some ⟨gx, 0, none⟩) (bl mx).length cx) ∧ w'.cell? ⟨bx, 2, none⟩ = some (.int .i64 Ex)) ∧ (w'.cell? ⟨bx + 1, 0, none⟩ = some (.bool sy) ∧ w'.cell? ⟨bx + 1, 1, none⟩ = some (.slice (some ⟨gy, 0, none⟩) (bl my).length cy) ∧ w'.cell? ⟨bx + 1, 2, none⟩ = some (.int .i64 Ey)) ∧ (w'.cell? ⟨bz, 0, none⟩ = some (.bool (!sy)) ∧ w'.cell? ⟨bz, 1, none⟩ = some (.slice (some ⟨gy, 0, none⟩) (bl my).length cy) ∧ w'.cell? ⟨bz, 2, none⟩ = some (.int .i64 Ey))) ((refine nine_keep (Wa := Wa) ?_ lx ly lz Kx Ky Kz; repeat (first | exact HBa.out | (refine Below.drew ?_) | (refine Below.alloc ?_ (by first | omega | (simp <;> omega)) _) | (refine Below.setCell ?_ (by first | omega | (simp <;> omega)) _)))) (first | (have ck : Cnt 1 := ct; go_at_call 13; refine (lOf _ _ bx0 bx1).mono ?_; rintro e Wn ⟨v, rfl, ht, hb⟩; rw [VNx.out] at ht; obtain ⟨na, Aa, ka, ca, pa, rfl⟩ := ht.form; have hbt : Below Wa.heap.size Wa Wn := (Below.trans (by repeat (first | (refine Below.drew ?_) | (refine Below.alloc ?_ (by first | omega | (simp <;> omega)) _) | (refine Below.setCell ?_ (by first | omega | (simp <;> omega)) _) | exact Below.refl _ _)) (hb.mono (by first | omega | (simp <;> omega)))); have Ta : Hid (Tell Wn 0 _ _ _ _) := (ht.base (Nat.zero_le _)); clear ht; replace HBa : Hid (Below Wa.heap.size Wa Wn) := hbt; have hsz := HBa.out.size; replace ct : Cnt 2 := Cnt.mk _; clear hb hbt ck; obtain ⟨Wp, rfl⟩ : ∃ x, x = Wn := ⟨Wn, rfl⟩) | (have ck : Cnt 2 := ct; go_at_call 12; refine (lIs _ sx _ (bl mx) Ex 17 17 _ _ (Ta.out.below (by repeat (first | (refine Below.drew ?_) | (refine Below.alloc ?_ (by first | omega | (simp <;> omega)) _) | (refine Below.setCell ?_ (by first | omega | (simp <;> omega)) _) | exact Below.refl _ _))) (TX.out.below (by repeat (first | exact HBa.out | (refine Below.drew ?_) | (refine Below.alloc ?_ (by first | omega | (simp <;> omega)) _) | (refine Below.setCell ?_ (by first | omega | (simp <;> omega)) _) | exact Below.refl _ _))) (bl_bin _) (by omega) (by omega) (by omega) (by omega) (by omega) (by omega) D1.out).mono ?_; rintro e Wn ⟨rfl, hb⟩; have hbt : Below Wp.heap.size Wp Wn := (Below.trans (by repeat (first | (refine Below.drew ?_) | (refine Below.alloc ?_ (by first | omega | (simp <;> omega)) _) | (refine Below.setCell ?_ (by first | omega | (simp <;> omega)) _) | exact Below.refl _ _)) (hb.mono (by first | omega | (simp <;> omega)))); replace HBa : Hid (Below Wa.heap.size Wa Wn) := HBa.out.trans (hbt.mono HBa.out.size); have hsz := HBa.out.size; replace ct : Cnt 3 := Cnt.mk _; clear hb hbt ck; obtain ⟨Wp, rfl⟩ : ∃ x, x = Wn := ⟨Wn, rfl⟩) | (have ck : Cnt 3 := ct; go_at_call 13; refine (lOf _ _ bx0 bx1).mono ?_; rintro e Wn ⟨v, rfl, ht, hb⟩; rw [VNx.out] at ht; obtain ⟨nc, Ac, kc, cc, pc, rfl⟩ := ht.form; have hbt : Below Wp.heap.size Wp Wn := (Below.trans (by repeat (first | (refine Below.drew ?_) | (refine Below.alloc ?_ (by first | omega | (simp <;> omega)) _) | (refine Below.setCell ?_ (by first | omega | (simp <;> omega)) _) | exact Below.refl _ _)) (hb.mono (by first | omega | (simp <;> omega)))); have Tc : Hid (Tell Wn 0 _ _ _ _) := (ht.base (Nat.zero_le _)); clear ht; replace HBa : Hid (Below Wa.heap.size Wa Wn) := HBa.out.trans (hbt.mono HBa.out.size); have hsz := HBa.out.size; replace ct : Cnt 4 := Cnt.mk _; clear hb hbt ck; obtain ⟨Wp, rfl⟩ : ∃ x, x = Wn := ⟨Wn, rfl⟩) | (have ck : Cnt 4 := ct; go_at_call 13; refine (lOf _ _ by0 by1).mono ?_; rintro e Wn ⟨v, rfl, ht, hb⟩; rw [VNy.out] at ht; obtain ⟨nd, Ad, kd, cd, pd, rfl⟩ := ht.form; have hbt : Below Wp.heap.size Wp Wn := (Below.trans (by repeat (first | (refine Below.drew ?_) | (refine Below.alloc ?_ (by first | omega | (simp <;> omega)) _) | (refine Below.setCell ?_ (by first | omega | (simp <;> omega)) _) | exact Below.refl _ _)) (hb.mono (by first | omega | (simp <;> omega)))); replace Tc : Hid (Tell Wn _ _ _ _ _) := Tc.out.below hbt; have Td : Hid (Tell Wn 0 _ _ _ _) := (ht.base (Nat.zero_le _)); clear ht; replace HBa : Hid (Below Wa.heap.size Wa Wn) := HBa.out.trans (hbt.mono HBa.out.size); have hsz := HBa.out.size; replace ct : Cnt 5 := Cnt.mk _; clear hb hbt ck; obtain ⟨Wp, rfl⟩ : ∃ x, x = Wn := ⟨Wn, rfl⟩) | (have ck : Cnt 5 := ct; go_at_call 14; refine (dAdd _ _ _ 0 17 17 _ _ (Tc.out.below (by repeat (first | (refine Below.drew ?_) | (refine Below.alloc ?_ (by first | omega | (simp <;> omega)) _) | (refine Below.setCell ?_ (by first | omega | (simp <;> omega)) _) | exact Below.refl _ _))) (Td.out.below (by repeat (first | (refine Below.drew ?_) | (refine Below.alloc ?_ (by first | omega | (simp <;> omega)) _) | (refine Below.setCell ?_ (by first | omega | (simp <;> omega)) _) | exact Below.refl _ _))) (by omega) (by omega) (by omega)).mono ?_; rintro e Wn ⟨v, rfl, ht, hb⟩; obtain ⟨nf, Af, kf, cf, pf, rfl⟩ := ht.form; have hbt : Below Wp.heap.size Wp Wn := (Below.trans (by repeat (first | (refine Below.drew ?_) | (refine Below.alloc ?_ (by first | omega | (simp <;> omega)) _) | (refine Below.setCell ?_ (by first | omega | (simp <;> omega)) _) | exact Below.refl _ _)) (hb.mono (by first | omega | (simp <;> omega)))); have Tf : Hid (Tell Wn 0 _ _ _ _) := (ht.base (Nat.zero_le _)); clear ht; replace HBa : Hid (Below Wa.heap.size Wa Wn) := HBa.out.trans (hbt.mono HBa.out.size); have hsz := HBa.out.size; replace ct : Cnt 6 := Cnt.mk _; clear hb hbt ck; obtain ⟨Wp, rfl⟩ : ∃ x, x = Wn := ⟨Wn, rfl⟩) | (have ck : Cnt 6 := ct; go_at_call 15; refine (lAddN sx sy _ _ (bl mx) (bl my) Ex Ey F _ (TX.out.below (by repeat (first | exact HBa.out | (refine Below.drew ?_) | (refine Below.alloc ?_ (by first | omega | (simp <;> omega)) _) | (refine Below.setCell ?_ (by first | omega | (simp <;> omega)) _) | exact Below.refl _ _))) (TY.out.below (by repeat (first | exact HBa.out | (refine Below.drew ?_) | (refine Below.alloc ?_ (by first | omega | (simp <;> omega)) _) | (refine Below.setCell ?_ (by first | omega | (simp <;> omega)) _) | exact Below.refl _ _))) (bl_bin _) (bl_bin _) (by omega) (by omega) (by omega) (by omega) (by omega) (by omega) hF).mono ?_; rintro e Wn ⟨vs, rfl, ht, hb⟩; rw [NP.out]; rw [MP.out] at ht; have hbt : Below Wp.heap.size Wp Wn := (Below.trans (by repeat (first | (refine Below.drew ?_) | (refine Below.alloc ?_ (by first | omega | (simp <;> omega)) _) | (refine Below.setCell ?_ (by first | omega | (simp <;> omega)) _) | exact Below.refl _ _)) (hb.mono (by first | omega | (simp <;> omega)))); replace Tf : Hid (Tell Wn _ _ _ _ _) := Tf.out.below hbt; have Ts : Hid (Sees Wn _ _) := ht; clear ht; replace HBa : Hid (Below Wa.heap.size Wa Wn) := HBa.out.trans (hbt.mono HBa.out.size); have hsz := HBa.out.size; replace ct : Cnt 7 := Cnt.mk _; clear hb hbt ck; obtain ⟨Wp, rfl⟩ : ∃ x, x = Wn := ⟨Wn, rfl⟩) | (have ck : Cnt 7 := ct; go_at_call 12; refine (lIs _ Np _ (bl Mp) F 17 (17 + 1) _ _ (Tf.out.below (by repeat (first | (refine Below.drew ?_) | (refine Below.alloc ?_ (by first | omega | (simp <;> omega)) _) | (refine Below.setCell ?_ (by first | omega | (simp <;> omega)) _) | exact Below.refl _ _))) (Ts.out.below (by repeat (first | (refine Below.drew ?_) | (refine Below.alloc ?_ (by first | omega | (simp <;> omega)) _) | (refine Below.setCell ?_ (by first | omega | (simp <;> omega)) _) | exact Below.refl _ _))) (bl_bin _) (by omega) (by omega) (by omega) (by omega) (by omega) (by omega) D2.out).mono ?_; rintro e Wn ⟨rfl, hb⟩; have hbt : Below Wp.heap.size Wp Wn := (Below.trans (by repeat (first | (refine Below.drew ?_) | (refine Below.alloc ?_ (by first | omega | (simp <;> omega)) _) | (refine Below.setCell ?_ (by first | omega | (simp <;> omega)) _) | exact Below.refl _ _)) (hb.mono (by first | omega | (simp <;> omega)))); replace HBa : Hid (Below Wa.heap.size Wa Wn) := HBa.out.trans (hbt.mono HBa.out.size); have hsz := HBa.out.size; replace ct : Cnt 8 := Cnt.mk _; clear hb hbt ck; obtain ⟨Wp, rfl⟩ : ∃ x, x = Wn := ⟨Wn, rfl⟩) | (have ck : Cnt 8 := ct; go_at_call 13; refine (lOf _ _ bx0 bx1).mono ?_; rintro e Wn ⟨v, rfl, ht, hb⟩; rw [VNx.out] at ht; obtain ⟨ng, Ag, kg, cg, pg, rfl⟩ := ht.form; have hbt : Below Wp.heap.size Wp Wn := (Below.trans (by repeat (first | (refine Below.drew ?_) | (refine Below.alloc ?_ (by first | omega | (simp <;> omega)) _) | (refine Below.setCell ?_ (by first | omega | (simp <;> omega)) _) | exact Below.refl _ _)) (hb.mono (by first | omega | (simp <;> omega)))); have Tg : Hid (Tell Wn 0 _ _ _ _) := (ht.base (Nat.zero_le _)); clear ht; replace HBa : Hid (Below Wa.heap.size Wa Wn) := HBa.out.trans (hbt.mono HBa.out.size); have hsz := HBa.out.size; replace ct : Cnt 9 := Cnt.mk _; clear hb hbt ck; obtain ⟨Wp, rfl⟩ : ∃ x, x = Wn := ⟨Wn, rfl⟩) | (have ck : Cnt 9 := ct; go_at_call 13; refine (lOf _ _ by0 by1).mono ?_; rintro e Wn ⟨v, rfl, ht, hb⟩; rw [VNy.out] at ht; obtain ⟨nh, Ah, kh, ch, ph, rfl⟩ := ht.form; have hbt : Below Wp.heap.size Wp Wn := (Below.trans (by repeat (first | (refine Below.drew ?_) | (refine Below.alloc ?_ (by first | omega | (simp <;> omega)) _) | (refine Below.setCell ?_ (by first | omega | (simp <;> omega)) _) | exact Below.refl _ _)) (hb.mono (by first | omega | (simp <;> omega)))); replace Tg : Hid (Tell Wn _ _ _ _ _) := Tg.out.below hbt; have Th : Hid (Tell Wn 0 _ _ _ _) := (ht.base (Nat.zero_le _)); clear ht; replace HBa : Hid (Below Wa.heap.size Wa Wn) := HBa.out.trans (hbt.mono HBa.out.size); have hsz := HBa.out.size; replace ct : Cnt 10 := Cnt.mk _; clear hb hbt ck; obtain ⟨Wp, rfl⟩ : ∃ x, x = Wn := ⟨Wn, rfl⟩) | (have ck : Cnt 10 := ct; go_at_call 16; refine (dSub _ _ _ 0 17 17 _ _ (Tg.out.below (by repeat (first | (refine Below.drew ?_) | (refine Below.alloc ?_ (by first | omega | (simp <;> omega)) _) | (refine Below.setCell ?_ (by first | omega | (simp <;> omega)) _) | exact Below.refl _ _))) (Th.out.below (by repeat (first | (refine Below.drew ?_) | (refine Below.alloc ?_ (by first | omega | (simp <;> omega)) _) | (refine Below.setCell ?_ (by first | omega | (simp <;> omega)) _) | exact Below.refl _ _))) (by omega) (by omega) (by omega)).mono ?_; rintro e Wn ⟨v, rfl, ht, hb⟩; obtain ⟨ni, Ai, ki, ci, pi, rfl⟩ := ht.form; have hbt : Below Wp.heap.size Wp Wn := (Below.trans (by repeat (first | (refine Below.drew ?_) | (refine Below.alloc ?_ (by first | omega | (simp <;> omega)) _) | (refine Below.setCell ?_ (by first | omega | (simp <;> omega)) _) | exact Below.refl _ _)) (hb.mono (by first | omega | (simp <;> omega)))); have Ti : Hid (Tell Wn 0 _ _ _ _) := (ht.base (Nat.zero_le _)); clear ht; replace HBa : Hid (Below Wa.heap.size Wa Wn) := HBa.out.trans (hbt.mono HBa.out.size); have hsz := HBa.out.size; replace ct : Cnt 11 := Cnt.mk _; clear hb hbt ck; obtain ⟨Wp, rfl⟩ : ∃ x, x = Wn := ⟨Wn, rfl⟩) | (have ck : Cnt 11 := ct; go_at_call 15; refine (lAddN sx (!sy) _ _ (bl mx) (bl my) Ex Ey F _ (TX.out.below (by repeat (first | exact HBa.out | (refine Below.drew ?_) | (refine Below.alloc ?_ (by first | omega | (simp <;> omega)) _) | (refine Below.setCell ?_ (by first | omega | (simp <;> omega)) _) | exact Below.refl _ _))) (TY.out.below (by repeat (first | exact HBa.out | (refine Below.drew ?_) | (refine Below.alloc ?_ (by first | omega | (simp <;> omega)) _) | (refine Below.setCell ?_ (by first | omega | (simp <;> omega)) _) | exact Below.refl _ _))) (bl_bin _) (bl_bin _) (by omega) (by omega) (by omega) (by omega) (by omega) (by omega) hF).mono ?_; rintro e Wn ⟨vt, rfl, ht, hb⟩; rw [NM.out]; rw [MM.out] at ht; have hbt : Below Wp.heap.size Wp Wn := (Below.trans (by repeat (first | (refine Below.drew ?_) | (refine Below.alloc ?_ (by first | omega | (simp <;> omega)) _) | (refine Below.setCell ?_ (by first | omega | (simp <;> omega)) _) | exact Below.refl _ _)) (hb.mono (by first | omega | (simp <;> omega)))); replace Ti : Hid (Tell Wn _ _ _ _ _) := Ti.out.below hbt; have Tt : Hid (Sees Wn _ _) := ht; clear ht; replace HBa : Hid (Below Wa.heap.size Wa Wn) := HBa.out.trans (hbt.mono HBa.out.size); have hsz := HBa.out.size; replace ct : Cnt 12 := Cnt.mk _; clear hb hbt ck; obtain ⟨Wp, rfl⟩ : ∃ x, x = Wn := ⟨Wn, rfl⟩) | (have ck : Cnt 12 := ct; go_at_call 12; refine (lIs _ Nm _ (bl Mm) F 17 (17 + 1) _ _ (Ti.out.below (by repeat (first | (refine Below.drew ?_) | (refine Below.alloc ?_ (by first | omega | (simp <;> omega)) _) | (refine Below.setCell ?_ (by first | omega | (simp <;> omega)) _) | exact Below.refl _ _))) (Tt.out.below (by repeat (first | (refine Below.drew ?_) | (refine Below.alloc ?_ (by first | omega | (simp <;> omega)) _) | (refine Below.setCell ?_ (by first | omega | (simp <;> omega)) _) | exact Below.refl _ _))) (bl_bin _) (by omega) (by omega) (by omega) (by omega) (by omega) (by omega) D3.out).mono ?_; rintro e Wn ⟨rfl, hb⟩; have hbt : Below Wp.heap.size Wp Wn := (Below.trans (by repeat (first | (refine Below.drew ?_) | (refine Below.alloc ?_ (by first | omega | (simp <;> omega)) _) | (refine Below.setCell ?_ (by first | omega | (simp <;> omega)) _) | exact Below.refl _ _)) (hb.mono (by first | omega | (simp <;> omega)))); replace HBa : Hid (Below Wa.heap.size Wa Wn) := HBa.out.trans (hbt.mono HBa.out.size); have hsz := HBa.out.size; replace ct : Cnt 13 := Cnt.mk _; clear hb hbt ck; obtain ⟨Wp, rfl⟩ : ∃ x, x = Wn := ⟨Wn, rfl⟩) | (have ck : Cnt 13 := ct; go_at_call 13; refine (lOf _ _ bx0 bx1).mono ?_; rintro e Wn ⟨v, rfl, ht, hb⟩; rw [VNx.out] at ht; obtain ⟨nj, Aj, kj, cj, pj, rfl⟩ := ht.form; have hbt : Below Wp.heap.size Wp Wn := (Below.trans (by repeat (first | (refine Below.drew ?_) | (refine Below.alloc ?_ (by first | omega | (simp <;> omega)) _) | (refine Below.setCell ?_ (by first | omega | (simp <;> omega)) _) | exact Below.refl _ _)) (hb.mono (by first | omega | (simp <;> omega)))); have Tj : Hid (Tell Wn 0 _ _ _ _) := (ht.base (Nat.zero_le _)); clear ht; replace HBa : Hid (Below Wa.heap.size Wa Wn) := HBa.out.trans (hbt.mono HBa.out.size); have hsz := HBa.out.size; replace ct : Cnt 14 := Cnt.mk _; clear hb hbt ck; obtain ⟨Wp, rfl⟩ : ∃ x, x = Wn := ⟨Wn, rfl⟩) | (have ck : Cnt 14 := ct; go_at_call 13; refine (lOf _ _ by0 by1).mono ?_; rintro e Wn ⟨v, rfl, ht, hb⟩; rw [VNy.out] at ht; obtain ⟨nl, Al, kl, cl, pl, rfl⟩ := ht.form; have hbt : Below Wp.heap.size Wp Wn := (Below.trans (by repeat (first | (refine Below.drew ?_) | (refine Below.alloc ?_ (by first | omega | (simp <;> omega)) _) | (refine Below.setCell ?_ (by first | omega | (simp <;> omega)) _) | exact Below.refl _ _)) (hb.mono (by first | omega | (simp <;> omega)))); replace Tj : Hid (Tell Wn _ _ _ _ _) := Tj.out.below hbt; have Tl : Hid (Tell Wn 0 _ _ _ _) := (ht.base (Nat.zero_le _)); clear ht; replace HBa : Hid (Below Wa.heap.size Wa Wn) := HBa.out.trans (hbt.mono HBa.out.size); have hsz := HBa.out.size; replace ct : Cnt 15 := Cnt.mk _; clear hb hbt ck; obtain ⟨Wp, rfl⟩ : ∃ x, x = Wn := ⟨Wn, rfl⟩) | (have ck : Cnt 15 := ct; go_at_call 17; refine (dMul _ _ _ 0 17 17 17 17 _ _ (Tj.out.below (by repeat (first | (refine Below.drew ?_) | (refine Below.alloc ?_ (by first | omega | (simp <;> omega)) _) | (refine Below.setCell ?_ (by first | omega | (simp <;> omega)) _) | exact Below.refl _ _))) (Tl.out.below (by repeat (first | (refine Below.drew ?_) | (refine Below.alloc ?_ (by first | omega | (simp <;> omega)) _) | (refine Below.setCell ?_ (by first | omega | (simp <;> omega)) _) | exact Below.refl _ _))) (by omega) (by omega) (by omega) (by omega) (by omega) (by omega)).mono ?_; rintro e Wn ⟨v, rfl, ht, hb⟩; obtain ⟨nm, Am, km, cm, pm, rfl⟩ := ht.form; have hbt : Below Wp.heap.size Wp Wn := (Below.trans (by repeat (first | (refine Below.drew ?_) | (refine Below.alloc ?_ (by first | omega | (simp <;> omega)) _) | (refine Below.setCell ?_ (by first | omega | (simp <;> omega)) _) | exact Below.refl _ _)) (hb.mono (by first | omega | (simp <;> omega)))); have Tm : Hid (Tell Wn 0 _ _ _ _) := (ht.base (Nat.zero_le _)); clear ht; replace HBa : Hid (Below Wa.heap.size Wa Wn) := HBa.out.trans (hbt.mono HBa.out.size); have hsz := HBa.out.size; replace ct : Cnt 16 := Cnt.mk _; clear hb hbt ck; obtain ⟨Wp, rfl⟩ : ∃ x, x = Wn := ⟨Wn, rfl⟩) | (have ck : Cnt 16 := ct; go_at_call 18; refine (lMulN sx sy _ _ (bl mx) (bl my) Ex Ey _ (TX.out.below (by repeat (first | exact HBa.out | (refine Below.drew ?_) | (refine Below.alloc ?_ (by first | omega | (simp <;> omega)) _) | (refine Below.setCell ?_ (by first | omega | (simp <;> omega)) _) | exact Below.refl _ _))) (TY.out.below (by repeat (first | exact HBa.out | (refine Below.drew ?_) | (refine Below.alloc ?_ (by first | omega | (simp <;> omega)) _) | (refine Below.setCell ?_ (by first | omega | (simp <;> omega)) _) | exact Below.refl _ _))) (bl_bin _) (bl_bin _) (by omega) (by omega) (by omega) (by omega) (by omega) (by omega)).mono ?_; rintro e Wn ⟨vu, rfl, ht, hb⟩; rw [MU.out] at ht; have hbt : Below Wp.heap.size Wp Wn := (Below.trans (by repeat (first | (refine Below.drew ?_) | (refine Below.alloc ?_ (by first | omega | (simp <;> omega)) _) | (refine Below.setCell ?_ (by first | omega | (simp <;> omega)) _) | exact Below.refl _ _)) (hb.mono (by first | omega | (simp <;> omega)))); replace Tm : Hid (Tell Wn _ _ _ _ _) := Tm.out.below hbt; have Tu : Hid (Sees Wn _ _) := ht; clear ht; replace HBa : Hid (Below Wa.heap.size Wa Wn) := HBa.out.trans (hbt.mono HBa.out.size); have hsz := HBa.out.size; replace ct : Cnt 17 := Cnt.mk _; clear hb hbt ck; obtain ⟨Wp, rfl⟩ : ∃ x, x = Wn := ⟨Wn, rfl⟩) | (have ck : Cnt 17 := ct; go_at_call 12; refine (lIs _ (sx != sy) _ (bl (mx * my)) (Ex + Ey) (17 + 17) (17 + 17) _ _ (Tm.out.below (by repeat (first | (refine Below.drew ?_) | (refine Below.alloc ?_ (by first | omega | (simp <;> omega)) _) | (refine Below.setCell ?_ (by first | omega | (simp <;> omega)) _) | exact Below.refl _ _))) (Tu.out.below (by repeat (first | (refine Below.drew ?_) | (refine Below.alloc ?_ (by first | omega | (simp <;> omega)) _) | (refine Below.setCell ?_ (by first | omega | (simp <;> omega)) _) | exact Below.refl _ _))) (bl_bin _) (by omega) (by omega) (by omega) (by omega) (by omega) (by omega) D4.out).mono ?_; rintro e Wn ⟨rfl, hb⟩; have hbt : Below Wp.heap.size Wp Wn := (Below.trans (by repeat (first | (refine Below.drew ?_) | (refine Below.alloc ?_ (by first | omega | (simp <;> omega)) _) | (refine Below.setCell ?_ (by first | omega | (simp <;> omega)) _) | exact Below.refl _ _)) (hb.mono (by first | omega | (simp <;> omega)))); replace HBa : Hid (Below Wa.heap.size Wa Wn) := HBa.out.trans (hbt.mono HBa.out.size); have hsz := HBa.out.size; replace ct : Cnt 18 := Cnt.mk _; clear hb hbt ck; obtain ⟨Wp, rfl⟩ : ∃ x, x = Wn := ⟨Wn, rfl⟩))
  go_wp2
  go_ret
  exact ⟨rfl, HBw.out.trans (HBa.out.mono HBw.out.size)⟩

/-! ### THE ROW's STEP -/
set_option maxRecDepth 100000 in
theorem lifted (os : Os) (started : os.Started) (H : Type) (enc : TypeId × Value → H) :
    ReturnsInHanded {} Try.checked os 3 .any (Rows.dyadSumsSpec.pre6 enc Try.prog Try.f3 Rows.dyadSumsRow.domain false) (Rows.dyadSumsSpec.post enc Try.prog Try.f3 false true false false) := by
  refine returnsInHanded_of_change (C := Try.checked) own started (by kernel_rfl) Try.func3
    (ChangeSpec.witness6 (enc := enc) (C := Try.checked) false ⟨#[], #[.int .u64 0, .int .u64 0], []⟩ 8 (by kernel_rfl) (by kernel_rfl) (by kernel_rfl) (by kernel_rfl)) ?_
  intro W base args ds gs before hval0 hW hcnd _
  have hval : ∀ (j : Nat) t v, Try.f3.params[j]? = some t → args[j]? = some v → Value.okWide Try.prog W .any base t v := hval0
  have hW' := hW
  obtain ⟨p, q, hA0, hV, rfl, hfz, hnd⟩ := hW
  have hA : DataW.TrodAll enc Try.prog W 0 (fun _ => true) true Try.f3.params.toList args.toList ds p := hA0
  rw [Try.params3] at hA hval
  obtain ⟨v0, vs0, d0, ds0, p0, q0, hargs, rfl, rfl, h0, r0⟩ := trodAll_cons hA
  obtain ⟨v1, vs1, d1, ds1, p1, q1, rfl, rfl, rfl, h1, r1⟩ := trodAll_cons r0
  obtain ⟨rfl, rfl, rfl⟩ := trodAll_nil r1
  obtain rfl : args = #[v0, v1] := by cases args; simp_all
  obtain ⟨rfl, rfl⟩ := trodVars_none hV
  obtain ⟨a0, rfl, rfl, rfl, w0⟩ := open_int Try.underlying22 (hval 0 22 v0 rfl rfl) h0
  obtain ⟨a1, rfl, rfl, rfl, w1⟩ := open_int Try.underlying22 (hval 1 22 v1 rfl rfl) h1
  clear hA0 hval0
  refine (walk a0 a1 W w0 w1).mono fun e W' ⟨he, bel⟩ => ?_
  subst he
  exact ⟨_, rfl, _, _, _, [], _, [], hW', trodAll_mk1 (shut_bool Try.underlying4 _), (trodAll_cons_mk (shut_int Try.underlying22 w0) (trodAll_cons_mk (shut_int Try.underlying22 w1) trodAll_mk0)), rfl, bel.frame _, fun h => by cases h⟩

theorem over : Rows.dyadSumsRow.holds Try.pinned (OpenSpec.ofChange Rows.dyadSumsSpec) :=
  OpenClaim.holds_of_wide 3 Try.f3 rfl rfl rfl rfl rfl rfl rfl ⟨rfl, rfl, rfl, rfl, rfl⟩ rfl rfl rfl rfl rfl (by kernel_rfl) Try.func3 (by kernel_rfl)
    (of_decide_eq_true (by kernel_rfl)) (by unfold Func.isWrapper; first | (rw [if_pos (by decide +kernel)]; kernel_rfl) | (rw [if_neg (by decide +kernel)]; exact ⟨rfl, rfl⟩))
    (fun os started H enc _ => lifted os started H enc)

/-- THE STATEMENT -/
theorem proved : Rows.DyadSumsSaid :=
  over
#print axioms proved
end Go.Proofs.Ytgpgmnmifhkmbaa.dyadSums
