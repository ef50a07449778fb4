/-
  The law WideRoots returns true at every input, and leaves its arguments as they were. No conditions.
-/
import Derived.Test.YtaplnhnimplkdaaRows
import Derived.WalkKit
import Derived.ProofKit
import Derived.OpenShut
import Derived.Deep.RegionHeld3
import Derived.Deep.RegionWith
import Derived.Test.YtaplnhnimplkdaaWideL
import Derived.Lib.SmallJoins
import Derived.Below
namespace Go.Proofs.Ytaplnhnimplkdaa.wideRoots
open Go.ChangeShapes Go.WideShapes Go.ChangeAt Go.RowKit
open Go.Joins (open_agg2 shut_agg2)
set_option linter.unusedVariables false

theorem own : ownKnob Try.prog.godebug = none := by kernel_rfl
theorem cells39 : Try.prog.cellsOf 39 = 2 := by kernel_rfl

theorem root_lt (A r : Nat) (h : A < 2 ^ 128) (g : r * r ≤ A) : r * r < 2 ^ 128 := by omega
theorem cmp_le (m n : Nat) (h : m ≤ n) : decide (cmpI m n ≤ 0) = true := by
  rw [decide_eq_true_eq]; unfold cmpI; repeat' split
  all_goals omega
theorem cmp_gt (m n : Nat) (h : n < m) : decide (0 < cmpI m n) = true := by
  rw [decide_eq_true_eq]; unfold cmpI; rw [if_neg (by omega), if_neg (by omega)]; omega
theorem root_uniq (r a : Nat) (h1 : r * r ≤ a * a) (h2 : a * a < (r + 1) * (r + 1)) : r = a := by
  have u1 : r ≤ a := by
    rcases Nat.lt_or_ge a r with h | h
    · have := Nat.mul_lt_mul'' h h; omega
    · exact h
  have u2 : a ≤ r := by
    rcases Nat.lt_or_ge r a with h | h
    · have := Nat.mul_le_mul (show r + 1 ≤ a by omega) (show r + 1 ≤ a by omega); omega
    · exact h
  omega
--OPT set_option linter.unusedSimpArgs false in
--OPT set_option maxHeartbeats 4000000 in
set_option linter.unusedSimpArgs false in
set_option maxHeartbeats 4000000 in
theorem walk (a0h a0l : Int) (a1 : Int) (a2 : Bool) (w : World) (w0h : (Lit.int .u64 a0h).wf = true) (w0l : (Lit.int .u64 a0l).wf = true) (w1 : (Lit.int .u64 a1).wf = true) :
    Calls Try.prog 13 #[.agg #[.int .u64 a0h, .int .u64 a0l], .int .u64 a1, .bool a2] w fun e w' => e = .returned (.bool true) ∧ Below w.heap.size w w' := by
  obtain ⟨h0, h1⟩ := bounds_u64 w0h
  obtain ⟨g0, g1⟩ := bounds_u64 w0l
  obtain ⟨n0, n1⟩ := bounds_u64 w1
  have h1' : a0h < 18446744073709551616 := by omega
  have g1' : a0l < 18446744073709551616 := by omega
  have n1' : a1 < 18446744073709551616 := by omega
  cases a2
  · go_enter Try.func13, Try.ntmps13
    go_wp2_with fail
    refine (rHead2 _).mono ?_
    rintro e w2 ⟨rfl, hb2⟩
    have f0 := hb2.cell (p := ⟨w.heap.size, 0, none⟩) (by simp)
    have f1 := hb2.cell (p := ⟨w.heap.size, 1, none⟩) (by simp)
    have f2 := hb2.frozen (p := ⟨w.heap.size, 0, none⟩) (by simp)
    have f3 := hb2.frozen (p := ⟨w.heap.size, 1, none⟩) (by simp)
    simp [go_sem] at f0 f1 f2 f3
    have hz2 : w.heap.size < w2.heap.size := by have := hb2.size; simp at this; omega
    have hx2 : Below w.heap.size w w2 := ((Below.refl _ _).alloc (Nat.le_refl _) _).trans (hb2.mono (by simp))
    clear hb2
    go_wp2_with fail
    refine (wSqrt _ _ _ h0 h1' g0 g1').mono ?_
    rintro e w4 ⟨r, rfl, r0, r1, r2, r3, hb4⟩
    have c0 := hb4.cell (p := ⟨w.heap.size, 0, none⟩) (by first | omega | (simp; omega))
    have c1 := hb4.cell (p := ⟨w.heap.size, 1, none⟩) (by first | omega | (simp; omega))
    simp [go_sem, f0, f1] at c0 c1
    have hz4 : w.heap.size < w4.heap.size := by have := hb4.size; (try simp at this); omega
    have hx4 : Below w.heap.size w w4 := hx2.trans (hb4.mono (by first | omega | (simp; omega)))
    clear hb4 f0 f1 f2 f3 hz2
    have hA := wid_lt a0h a0l h0 h1' g0 g1'
    have B0 := h0
    have B1 := h1'
    have B2 := g0
    have B3 := g1'
    obtain ⟨H2, L2, e0, e1, e2, e3, e4⟩ := wid_ex (r.toNat * r.toNat) (root_lt _ _ hA r2)
    have E4 : Hid (_ = _) := e4
    clear e4
    have hc1 : cmpI (r.toNat * r.toNat) (wid a0h a0l) ≤ 0 := of_decide_eq_true (cmp_le _ _ r2)
    have hc2 : 0 < cmpI ((r.toNat + 1) * (r.toNat + 1)) (wid a0h a0l) := of_decide_eq_true (cmp_gt _ _ r3)
    have hl5 : (bl r.toNat).length ≤ 64 := (bl_length_le _ 64).2 (by omega)
    have hl6 : (bl (r.toNat + 1)).length ≤ 65 := (bl_length_le _ 65).2 (by omega)
    have hl7 : (bl (r.toNat * r.toNat)).length ≤ 128 := (bl_length_le _ 128).2 (root_lt _ _ hA r2)
    have hl10 : (bl ((r.toNat + 1) * (r.toNat + 1))).length ≤ 130 := by
      refine (bl_length_le _ 130).2 ?_
      have : (r.toNat + 1) * (r.toNat + 1) ≤ 18446744073709551616 * 18446744073709551616 := Nat.mul_le_mul (by omega) (by omega)
      omega
    have hl8 : (bl (wid a0h a0l)).length ≤ 128 := (bl_length_le _ 128).2 hA
    by_cases p1 : H2 = a0h
    · by_cases p2 : L2 = a0l
      · subst p1 p2
        have D : decide (r.toNat * r.toNat = wid H2 L2) = true := by rw [decide_eq_true_eq, E4.out]
        rw [D]
        clear D
        go_wp2_with fail
        refine (rOf _ _ r0 r1).mono ?_
        rintro e w5 ⟨v5, rfl, own5, hb5⟩
        have c0 := cell_later hb5 c0
        have c1 := cell_later hb5 c1
        have hx5 : Below w.heap.size w w5 := hx4.trans (hb5.mono (by omega))
        have hz5 : w.heap.size < w5.heap.size := by have := hb5.size; omega
        clear hb5
        go_wp2_with fail
        refine (rAdd _ _ _ _ _ (own5.sees.alloc _) (Own.one w5 w5.heap.size 1 (Nat.le_refl _)).sees (bl_bin _) (Bin.mk (Or.inr rfl) Bin.nil) (by omega) (by simp)).mono ?_
        rintro e w6 ⟨v6, rfl, own6, hb6⟩
        rw [val_bl, show val [1] = 1 by decide] at own6
        have hy6 : Below w5.heap.size w5 w6 := ((Below.refl _ _).alloc (Nat.le_refl _) _).trans (hb6.mono (by simp))
        have c0 := cell_later hy6 c0
        have c1 := cell_later hy6 c1
        have hx6 : Below w.heap.size w w6 := hx5.trans (hy6.mono (by omega))
        have hz6 : w.heap.size ≤ w6.heap.size := by have := hy6.size; omega
        have own5 := (own5.below hy6).below ((Below.refl w6.heap.size w6).drew)
        have own6 := own6.below ((Below.refl w6.heap.size w6).drew)
        have hy := (Below.refl w6.heap.size w6).drew
        clear hb6 hy6
        go_wp2_with fail
        have c0 : w6.drew.cell? ⟨w.heap.size, 0, none⟩ = some (.int .u64 H2) := c0
        have c1 : w6.drew.cell? ⟨w.heap.size, 1, none⟩ = some (.int .u64 L2) := c1
        refine wp_region_noPanic ?_
        refine wp_region_held_drew (S := (fun w' => w'.cell? ⟨w.heap.size, 0, none⟩ = some (.int .u64 H2) ∧ w'.cell? ⟨w.heap.size, 1, none⟩ = some (.int .u64 L2))) (by kernel_rfl) ⟨c0, c1⟩ (fun hHeld => ?_)
        refine wpAnyH_take (i := 0) (oi := ({ dst := some 27, op := Op.move (Operand.tmp 9), type := 40, pos := _, after := _, guard := none } : Oper)) (v := ?_) rfl (by kernel_rfl) (by kernel_rfl) (by kernel_rfl) (fun _ _ _ h => h) (Or.inl ⟨by rfl, ?_⟩) (by assumption) ?_
        rotate_left
        · intro w' hSw; (try dsimp only at hSw); go_simp <;> (try with_reducible rfl)
        (try simp only [Act.put, List.setIfInBounds_toArray, List.set_cons_zero, List.set_cons_succ])
        refine wpAnyH_take (i := 1) (oi := ({ dst := some 28, op := Op.move (Operand.tmp 9), type := 40, pos := _, after := _, guard := none } : Oper)) (v := ?_) rfl (by kernel_rfl) (by kernel_rfl) (by kernel_rfl) (fun _ _ _ h => h) (Or.inl ⟨by rfl, ?_⟩) (by assumption) ?_
        rotate_left
        · intro w' hSw; (try dsimp only at hSw); go_simp <;> (try with_reducible rfl)
        (try simp only [Act.put, List.setIfInBounds_toArray, List.set_cons_zero, List.set_cons_succ])
        refine wpAnyH_take (i := 3) (oi := ({ dst := some 30, op := Op.load 39 (Operand.tmp 3), type := 39, pos := _, after := _, guard := none } : Oper)) (v := ?_) rfl (by kernel_rfl) (by kernel_rfl) (by kernel_rfl) (fun _ _ _ h => h) (Or.inl ⟨by rfl, ?_⟩) (by assumption) ?_
        rotate_left
        · intro w' hSw; (try dsimp only at hSw); go_simp <;> (try with_reducible rfl)
        (try simp only [Act.put, List.setIfInBounds_toArray, List.set_cons_zero, List.set_cons_succ])
        refine wpAnyH_ready (rs := [2]) (by kernel_rfl) (by simp) ?_
        refine AllReadyH.cons (o := ({ dst := some 29, op := Op.call { callee := Callee.value (Operand.func 46), args := #[Operand.tmp 27, Operand.tmp 28], argTypes := #[40, 40] }, type := 40, pos := _, after := _, guard := none } : Oper)) rfl (fun K hK => ?_) AllReadyH.nil
        go_simp
        refine (rMul _ _ _ _ _ own5.sees own5.sees (bl_bin _) (bl_bin _) (by omega) (by omega)).mono ?_
        rintro e w7 ⟨v7, rfl, own7, hb⟩
        rw [val_bl] at own7
        have c0 := cell_later hb c0
        have c1 := cell_later hb c1
        have own5 := own5.below hb
        have own6 := own6.below hb
        have hy := hy.trans (hb.mono hy.size)
        clear hb
        (try go_wp2_with fail)
        refine hK.out _ _ ?_ (fun hHeld => ?_)
        · (try dsimp only); exact ⟨c0, c1⟩
        clear hK K
        (try simp only [Act.put, List.setIfInBounds_toArray, List.set_cons_zero, List.set_cons_succ])
        refine wpAnyH_ready (rs := [4]) (by kernel_rfl) (by simp) ?_
        refine AllReadyH.cons (o := ({ dst := some 31, op := Op.call { callee := Callee.value (Operand.func 34), args := #[Operand.tmp 30], argTypes := #[39] }, type := 40, pos := _, after := _, guard := none } : Oper)) rfl (fun K hK => ?_) AllReadyH.nil
        go_simp
        refine (rList _ _ _ B0 B1 B2 B3).mono ?_
        rintro e w8 ⟨v8, rfl, own8, hb⟩
        have own7 := own7.below hb
        have c0 := cell_later hb c0
        have c1 := cell_later hb c1
        have own5 := own5.below hb
        have own6 := own6.below hb
        have hy := hy.trans (hb.mono hy.size)
        clear hb
        (try go_wp2_with fail)
        refine hK.out _ _ ?_ (fun hHeld => ?_)
        · (try dsimp only); exact ⟨c0, c1⟩
        clear hK K
        (try simp only [Act.put, List.setIfInBounds_toArray, List.set_cons_zero, List.set_cons_succ])
        refine wpAnyH_ready (rs := [5]) (by kernel_rfl) (by simp) ?_
        refine AllReadyH.cons (o := ({ dst := some 32, op := Op.call { callee := Callee.value (Operand.func 41), args := #[Operand.tmp 29, Operand.tmp 31], argTypes := #[40, 40] }, type := 3, pos := _, after := _, guard := none } : Oper)) rfl (fun K hK => ?_) AllReadyH.nil
        go_simp
        refine (rCmp _ _ _ _ _ own7.sees own8.sees (bl_bin _) (bl_bin _) (by omega) (by omega)).mono ?_
        rintro e w9 ⟨rfl, hb⟩
        rw [val_bl, val_bl]
        have c0 := cell_later hb c0
        have c1 := cell_later hb c1
        have own5 := own5.below hb
        have own6 := own6.below hb
        have hy := hy.trans (hb.mono hy.size)
        clear hb
        (try go_wp2_with fail)
        refine hK.out _ _ ?_ (fun hHeld => ?_)
        · (try dsimp only); exact ⟨c0, c1⟩
        clear hK K
        (try simp only [Act.put, List.setIfInBounds_toArray, List.set_cons_zero, List.set_cons_succ])
        refine wpAnyH_take (i := 6) (oi := ({ dst := some 33, op := Op.binOp BinOp.leq 3 (Operand.tmp 32) (Operand.const (Value.int IntKind.i64 0)) 3, type := 4, pos := _, after := _, guard := none } : Oper)) (v := ?_) rfl (by kernel_rfl) (by kernel_rfl) (by kernel_rfl) (fun _ _ _ h => h) (Or.inl ⟨by rfl, ?_⟩) (by assumption) ?_
        rotate_left
        · intro w' hSw; (try dsimp only at hSw); go_simp <;> (try with_reducible rfl)
        (try simp only [Act.put, List.setIfInBounds_toArray, List.set_cons_zero, List.set_cons_succ])
        refine wpAnyH_take (i := 7) (oi := ({ dst := some 34, op := Op.move (Operand.tmp 33), type := 4, pos := _, after := _, guard := none } : Oper)) (v := ?_) rfl (by kernel_rfl) (by kernel_rfl) (by kernel_rfl) (fun _ _ _ h => h) (Or.inl ⟨by rfl, ?_⟩) (by assumption) ?_
        rotate_left
        · intro w' hSw; (try dsimp only at hSw); go_simp <;> (try with_reducible rfl)
        (try simp only [Act.put, List.setIfInBounds_toArray, List.set_cons_zero, List.set_cons_succ])
        refine wpAnyH_take (i := 8) (oi := ({ dst := some 35, op := Op.move (Operand.tmp 10), type := 40, pos := _, after := _, guard := some (7, true) } : Oper)) (v := ?_) rfl (by kernel_rfl) (by kernel_rfl) (by kernel_rfl) (fun _ _ _ h => h) (Or.inl ⟨by rfl, ?_⟩) (by assumption) ?_
        rotate_left
        · intro w' hSw; (try dsimp only at hSw); go_simp <;> (try with_reducible rfl)
        (try simp only [Act.put, List.setIfInBounds_toArray, List.set_cons_zero, List.set_cons_succ])
        refine wpAnyH_take (i := 9) (oi := ({ dst := some 36, op := Op.move (Operand.tmp 10), type := 40, pos := _, after := _, guard := some (7, true) } : Oper)) (v := ?_) rfl (by kernel_rfl) (by kernel_rfl) (by kernel_rfl) (fun _ _ _ h => h) (Or.inl ⟨by rfl, ?_⟩) (by assumption) ?_
        rotate_left
        · intro w' hSw; (try dsimp only at hSw); go_simp <;> (try with_reducible rfl)
        (try simp only [Act.put, List.setIfInBounds_toArray, List.set_cons_zero, List.set_cons_succ])
        refine wpAnyH_take (i := 11) (oi := ({ dst := some 38, op := Op.load 39 (Operand.tmp 3), type := 39, pos := _, after := _, guard := some (7, true) } : Oper)) (v := ?_) rfl (by kernel_rfl) (by kernel_rfl) (by kernel_rfl) (fun _ _ _ h => h) (Or.inl ⟨by rfl, ?_⟩) (by assumption) ?_
        rotate_left
        · intro w' hSw; (try dsimp only at hSw); go_simp <;> (try with_reducible rfl)
        (try simp only [Act.put, List.setIfInBounds_toArray, List.set_cons_zero, List.set_cons_succ])
        refine wpAnyH_ready (rs := [10]) (by kernel_rfl) (by simp) ?_
        refine AllReadyH.cons (o := ({ dst := some 37, op := Op.call { callee := Callee.value (Operand.func 46), args := #[Operand.tmp 35, Operand.tmp 36], argTypes := #[40, 40] }, type := 40, pos := _, after := _, guard := some (7, true) } : Oper)) rfl (fun K hK => ?_) AllReadyH.nil
        go_simp
        refine (rMul _ _ _ _ _ own6.sees own6.sees (bl_bin _) (bl_bin _) (by omega) (by omega)).mono ?_
        rintro e w10 ⟨v10, rfl, own10, hb⟩
        rw [val_bl] at own10
        have c0 := cell_later hb c0
        have c1 := cell_later hb c1
        have own5 := own5.below hb
        have own6 := own6.below hb
        have hy := hy.trans (hb.mono hy.size)
        clear hb
        (try go_wp2_with fail)
        refine hK.out _ _ ?_ (fun hHeld => ?_)
        · (try dsimp only); exact ⟨c0, c1⟩
        clear hK K
        (try simp only [Act.put, List.setIfInBounds_toArray, List.set_cons_zero, List.set_cons_succ])
        refine wpAnyH_ready (rs := [12]) (by kernel_rfl) (by simp) ?_
        refine AllReadyH.cons (o := ({ dst := some 39, op := Op.call { callee := Callee.value (Operand.func 34), args := #[Operand.tmp 38], argTypes := #[39] }, type := 40, pos := _, after := _, guard := some (7, true) } : Oper)) rfl (fun K hK => ?_) AllReadyH.nil
        go_simp
        refine (rList _ _ _ B0 B1 B2 B3).mono ?_
        rintro e w11 ⟨v11, rfl, own11, hb⟩
        have own10 := own10.below hb
        have c0 := cell_later hb c0
        have c1 := cell_later hb c1
        have own5 := own5.below hb
        have own6 := own6.below hb
        have hy := hy.trans (hb.mono hy.size)
        clear hb
        (try go_wp2_with fail)
        refine hK.out _ _ ?_ (fun hHeld => ?_)
        · (try dsimp only); exact ⟨c0, c1⟩
        clear hK K
        (try simp only [Act.put, List.setIfInBounds_toArray, List.set_cons_zero, List.set_cons_succ])
        refine wpAnyH_ready (rs := [13]) (by kernel_rfl) (by simp) ?_
        refine AllReadyH.cons (o := ({ dst := some 40, op := Op.call { callee := Callee.value (Operand.func 41), args := #[Operand.tmp 37, Operand.tmp 39], argTypes := #[40, 40] }, type := 3, pos := _, after := _, guard := some (7, true) } : Oper)) rfl (fun K hK => ?_) AllReadyH.nil
        go_simp
        refine (rCmp _ _ _ _ _ own10.sees own11.sees (bl_bin _) (bl_bin _) (by omega) (by omega)).mono ?_
        rintro e w12 ⟨rfl, hb⟩
        rw [val_bl, val_bl]
        have c0 := cell_later hb c0
        have c1 := cell_later hb c1
        have own5 := own5.below hb
        have own6 := own6.below hb
        have hy := hy.trans (hb.mono hy.size)
        clear hb
        (try go_wp2_with fail)
        refine hK.out _ _ ?_ (fun hHeld => ?_)
        · (try dsimp only); exact ⟨c0, c1⟩
        clear hK K
        (try simp only [Act.put, List.setIfInBounds_toArray, List.set_cons_zero, List.set_cons_succ])
        refine wpAnyH_take (i := 14) (oi := ({ dst := some 41, op := Op.binOp BinOp.gtr 3 (Operand.tmp 40) (Operand.const (Value.int IntKind.i64 0)) 3, type := 4, pos := _, after := _, guard := some (7, true) } : Oper)) (v := ?_) rfl (by kernel_rfl) (by kernel_rfl) (by kernel_rfl) (fun _ _ _ h => h) (Or.inl ⟨by rfl, ?_⟩) (by assumption) ?_
        rotate_left
        · intro w' hSw; (try dsimp only at hSw); go_simp <;> (try with_reducible rfl)
        (try simp only [Act.put, List.setIfInBounds_toArray, List.set_cons_zero, List.set_cons_succ])
        refine wpAnyH_take (i := 15) (oi := ({ dst := some 42, op := Op.pick (Operand.tmp 34) (Operand.tmp 41) (Operand.const (Value.bool false)), type := 4, pos := _, after := _, guard := none } : Oper)) (v := ?_) rfl (by kernel_rfl) (by kernel_rfl) (by kernel_rfl) (fun _ _ _ h => h) (Or.inl ⟨by rfl, ?_⟩) (by assumption) ?_
        rotate_left
        · intro w' hSw; (try dsimp only at hSw); go_simp <;> (try with_reducible rfl)
        (try simp only [Act.put, List.setIfInBounds_toArray, List.set_cons_zero, List.set_cons_succ])
        refine wpAnyH_take (i := 16) (oi := ({ dst := some 43, op := Op.move (Operand.tmp 42), type := 4, pos := _, after := _, guard := none } : Oper)) (v := ?_) rfl (by kernel_rfl) (by kernel_rfl) (by kernel_rfl) (fun _ _ _ h => h) (Or.inl ⟨by rfl, ?_⟩) (by assumption) ?_
        rotate_left
        · intro w' hSw; (try dsimp only at hSw); go_simp <;> (try with_reducible rfl)
        (try simp only [Act.put, List.setIfInBounds_toArray, List.set_cons_zero, List.set_cons_succ])
        refine wpAnyH_take (i := 17) (oi := ({ dst := some 44, op := Op.move (Operand.tmp 8), type := 4, pos := _, after := _, guard := some (16, true) } : Oper)) (v := ?_) rfl (by kernel_rfl) (by kernel_rfl) (by kernel_rfl) (fun _ _ _ h => h) (Or.inl ⟨by rfl, ?_⟩) (by assumption) ?_
        rotate_left
        · intro w' hSw; (try dsimp only at hSw); go_simp <;> (try with_reducible rfl)
        (try simp only [Act.put, List.setIfInBounds_toArray, List.set_cons_zero, List.set_cons_succ])
        refine wpAnyH_take (i := 18) (oi := ({ dst := some 45, op := Op.move (Operand.tmp 7), type := 22, pos := _, after := _, guard := some (16, true) } : Oper)) (v := ?_) rfl (by kernel_rfl) (by kernel_rfl) (by kernel_rfl) (fun _ _ _ h => h) (Or.inl ⟨by rfl, ?_⟩) (by assumption) ?_
        rotate_left
        · intro w' hSw; (try dsimp only at hSw); go_simp <;> (try with_reducible rfl)
        (try simp only [Act.put, List.setIfInBounds_toArray, List.set_cons_zero, List.set_cons_succ])
        refine wpAnyH_take (i := 19) (oi := ({ dst := some 46, op := Op.move (Operand.tmp 7), type := 22, pos := _, after := _, guard := some (16, true) } : Oper)) (v := ?_) rfl (by kernel_rfl) (by kernel_rfl) (by kernel_rfl) (fun _ _ _ h => h) (Or.inl ⟨by rfl, ?_⟩) (by assumption) ?_
        rotate_left
        · intro w' hSw; (try dsimp only at hSw); go_simp <;> (try with_reducible rfl)
        (try simp only [Act.put, List.setIfInBounds_toArray, List.set_cons_zero, List.set_cons_succ])
        refine wpAnyH_take (i := 21) (oi := ({ dst := some 48, op := Op.load 39 (Operand.tmp 3), type := 39, pos := _, after := _, guard := some (16, true) } : Oper)) (v := ?_) rfl (by kernel_rfl) (by kernel_rfl) (by kernel_rfl) (fun _ _ _ h => h) (Or.inl ⟨by rfl, ?_⟩) (by assumption) ?_
        rotate_left
        · intro w' hSw; (try dsimp only at hSw); go_simp <;> (try with_reducible rfl)
        (try simp only [Act.put, List.setIfInBounds_toArray, List.set_cons_zero, List.set_cons_succ])
        refine wpAnyH_ready (rs := [20]) (by kernel_rfl) (by simp) ?_
        refine AllReadyH.cons (o := ({ dst := some 47, op := Op.call { callee := Callee.value (Operand.func 45), args := #[Operand.tmp 45, Operand.tmp 46], argTypes := #[22, 22] }, type := 39, pos := _, after := _, guard := some (16, true) } : Oper)) rfl (fun K hK => ?_) AllReadyH.nil
        go_simp
        refine (wMul r r _ r0 r1 r0 r1).mono ?_
        rintro e w13 ⟨h, l, rfl, k0, k1, k2, k3, k4, hb⟩
        obtain ⟨rfl, rfl⟩ := wid_inj H2 L2 h l e0 e1 e2 e3 k0 k1 k2 k3 (E4.out.trans k4.symm)
        clear k4
        have c0 := cell_later hb c0
        have c1 := cell_later hb c1
        have own5 := own5.below hb
        have own6 := own6.below hb
        have hy := hy.trans (hb.mono hy.size)
        clear hb
        (try go_wp2_with fail)
        refine hK.out _ _ ?_ (fun hHeld => ?_)
        · (try dsimp only); exact ⟨c0, c1⟩
        clear hK K
        (try simp only [Act.put, List.setIfInBounds_toArray, List.set_cons_zero, List.set_cons_succ])
        refine wpAnyH_take (i := 22) (oi := ({ dst := some 49, op := Op.binOp BinOp.eql 39 (Operand.tmp 47) (Operand.tmp 48) 39, type := 4, pos := _, after := _, guard := some (16, true) } : Oper)) (v := ?_) rfl (by kernel_rfl) (by kernel_rfl) (by kernel_rfl) (fun _ _ _ h => h) (Or.inl ⟨by rfl, ?_⟩) (by assumption) ?_
        rotate_left
        · intro w' hSw; (try dsimp only at hSw); go_simp <;> (try with_reducible rfl)
        (try simp only [Act.put, List.setIfInBounds_toArray, List.set_cons_zero, List.set_cons_succ])
        refine wpAnyH_take (i := 23) (oi := ({ dst := some 50, op := Op.binOp BinOp.eql 4 (Operand.tmp 44) (Operand.tmp 49) 4, type := 4, pos := _, after := _, guard := some (16, true) } : Oper)) (v := ?_) rfl (by kernel_rfl) (by kernel_rfl) (by kernel_rfl) (fun _ _ _ h => h) (Or.inl ⟨by rfl, ?_⟩) (by assumption) ?_
        rotate_left
        · intro w' hSw; (try dsimp only at hSw); go_simp <;> (try with_reducible rfl)
        (try simp only [Act.put, List.setIfInBounds_toArray, List.set_cons_zero, List.set_cons_succ])
        refine wpAnyH_take (i := 24) (oi := ({ dst := some 51, op := Op.pick (Operand.tmp 43) (Operand.tmp 50) (Operand.const (Value.bool false)), type := 4, pos := _, after := _, guard := none } : Oper)) (v := ?_) rfl (by kernel_rfl) (by kernel_rfl) (by kernel_rfl) (fun _ _ _ h => h) (Or.inl ⟨by rfl, ?_⟩) (by assumption) ?_
        rotate_left
        · intro w' hSw; (try dsimp only at hSw); go_simp <;> (try with_reducible rfl)
        (try simp only [Act.put, List.setIfInBounds_toArray, List.set_cons_zero, List.set_cons_succ])
        refine wpAnyH_take (i := 25) (oi := ({ dst := some 52, op := Op.move (Operand.tmp 51), type := 4, pos := _, after := _, guard := none } : Oper)) (v := ?_) rfl (by kernel_rfl) (by kernel_rfl) (by kernel_rfl) (fun _ _ _ h => h) (Or.inl ⟨by rfl, ?_⟩) (by assumption) ?_
        rotate_left
        · intro w' hSw; (try dsimp only at hSw); go_simp <;> (try with_reducible rfl)
        (try simp only [Act.put, List.setIfInBounds_toArray, List.set_cons_zero, List.set_cons_succ])
        refine wpAnyH_take (i := 26) (oi := ({ dst := some 53, op := Op.move (Operand.tmp 2), type := 4, pos := _, after := _, guard := some (25, true) } : Oper)) (v := ?_) rfl (by kernel_rfl) (by kernel_rfl) (by kernel_rfl) (fun _ _ _ h => h) (Or.inl ⟨by rfl, ?_⟩) (by assumption) ?_
        rotate_left
        · intro w' hSw; (try dsimp only at hSw); go_simp <;> (try with_reducible rfl)
        (try simp only [Act.put, List.setIfInBounds_toArray, List.set_cons_zero, List.set_cons_succ])
        refine wpAnyH_take (i := 27) (oi := ({ dst := some 54, op := Op.unOp UnOp.not 4 (Operand.tmp 53), type := 4, pos := _, after := _, guard := some (25, true) } : Oper)) (v := ?_) rfl (by kernel_rfl) (by kernel_rfl) (by kernel_rfl) (fun _ _ _ h => h) (Or.inl ⟨by rfl, ?_⟩) (by assumption) ?_
        rotate_left
        · intro w' hSw; (try dsimp only at hSw); go_simp <;> (try with_reducible rfl)
        (try simp only [Act.put, List.setIfInBounds_toArray, List.set_cons_zero, List.set_cons_succ])
        refine wpAnyH_take (i := 28) (oi := ({ dst := some 55, op := Op.move (Operand.tmp 54), type := 4, pos := _, after := _, guard := some (25, true) } : Oper)) (v := ?_) rfl (by kernel_rfl) (by kernel_rfl) (by kernel_rfl) (fun _ _ _ h => h) (Or.inl ⟨by rfl, ?_⟩) (by assumption) ?_
        rotate_left
        · intro w' hSw; (try dsimp only at hSw); go_simp <;> (try with_reducible rfl)
        (try simp only [Act.put, List.setIfInBounds_toArray, List.set_cons_zero, List.set_cons_succ])
        refine wpAnyH_take (i := 29) (oi := ({ dst := some 56, op := Op.move (Operand.tmp 8), type := 4, pos := _, after := _, guard := some (28, false) } : Oper)) (v := undef) rfl (by kernel_rfl) (by kernel_rfl) (by kernel_rfl) (fun _ _ _ h => h) (Or.inr ⟨by kernel_rfl, rfl⟩) (by assumption) ?_
        (try simp only [Act.put, List.setIfInBounds_toArray, List.set_cons_zero, List.set_cons_succ])
        refine wpAnyH_take (i := 30) (oi := ({ dst := some 57, op := Op.move (Operand.tmp 56), type := 4, pos := _, after := _, guard := some (28, false) } : Oper)) (v := undef) rfl (by kernel_rfl) (by kernel_rfl) (by kernel_rfl) (fun _ _ _ h => h) (Or.inr ⟨by kernel_rfl, rfl⟩) (by assumption) ?_
        (try simp only [Act.put, List.setIfInBounds_toArray, List.set_cons_zero, List.set_cons_succ])
        refine wpAnyH_take (i := 31) (oi := ({ dst := some 58, op := Op.move (Operand.tmp 7), type := 22, pos := _, after := _, guard := some (30, true) } : Oper)) (v := undef) rfl (by kernel_rfl) (by kernel_rfl) (by kernel_rfl) (fun _ _ _ h => h) (Or.inr ⟨by kernel_rfl, rfl⟩) (by assumption) ?_
        (try simp only [Act.put, List.setIfInBounds_toArray, List.set_cons_zero, List.set_cons_succ])
        refine wpAnyH_take (i := 32) (oi := ({ dst := some 59, op := Op.move (Operand.tmp 1), type := 22, pos := _, after := _, guard := some (30, true) } : Oper)) (v := undef) rfl (by kernel_rfl) (by kernel_rfl) (by kernel_rfl) (fun _ _ _ h => h) (Or.inr ⟨by kernel_rfl, rfl⟩) (by assumption) ?_
        (try simp only [Act.put, List.setIfInBounds_toArray, List.set_cons_zero, List.set_cons_succ])
        refine wpAnyH_take (i := 33) (oi := ({ dst := some 60, op := Op.binOp BinOp.eql 22 (Operand.tmp 58) (Operand.tmp 59) 22, type := 4, pos := _, after := _, guard := some (30, true) } : Oper)) (v := undef) rfl (by kernel_rfl) (by kernel_rfl) (by kernel_rfl) (fun _ _ _ h => h) (Or.inr ⟨by kernel_rfl, rfl⟩) (by assumption) ?_
        (try simp only [Act.put, List.setIfInBounds_toArray, List.set_cons_zero, List.set_cons_succ])
        refine wpAnyH_take (i := 34) (oi := ({ dst := some 61, op := Op.pick (Operand.tmp 57) (Operand.tmp 60) (Operand.const (Value.bool false)), type := 4, pos := _, after := _, guard := some (28, false) } : Oper)) (v := undef) rfl (by kernel_rfl) (by kernel_rfl) (by kernel_rfl) (fun _ _ _ h => h) (Or.inr ⟨by kernel_rfl, rfl⟩) (by assumption) ?_
        (try simp only [Act.put, List.setIfInBounds_toArray, List.set_cons_zero, List.set_cons_succ])
        refine wpAnyH_take (i := 35) (oi := ({ dst := some 62, op := Op.pick (Operand.tmp 55) (Operand.const (Value.bool true)) (Operand.tmp 61), type := 4, pos := _, after := _, guard := some (25, true) } : Oper)) (v := ?_) rfl (by kernel_rfl) (by kernel_rfl) (by kernel_rfl) (fun _ _ _ h => h) (Or.inl ⟨by rfl, ?_⟩) (by assumption) ?_
        rotate_left
        · intro w' hSw; (try dsimp only at hSw); go_simp <;> (try with_reducible rfl)
        (try simp only [Act.put, List.setIfInBounds_toArray, List.set_cons_zero, List.set_cons_succ])
        refine wpAnyH_take (i := 36) (oi := ({ dst := some 63, op := Op.pick (Operand.tmp 52) (Operand.tmp 62) (Operand.const (Value.bool false)), type := 4, pos := _, after := _, guard := none } : Oper)) (v := ?_) rfl (by kernel_rfl) (by kernel_rfl) (by kernel_rfl) (fun _ _ _ h => h) (Or.inl ⟨by rfl, ?_⟩) (by assumption) ?_
        rotate_left
        · intro w' hSw; (try dsimp only at hSw); go_simp <;> (try with_reducible rfl)
        (try simp only [Act.put, List.setIfInBounds_toArray, List.set_cons_zero, List.set_cons_succ])
        refine wpAnyH_take (i := 37) (oi := ({ dst := some 6, op := Op.assign (Operand.tmp 63), type := 4, pos := _, after := _, guard := none } : Oper)) (v := ?_) rfl (by kernel_rfl) (by kernel_rfl) (by kernel_rfl) (fun _ _ _ h => h) (Or.inl ⟨by rfl, ?_⟩) (by assumption) ?_
        rotate_left
        · intro w' hSw; (try dsimp only at hSw); go_simp <;> (try with_reducible rfl)
        (try simp only [Act.put, List.setIfInBounds_toArray, List.set_cons_zero, List.set_cons_succ])
        refine wpAnyH_done (by kernel_rfl) ?_ _
        refine NoPanic.normal ?_
        go_wp2
        go_ret
        exact ⟨ret_eq rfl, hx6.trans (hy.mono hz6)⟩
      · have D : decide (r.toNat * r.toNat = wid a0h a0l) = false := by
          rw [decide_eq_false_iff_not, ← E4.out]
          intro e; exact p2 (wid_inj _ _ _ _ e0 e1 e2 e3 B0 B1 B2 B3 e).2
        rw [D]
        clear D
        go_wp2_with fail
        refine (rOf _ _ r0 r1).mono ?_
        rintro e w5 ⟨v5, rfl, own5, hb5⟩
        have c0 := cell_later hb5 c0
        have c1 := cell_later hb5 c1
        have hx5 : Below w.heap.size w w5 := hx4.trans (hb5.mono (by omega))
        have hz5 : w.heap.size < w5.heap.size := by have := hb5.size; omega
        clear hb5
        go_wp2_with fail
        refine (rAdd _ _ _ _ _ (own5.sees.alloc _) (Own.one w5 w5.heap.size 1 (Nat.le_refl _)).sees (bl_bin _) (Bin.mk (Or.inr rfl) Bin.nil) (by omega) (by simp)).mono ?_
        rintro e w6 ⟨v6, rfl, own6, hb6⟩
        rw [val_bl, show val [1] = 1 by decide] at own6
        have hy6 : Below w5.heap.size w5 w6 := ((Below.refl _ _).alloc (Nat.le_refl _) _).trans (hb6.mono (by simp))
        have c0 := cell_later hy6 c0
        have c1 := cell_later hy6 c1
        have hx6 : Below w.heap.size w w6 := hx5.trans (hy6.mono (by omega))
        have hz6 : w.heap.size ≤ w6.heap.size := by have := hy6.size; omega
        have own5 := (own5.below hy6).below ((Below.refl w6.heap.size w6).drew)
        have own6 := own6.below ((Below.refl w6.heap.size w6).drew)
        have hy := (Below.refl w6.heap.size w6).drew
        clear hb6 hy6
        go_wp2_with fail
        have c0 : w6.drew.cell? ⟨w.heap.size, 0, none⟩ = some (.int .u64 a0h) := c0
        have c1 : w6.drew.cell? ⟨w.heap.size, 1, none⟩ = some (.int .u64 a0l) := c1
        refine wp_region_noPanic ?_
        refine wp_region_held_drew (S := (fun w' => w'.cell? ⟨w.heap.size, 0, none⟩ = some (.int .u64 a0h) ∧ w'.cell? ⟨w.heap.size, 1, none⟩ = some (.int .u64 a0l))) (by kernel_rfl) ⟨c0, c1⟩ (fun hHeld => ?_)
        refine wpAnyH_take (i := 0) (oi := ({ dst := some 27, op := Op.move (Operand.tmp 9), type := 40, pos := _, after := _, guard := none } : Oper)) (v := ?_) rfl (by kernel_rfl) (by kernel_rfl) (by kernel_rfl) (fun _ _ _ h => h) (Or.inl ⟨by rfl, ?_⟩) (by assumption) ?_
        rotate_left
        · intro w' hSw; (try dsimp only at hSw); go_simp <;> (try with_reducible rfl)
        (try simp only [Act.put, List.setIfInBounds_toArray, List.set_cons_zero, List.set_cons_succ])
        refine wpAnyH_take (i := 1) (oi := ({ dst := some 28, op := Op.move (Operand.tmp 9), type := 40, pos := _, after := _, guard := none } : Oper)) (v := ?_) rfl (by kernel_rfl) (by kernel_rfl) (by kernel_rfl) (fun _ _ _ h => h) (Or.inl ⟨by rfl, ?_⟩) (by assumption) ?_
        rotate_left
        · intro w' hSw; (try dsimp only at hSw); go_simp <;> (try with_reducible rfl)
        (try simp only [Act.put, List.setIfInBounds_toArray, List.set_cons_zero, List.set_cons_succ])
        refine wpAnyH_take (i := 3) (oi := ({ dst := some 30, op := Op.load 39 (Operand.tmp 3), type := 39, pos := _, after := _, guard := none } : Oper)) (v := ?_) rfl (by kernel_rfl) (by kernel_rfl) (by kernel_rfl) (fun _ _ _ h => h) (Or.inl ⟨by rfl, ?_⟩) (by assumption) ?_
        rotate_left
        · intro w' hSw; (try dsimp only at hSw); go_simp <;> (try with_reducible rfl)
        (try simp only [Act.put, List.setIfInBounds_toArray, List.set_cons_zero, List.set_cons_succ])
        refine wpAnyH_ready (rs := [2]) (by kernel_rfl) (by simp) ?_
        refine AllReadyH.cons (o := ({ dst := some 29, op := Op.call { callee := Callee.value (Operand.func 46), args := #[Operand.tmp 27, Operand.tmp 28], argTypes := #[40, 40] }, type := 40, pos := _, after := _, guard := none } : Oper)) rfl (fun K hK => ?_) AllReadyH.nil
        go_simp
        refine (rMul _ _ _ _ _ own5.sees own5.sees (bl_bin _) (bl_bin _) (by omega) (by omega)).mono ?_
        rintro e w7 ⟨v7, rfl, own7, hb⟩
        rw [val_bl] at own7
        have c0 := cell_later hb c0
        have c1 := cell_later hb c1
        have own5 := own5.below hb
        have own6 := own6.below hb
        have hy := hy.trans (hb.mono hy.size)
        clear hb
        (try go_wp2_with fail)
        refine hK.out _ _ ?_ (fun hHeld => ?_)
        · (try dsimp only); exact ⟨c0, c1⟩
        clear hK K
        (try simp only [Act.put, List.setIfInBounds_toArray, List.set_cons_zero, List.set_cons_succ])
        refine wpAnyH_ready (rs := [4]) (by kernel_rfl) (by simp) ?_
        refine AllReadyH.cons (o := ({ dst := some 31, op := Op.call { callee := Callee.value (Operand.func 34), args := #[Operand.tmp 30], argTypes := #[39] }, type := 40, pos := _, after := _, guard := none } : Oper)) rfl (fun K hK => ?_) AllReadyH.nil
        go_simp
        refine (rList _ _ _ B0 B1 B2 B3).mono ?_
        rintro e w8 ⟨v8, rfl, own8, hb⟩
        have own7 := own7.below hb
        have c0 := cell_later hb c0
        have c1 := cell_later hb c1
        have own5 := own5.below hb
        have own6 := own6.below hb
        have hy := hy.trans (hb.mono hy.size)
        clear hb
        (try go_wp2_with fail)
        refine hK.out _ _ ?_ (fun hHeld => ?_)
        · (try dsimp only); exact ⟨c0, c1⟩
        clear hK K
        (try simp only [Act.put, List.setIfInBounds_toArray, List.set_cons_zero, List.set_cons_succ])
        refine wpAnyH_ready (rs := [5]) (by kernel_rfl) (by simp) ?_
        refine AllReadyH.cons (o := ({ dst := some 32, op := Op.call { callee := Callee.value (Operand.func 41), args := #[Operand.tmp 29, Operand.tmp 31], argTypes := #[40, 40] }, type := 3, pos := _, after := _, guard := none } : Oper)) rfl (fun K hK => ?_) AllReadyH.nil
        go_simp
        refine (rCmp _ _ _ _ _ own7.sees own8.sees (bl_bin _) (bl_bin _) (by omega) (by omega)).mono ?_
        rintro e w9 ⟨rfl, hb⟩
        rw [val_bl, val_bl]
        have c0 := cell_later hb c0
        have c1 := cell_later hb c1
        have own5 := own5.below hb
        have own6 := own6.below hb
        have hy := hy.trans (hb.mono hy.size)
        clear hb
        (try go_wp2_with fail)
        refine hK.out _ _ ?_ (fun hHeld => ?_)
        · (try dsimp only); exact ⟨c0, c1⟩
        clear hK K
        (try simp only [Act.put, List.setIfInBounds_toArray, List.set_cons_zero, List.set_cons_succ])
        refine wpAnyH_take (i := 6) (oi := ({ dst := some 33, op := Op.binOp BinOp.leq 3 (Operand.tmp 32) (Operand.const (Value.int IntKind.i64 0)) 3, type := 4, pos := _, after := _, guard := none } : Oper)) (v := ?_) rfl (by kernel_rfl) (by kernel_rfl) (by kernel_rfl) (fun _ _ _ h => h) (Or.inl ⟨by rfl, ?_⟩) (by assumption) ?_
        rotate_left
        · intro w' hSw; (try dsimp only at hSw); go_simp <;> (try with_reducible rfl)
        (try simp only [Act.put, List.setIfInBounds_toArray, List.set_cons_zero, List.set_cons_succ])
        refine wpAnyH_take (i := 7) (oi := ({ dst := some 34, op := Op.move (Operand.tmp 33), type := 4, pos := _, after := _, guard := none } : Oper)) (v := ?_) rfl (by kernel_rfl) (by kernel_rfl) (by kernel_rfl) (fun _ _ _ h => h) (Or.inl ⟨by rfl, ?_⟩) (by assumption) ?_
        rotate_left
        · intro w' hSw; (try dsimp only at hSw); go_simp <;> (try with_reducible rfl)
        (try simp only [Act.put, List.setIfInBounds_toArray, List.set_cons_zero, List.set_cons_succ])
        refine wpAnyH_take (i := 8) (oi := ({ dst := some 35, op := Op.move (Operand.tmp 10), type := 40, pos := _, after := _, guard := some (7, true) } : Oper)) (v := ?_) rfl (by kernel_rfl) (by kernel_rfl) (by kernel_rfl) (fun _ _ _ h => h) (Or.inl ⟨by rfl, ?_⟩) (by assumption) ?_
        rotate_left
        · intro w' hSw; (try dsimp only at hSw); go_simp <;> (try with_reducible rfl)
        (try simp only [Act.put, List.setIfInBounds_toArray, List.set_cons_zero, List.set_cons_succ])
        refine wpAnyH_take (i := 9) (oi := ({ dst := some 36, op := Op.move (Operand.tmp 10), type := 40, pos := _, after := _, guard := some (7, true) } : Oper)) (v := ?_) rfl (by kernel_rfl) (by kernel_rfl) (by kernel_rfl) (fun _ _ _ h => h) (Or.inl ⟨by rfl, ?_⟩) (by assumption) ?_
        rotate_left
        · intro w' hSw; (try dsimp only at hSw); go_simp <;> (try with_reducible rfl)
        (try simp only [Act.put, List.setIfInBounds_toArray, List.set_cons_zero, List.set_cons_succ])
        refine wpAnyH_take (i := 11) (oi := ({ dst := some 38, op := Op.load 39 (Operand.tmp 3), type := 39, pos := _, after := _, guard := some (7, true) } : Oper)) (v := ?_) rfl (by kernel_rfl) (by kernel_rfl) (by kernel_rfl) (fun _ _ _ h => h) (Or.inl ⟨by rfl, ?_⟩) (by assumption) ?_
        rotate_left
        · intro w' hSw; (try dsimp only at hSw); go_simp <;> (try with_reducible rfl)
        (try simp only [Act.put, List.setIfInBounds_toArray, List.set_cons_zero, List.set_cons_succ])
        refine wpAnyH_ready (rs := [10]) (by kernel_rfl) (by simp) ?_
        refine AllReadyH.cons (o := ({ dst := some 37, op := Op.call { callee := Callee.value (Operand.func 46), args := #[Operand.tmp 35, Operand.tmp 36], argTypes := #[40, 40] }, type := 40, pos := _, after := _, guard := some (7, true) } : Oper)) rfl (fun K hK => ?_) AllReadyH.nil
        go_simp
        refine (rMul _ _ _ _ _ own6.sees own6.sees (bl_bin _) (bl_bin _) (by omega) (by omega)).mono ?_
        rintro e w10 ⟨v10, rfl, own10, hb⟩
        rw [val_bl] at own10
        have c0 := cell_later hb c0
        have c1 := cell_later hb c1
        have own5 := own5.below hb
        have own6 := own6.below hb
        have hy := hy.trans (hb.mono hy.size)
        clear hb
        (try go_wp2_with fail)
        refine hK.out _ _ ?_ (fun hHeld => ?_)
        · (try dsimp only); exact ⟨c0, c1⟩
        clear hK K
        (try simp only [Act.put, List.setIfInBounds_toArray, List.set_cons_zero, List.set_cons_succ])
        refine wpAnyH_ready (rs := [12]) (by kernel_rfl) (by simp) ?_
        refine AllReadyH.cons (o := ({ dst := some 39, op := Op.call { callee := Callee.value (Operand.func 34), args := #[Operand.tmp 38], argTypes := #[39] }, type := 40, pos := _, after := _, guard := some (7, true) } : Oper)) rfl (fun K hK => ?_) AllReadyH.nil
        go_simp
        refine (rList _ _ _ B0 B1 B2 B3).mono ?_
        rintro e w11 ⟨v11, rfl, own11, hb⟩
        have own10 := own10.below hb
        have c0 := cell_later hb c0
        have c1 := cell_later hb c1
        have own5 := own5.below hb
        have own6 := own6.below hb
        have hy := hy.trans (hb.mono hy.size)
        clear hb
        (try go_wp2_with fail)
        refine hK.out _ _ ?_ (fun hHeld => ?_)
        · (try dsimp only); exact ⟨c0, c1⟩
        clear hK K
        (try simp only [Act.put, List.setIfInBounds_toArray, List.set_cons_zero, List.set_cons_succ])
        refine wpAnyH_ready (rs := [13]) (by kernel_rfl) (by simp) ?_
        refine AllReadyH.cons (o := ({ dst := some 40, op := Op.call { callee := Callee.value (Operand.func 41), args := #[Operand.tmp 37, Operand.tmp 39], argTypes := #[40, 40] }, type := 3, pos := _, after := _, guard := some (7, true) } : Oper)) rfl (fun K hK => ?_) AllReadyH.nil
        go_simp
        refine (rCmp _ _ _ _ _ own10.sees own11.sees (bl_bin _) (bl_bin _) (by omega) (by omega)).mono ?_
        rintro e w12 ⟨rfl, hb⟩
        rw [val_bl, val_bl]
        have c0 := cell_later hb c0
        have c1 := cell_later hb c1
        have own5 := own5.below hb
        have own6 := own6.below hb
        have hy := hy.trans (hb.mono hy.size)
        clear hb
        (try go_wp2_with fail)
        refine hK.out _ _ ?_ (fun hHeld => ?_)
        · (try dsimp only); exact ⟨c0, c1⟩
        clear hK K
        (try simp only [Act.put, List.setIfInBounds_toArray, List.set_cons_zero, List.set_cons_succ])
        refine wpAnyH_take (i := 14) (oi := ({ dst := some 41, op := Op.binOp BinOp.gtr 3 (Operand.tmp 40) (Operand.const (Value.int IntKind.i64 0)) 3, type := 4, pos := _, after := _, guard := some (7, true) } : Oper)) (v := ?_) rfl (by kernel_rfl) (by kernel_rfl) (by kernel_rfl) (fun _ _ _ h => h) (Or.inl ⟨by rfl, ?_⟩) (by assumption) ?_
        rotate_left
        · intro w' hSw; (try dsimp only at hSw); go_simp <;> (try with_reducible rfl)
        (try simp only [Act.put, List.setIfInBounds_toArray, List.set_cons_zero, List.set_cons_succ])
        refine wpAnyH_take (i := 15) (oi := ({ dst := some 42, op := Op.pick (Operand.tmp 34) (Operand.tmp 41) (Operand.const (Value.bool false)), type := 4, pos := _, after := _, guard := none } : Oper)) (v := ?_) rfl (by kernel_rfl) (by kernel_rfl) (by kernel_rfl) (fun _ _ _ h => h) (Or.inl ⟨by rfl, ?_⟩) (by assumption) ?_
        rotate_left
        · intro w' hSw; (try dsimp only at hSw); go_simp <;> (try with_reducible rfl)
        (try simp only [Act.put, List.setIfInBounds_toArray, List.set_cons_zero, List.set_cons_succ])
        refine wpAnyH_take (i := 16) (oi := ({ dst := some 43, op := Op.move (Operand.tmp 42), type := 4, pos := _, after := _, guard := none } : Oper)) (v := ?_) rfl (by kernel_rfl) (by kernel_rfl) (by kernel_rfl) (fun _ _ _ h => h) (Or.inl ⟨by rfl, ?_⟩) (by assumption) ?_
        rotate_left
        · intro w' hSw; (try dsimp only at hSw); go_simp <;> (try with_reducible rfl)
        (try simp only [Act.put, List.setIfInBounds_toArray, List.set_cons_zero, List.set_cons_succ])
        refine wpAnyH_take (i := 17) (oi := ({ dst := some 44, op := Op.move (Operand.tmp 8), type := 4, pos := _, after := _, guard := some (16, true) } : Oper)) (v := ?_) rfl (by kernel_rfl) (by kernel_rfl) (by kernel_rfl) (fun _ _ _ h => h) (Or.inl ⟨by rfl, ?_⟩) (by assumption) ?_
        rotate_left
        · intro w' hSw; (try dsimp only at hSw); go_simp <;> (try with_reducible rfl)
        (try simp only [Act.put, List.setIfInBounds_toArray, List.set_cons_zero, List.set_cons_succ])
        refine wpAnyH_take (i := 18) (oi := ({ dst := some 45, op := Op.move (Operand.tmp 7), type := 22, pos := _, after := _, guard := some (16, true) } : Oper)) (v := ?_) rfl (by kernel_rfl) (by kernel_rfl) (by kernel_rfl) (fun _ _ _ h => h) (Or.inl ⟨by rfl, ?_⟩) (by assumption) ?_
        rotate_left
        · intro w' hSw; (try dsimp only at hSw); go_simp <;> (try with_reducible rfl)
        (try simp only [Act.put, List.setIfInBounds_toArray, List.set_cons_zero, List.set_cons_succ])
        refine wpAnyH_take (i := 19) (oi := ({ dst := some 46, op := Op.move (Operand.tmp 7), type := 22, pos := _, after := _, guard := some (16, true) } : Oper)) (v := ?_) rfl (by kernel_rfl) (by kernel_rfl) (by kernel_rfl) (fun _ _ _ h => h) (Or.inl ⟨by rfl, ?_⟩) (by assumption) ?_
        rotate_left
        · intro w' hSw; (try dsimp only at hSw); go_simp <;> (try with_reducible rfl)
        (try simp only [Act.put, List.setIfInBounds_toArray, List.set_cons_zero, List.set_cons_succ])
        refine wpAnyH_take (i := 21) (oi := ({ dst := some 48, op := Op.load 39 (Operand.tmp 3), type := 39, pos := _, after := _, guard := some (16, true) } : Oper)) (v := ?_) rfl (by kernel_rfl) (by kernel_rfl) (by kernel_rfl) (fun _ _ _ h => h) (Or.inl ⟨by rfl, ?_⟩) (by assumption) ?_
        rotate_left
        · intro w' hSw; (try dsimp only at hSw); go_simp <;> (try with_reducible rfl)
        (try simp only [Act.put, List.setIfInBounds_toArray, List.set_cons_zero, List.set_cons_succ])
        refine wpAnyH_ready (rs := [20]) (by kernel_rfl) (by simp) ?_
        refine AllReadyH.cons (o := ({ dst := some 47, op := Op.call { callee := Callee.value (Operand.func 45), args := #[Operand.tmp 45, Operand.tmp 46], argTypes := #[22, 22] }, type := 39, pos := _, after := _, guard := some (16, true) } : Oper)) rfl (fun K hK => ?_) AllReadyH.nil
        go_simp
        refine (wMul r r _ r0 r1 r0 r1).mono ?_
        rintro e w13 ⟨h, l, rfl, k0, k1, k2, k3, k4, hb⟩
        obtain ⟨rfl, rfl⟩ := wid_inj H2 L2 h l e0 e1 e2 e3 k0 k1 k2 k3 (E4.out.trans k4.symm)
        clear k4
        have c0 := cell_later hb c0
        have c1 := cell_later hb c1
        have own5 := own5.below hb
        have own6 := own6.below hb
        have hy := hy.trans (hb.mono hy.size)
        clear hb
        (try go_wp2_with fail)
        refine hK.out _ _ ?_ (fun hHeld => ?_)
        · (try dsimp only); exact ⟨c0, c1⟩
        clear hK K
        (try simp only [Act.put, List.setIfInBounds_toArray, List.set_cons_zero, List.set_cons_succ])
        refine wpAnyH_take (i := 22) (oi := ({ dst := some 49, op := Op.binOp BinOp.eql 39 (Operand.tmp 47) (Operand.tmp 48) 39, type := 4, pos := _, after := _, guard := some (16, true) } : Oper)) (v := ?_) rfl (by kernel_rfl) (by kernel_rfl) (by kernel_rfl) (fun _ _ _ h => h) (Or.inl ⟨by rfl, ?_⟩) (by assumption) ?_
        rotate_left
        · intro w' hSw; (try dsimp only at hSw); go_simp <;> (try with_reducible rfl)
        (try simp only [Act.put, List.setIfInBounds_toArray, List.set_cons_zero, List.set_cons_succ])
        refine wpAnyH_take (i := 23) (oi := ({ dst := some 50, op := Op.binOp BinOp.eql 4 (Operand.tmp 44) (Operand.tmp 49) 4, type := 4, pos := _, after := _, guard := some (16, true) } : Oper)) (v := ?_) rfl (by kernel_rfl) (by kernel_rfl) (by kernel_rfl) (fun _ _ _ h => h) (Or.inl ⟨by rfl, ?_⟩) (by assumption) ?_
        rotate_left
        · intro w' hSw; (try dsimp only at hSw); go_simp <;> (try with_reducible rfl)
        (try simp only [Act.put, List.setIfInBounds_toArray, List.set_cons_zero, List.set_cons_succ])
        refine wpAnyH_take (i := 24) (oi := ({ dst := some 51, op := Op.pick (Operand.tmp 43) (Operand.tmp 50) (Operand.const (Value.bool false)), type := 4, pos := _, after := _, guard := none } : Oper)) (v := ?_) rfl (by kernel_rfl) (by kernel_rfl) (by kernel_rfl) (fun _ _ _ h => h) (Or.inl ⟨by rfl, ?_⟩) (by assumption) ?_
        rotate_left
        · intro w' hSw; (try dsimp only at hSw); go_simp <;> (try with_reducible rfl)
        (try simp only [Act.put, List.setIfInBounds_toArray, List.set_cons_zero, List.set_cons_succ])
        refine wpAnyH_take (i := 25) (oi := ({ dst := some 52, op := Op.move (Operand.tmp 51), type := 4, pos := _, after := _, guard := none } : Oper)) (v := ?_) rfl (by kernel_rfl) (by kernel_rfl) (by kernel_rfl) (fun _ _ _ h => h) (Or.inl ⟨by rfl, ?_⟩) (by assumption) ?_
        rotate_left
        · intro w' hSw; (try dsimp only at hSw); go_simp <;> (try with_reducible rfl)
        (try simp only [Act.put, List.setIfInBounds_toArray, List.set_cons_zero, List.set_cons_succ])
        refine wpAnyH_take (i := 26) (oi := ({ dst := some 53, op := Op.move (Operand.tmp 2), type := 4, pos := _, after := _, guard := some (25, true) } : Oper)) (v := ?_) rfl (by kernel_rfl) (by kernel_rfl) (by kernel_rfl) (fun _ _ _ h => h) (Or.inl ⟨by rfl, ?_⟩) (by assumption) ?_
        rotate_left
        · intro w' hSw; (try dsimp only at hSw); go_simp <;> (try with_reducible rfl)
        (try simp only [Act.put, List.setIfInBounds_toArray, List.set_cons_zero, List.set_cons_succ])
        refine wpAnyH_take (i := 27) (oi := ({ dst := some 54, op := Op.unOp UnOp.not 4 (Operand.tmp 53), type := 4, pos := _, after := _, guard := some (25, true) } : Oper)) (v := ?_) rfl (by kernel_rfl) (by kernel_rfl) (by kernel_rfl) (fun _ _ _ h => h) (Or.inl ⟨by rfl, ?_⟩) (by assumption) ?_
        rotate_left
        · intro w' hSw; (try dsimp only at hSw); go_simp <;> (try with_reducible rfl)
        (try simp only [Act.put, List.setIfInBounds_toArray, List.set_cons_zero, List.set_cons_succ])
        refine wpAnyH_take (i := 28) (oi := ({ dst := some 55, op := Op.move (Operand.tmp 54), type := 4, pos := _, after := _, guard := some (25, true) } : Oper)) (v := ?_) rfl (by kernel_rfl) (by kernel_rfl) (by kernel_rfl) (fun _ _ _ h => h) (Or.inl ⟨by rfl, ?_⟩) (by assumption) ?_
        rotate_left
        · intro w' hSw; (try dsimp only at hSw); go_simp <;> (try with_reducible rfl)
        (try simp only [Act.put, List.setIfInBounds_toArray, List.set_cons_zero, List.set_cons_succ])
        refine wpAnyH_take (i := 29) (oi := ({ dst := some 56, op := Op.move (Operand.tmp 8), type := 4, pos := _, after := _, guard := some (28, false) } : Oper)) (v := undef) rfl (by kernel_rfl) (by kernel_rfl) (by kernel_rfl) (fun _ _ _ h => h) (Or.inr ⟨by kernel_rfl, rfl⟩) (by assumption) ?_
        (try simp only [Act.put, List.setIfInBounds_toArray, List.set_cons_zero, List.set_cons_succ])
        refine wpAnyH_take (i := 30) (oi := ({ dst := some 57, op := Op.move (Operand.tmp 56), type := 4, pos := _, after := _, guard := some (28, false) } : Oper)) (v := undef) rfl (by kernel_rfl) (by kernel_rfl) (by kernel_rfl) (fun _ _ _ h => h) (Or.inr ⟨by kernel_rfl, rfl⟩) (by assumption) ?_
        (try simp only [Act.put, List.setIfInBounds_toArray, List.set_cons_zero, List.set_cons_succ])
        refine wpAnyH_take (i := 31) (oi := ({ dst := some 58, op := Op.move (Operand.tmp 7), type := 22, pos := _, after := _, guard := some (30, true) } : Oper)) (v := undef) rfl (by kernel_rfl) (by kernel_rfl) (by kernel_rfl) (fun _ _ _ h => h) (Or.inr ⟨by kernel_rfl, rfl⟩) (by assumption) ?_
        (try simp only [Act.put, List.setIfInBounds_toArray, List.set_cons_zero, List.set_cons_succ])
        refine wpAnyH_take (i := 32) (oi := ({ dst := some 59, op := Op.move (Operand.tmp 1), type := 22, pos := _, after := _, guard := some (30, true) } : Oper)) (v := undef) rfl (by kernel_rfl) (by kernel_rfl) (by kernel_rfl) (fun _ _ _ h => h) (Or.inr ⟨by kernel_rfl, rfl⟩) (by assumption) ?_
        (try simp only [Act.put, List.setIfInBounds_toArray, List.set_cons_zero, List.set_cons_succ])
        refine wpAnyH_take (i := 33) (oi := ({ dst := some 60, op := Op.binOp BinOp.eql 22 (Operand.tmp 58) (Operand.tmp 59) 22, type := 4, pos := _, after := _, guard := some (30, true) } : Oper)) (v := undef) rfl (by kernel_rfl) (by kernel_rfl) (by kernel_rfl) (fun _ _ _ h => h) (Or.inr ⟨by kernel_rfl, rfl⟩) (by assumption) ?_
        (try simp only [Act.put, List.setIfInBounds_toArray, List.set_cons_zero, List.set_cons_succ])
        refine wpAnyH_take (i := 34) (oi := ({ dst := some 61, op := Op.pick (Operand.tmp 57) (Operand.tmp 60) (Operand.const (Value.bool false)), type := 4, pos := _, after := _, guard := some (28, false) } : Oper)) (v := undef) rfl (by kernel_rfl) (by kernel_rfl) (by kernel_rfl) (fun _ _ _ h => h) (Or.inr ⟨by kernel_rfl, rfl⟩) (by assumption) ?_
        (try simp only [Act.put, List.setIfInBounds_toArray, List.set_cons_zero, List.set_cons_succ])
        refine wpAnyH_take (i := 35) (oi := ({ dst := some 62, op := Op.pick (Operand.tmp 55) (Operand.const (Value.bool true)) (Operand.tmp 61), type := 4, pos := _, after := _, guard := some (25, true) } : Oper)) (v := ?_) rfl (by kernel_rfl) (by kernel_rfl) (by kernel_rfl) (fun _ _ _ h => h) (Or.inl ⟨by rfl, ?_⟩) (by assumption) ?_
        rotate_left
        · intro w' hSw; (try dsimp only at hSw); go_simp <;> (try with_reducible rfl)
        (try simp only [Act.put, List.setIfInBounds_toArray, List.set_cons_zero, List.set_cons_succ])
        refine wpAnyH_take (i := 36) (oi := ({ dst := some 63, op := Op.pick (Operand.tmp 52) (Operand.tmp 62) (Operand.const (Value.bool false)), type := 4, pos := _, after := _, guard := none } : Oper)) (v := ?_) rfl (by kernel_rfl) (by kernel_rfl) (by kernel_rfl) (fun _ _ _ h => h) (Or.inl ⟨by rfl, ?_⟩) (by assumption) ?_
        rotate_left
        · intro w' hSw; (try dsimp only at hSw); go_simp <;> (try with_reducible rfl)
        (try simp only [Act.put, List.setIfInBounds_toArray, List.set_cons_zero, List.set_cons_succ])
        refine wpAnyH_take (i := 37) (oi := ({ dst := some 6, op := Op.assign (Operand.tmp 63), type := 4, pos := _, after := _, guard := none } : Oper)) (v := ?_) rfl (by kernel_rfl) (by kernel_rfl) (by kernel_rfl) (fun _ _ _ h => h) (Or.inl ⟨by rfl, ?_⟩) (by assumption) ?_
        rotate_left
        · intro w' hSw; (try dsimp only at hSw); go_simp <;> (try with_reducible rfl)
        (try simp only [Act.put, List.setIfInBounds_toArray, List.set_cons_zero, List.set_cons_succ])
        refine wpAnyH_done (by kernel_rfl) ?_ _
        refine NoPanic.normal ?_
        go_wp2
        go_ret
        exact ⟨ret_eq rfl, hx6.trans (hy.mono hz6)⟩
    · have D : decide (r.toNat * r.toNat = wid a0h a0l) = false := by
        rw [decide_eq_false_iff_not, ← E4.out]
        intro e; exact p1 (wid_inj _ _ _ _ e0 e1 e2 e3 B0 B1 B2 B3 e).1
      rw [D]
      clear D
      go_wp2_with fail
      refine (rOf _ _ r0 r1).mono ?_
      rintro e w5 ⟨v5, rfl, own5, hb5⟩
      have c0 := cell_later hb5 c0
      have c1 := cell_later hb5 c1
      have hx5 : Below w.heap.size w w5 := hx4.trans (hb5.mono (by omega))
      have hz5 : w.heap.size < w5.heap.size := by have := hb5.size; omega
      clear hb5
      go_wp2_with fail
      refine (rAdd _ _ _ _ _ (own5.sees.alloc _) (Own.one w5 w5.heap.size 1 (Nat.le_refl _)).sees (bl_bin _) (Bin.mk (Or.inr rfl) Bin.nil) (by omega) (by simp)).mono ?_
      rintro e w6 ⟨v6, rfl, own6, hb6⟩
      rw [val_bl, show val [1] = 1 by decide] at own6
      have hy6 : Below w5.heap.size w5 w6 := ((Below.refl _ _).alloc (Nat.le_refl _) _).trans (hb6.mono (by simp))
      have c0 := cell_later hy6 c0
      have c1 := cell_later hy6 c1
      have hx6 : Below w.heap.size w w6 := hx5.trans (hy6.mono (by omega))
      have hz6 : w.heap.size ≤ w6.heap.size := by have := hy6.size; omega
      have own5 := (own5.below hy6).below ((Below.refl w6.heap.size w6).drew)
      have own6 := own6.below ((Below.refl w6.heap.size w6).drew)
      have hy := (Below.refl w6.heap.size w6).drew
      clear hb6 hy6
      go_wp2_with fail
      have c0 : w6.drew.cell? ⟨w.heap.size, 0, none⟩ = some (.int .u64 a0h) := c0
      have c1 : w6.drew.cell? ⟨w.heap.size, 1, none⟩ = some (.int .u64 a0l) := c1
      refine wp_region_noPanic ?_
      refine wp_region_held_drew (S := (fun w' => w'.cell? ⟨w.heap.size, 0, none⟩ = some (.int .u64 a0h) ∧ w'.cell? ⟨w.heap.size, 1, none⟩ = some (.int .u64 a0l))) (by kernel_rfl) ⟨c0, c1⟩ (fun hHeld => ?_)
      refine wpAnyH_take (i := 0) (oi := ({ dst := some 27, op := Op.move (Operand.tmp 9), type := 40, pos := _, after := _, guard := none } : Oper)) (v := ?_) rfl (by kernel_rfl) (by kernel_rfl) (by kernel_rfl) (fun _ _ _ h => h) (Or.inl ⟨by rfl, ?_⟩) (by assumption) ?_
      rotate_left
      · intro w' hSw; (try dsimp only at hSw); go_simp <;> (try with_reducible rfl)
      (try simp only [Act.put, List.setIfInBounds_toArray, List.set_cons_zero, List.set_cons_succ])
      refine wpAnyH_take (i := 1) (oi := ({ dst := some 28, op := Op.move (Operand.tmp 9), type := 40, pos := _, after := _, guard := none } : Oper)) (v := ?_) rfl (by kernel_rfl) (by kernel_rfl) (by kernel_rfl) (fun _ _ _ h => h) (Or.inl ⟨by rfl, ?_⟩) (by assumption) ?_
      rotate_left
      · intro w' hSw; (try dsimp only at hSw); go_simp <;> (try with_reducible rfl)
      (try simp only [Act.put, List.setIfInBounds_toArray, List.set_cons_zero, List.set_cons_succ])
      refine wpAnyH_take (i := 3) (oi := ({ dst := some 30, op := Op.load 39 (Operand.tmp 3), type := 39, pos := _, after := _, guard := none } : Oper)) (v := ?_) rfl (by kernel_rfl) (by kernel_rfl) (by kernel_rfl) (fun _ _ _ h => h) (Or.inl ⟨by rfl, ?_⟩) (by assumption) ?_
      rotate_left
      · intro w' hSw; (try dsimp only at hSw); go_simp <;> (try with_reducible rfl)
      (try simp only [Act.put, List.setIfInBounds_toArray, List.set_cons_zero, List.set_cons_succ])
      refine wpAnyH_ready (rs := [2]) (by kernel_rfl) (by simp) ?_
      refine AllReadyH.cons (o := ({ dst := some 29, op := Op.call { callee := Callee.value (Operand.func 46), args := #[Operand.tmp 27, Operand.tmp 28], argTypes := #[40, 40] }, type := 40, pos := _, after := _, guard := none } : Oper)) rfl (fun K hK => ?_) AllReadyH.nil
      go_simp
      refine (rMul _ _ _ _ _ own5.sees own5.sees (bl_bin _) (bl_bin _) (by omega) (by omega)).mono ?_
      rintro e w7 ⟨v7, rfl, own7, hb⟩
      rw [val_bl] at own7
      have c0 := cell_later hb c0
      have c1 := cell_later hb c1
      have own5 := own5.below hb
      have own6 := own6.below hb
      have hy := hy.trans (hb.mono hy.size)
      clear hb
      (try go_wp2_with fail)
      refine hK.out _ _ ?_ (fun hHeld => ?_)
      · (try dsimp only); exact ⟨c0, c1⟩
      clear hK K
      (try simp only [Act.put, List.setIfInBounds_toArray, List.set_cons_zero, List.set_cons_succ])
      refine wpAnyH_ready (rs := [4]) (by kernel_rfl) (by simp) ?_
      refine AllReadyH.cons (o := ({ dst := some 31, op := Op.call { callee := Callee.value (Operand.func 34), args := #[Operand.tmp 30], argTypes := #[39] }, type := 40, pos := _, after := _, guard := none } : Oper)) rfl (fun K hK => ?_) AllReadyH.nil
      go_simp
      refine (rList _ _ _ B0 B1 B2 B3).mono ?_
      rintro e w8 ⟨v8, rfl, own8, hb⟩
      have own7 := own7.below hb
      have c0 := cell_later hb c0
      have c1 := cell_later hb c1
      have own5 := own5.below hb
      have own6 := own6.below hb
      have hy := hy.trans (hb.mono hy.size)
      clear hb
      (try go_wp2_with fail)
      refine hK.out _ _ ?_ (fun hHeld => ?_)
      · (try dsimp only); exact ⟨c0, c1⟩
      clear hK K
      (try simp only [Act.put, List.setIfInBounds_toArray, List.set_cons_zero, List.set_cons_succ])
      refine wpAnyH_ready (rs := [5]) (by kernel_rfl) (by simp) ?_
      refine AllReadyH.cons (o := ({ dst := some 32, op := Op.call { callee := Callee.value (Operand.func 41), args := #[Operand.tmp 29, Operand.tmp 31], argTypes := #[40, 40] }, type := 3, pos := _, after := _, guard := none } : Oper)) rfl (fun K hK => ?_) AllReadyH.nil
      go_simp
      refine (rCmp _ _ _ _ _ own7.sees own8.sees (bl_bin _) (bl_bin _) (by omega) (by omega)).mono ?_
      rintro e w9 ⟨rfl, hb⟩
      rw [val_bl, val_bl]
      have c0 := cell_later hb c0
      have c1 := cell_later hb c1
      have own5 := own5.below hb
      have own6 := own6.below hb
      have hy := hy.trans (hb.mono hy.size)
      clear hb
      (try go_wp2_with fail)
      refine hK.out _ _ ?_ (fun hHeld => ?_)
      · (try dsimp only); exact ⟨c0, c1⟩
      clear hK K
      (try simp only [Act.put, List.setIfInBounds_toArray, List.set_cons_zero, List.set_cons_succ])
      refine wpAnyH_take (i := 6) (oi := ({ dst := some 33, op := Op.binOp BinOp.leq 3 (Operand.tmp 32) (Operand.const (Value.int IntKind.i64 0)) 3, type := 4, pos := _, after := _, guard := none } : Oper)) (v := ?_) rfl (by kernel_rfl) (by kernel_rfl) (by kernel_rfl) (fun _ _ _ h => h) (Or.inl ⟨by rfl, ?_⟩) (by assumption) ?_
      rotate_left
      · intro w' hSw; (try dsimp only at hSw); go_simp <;> (try with_reducible rfl)
      (try simp only [Act.put, List.setIfInBounds_toArray, List.set_cons_zero, List.set_cons_succ])
      refine wpAnyH_take (i := 7) (oi := ({ dst := some 34, op := Op.move (Operand.tmp 33), type := 4, pos := _, after := _, guard := none } : Oper)) (v := ?_) rfl (by kernel_rfl) (by kernel_rfl) (by kernel_rfl) (fun _ _ _ h => h) (Or.inl ⟨by rfl, ?_⟩) (by assumption) ?_
      rotate_left
      · intro w' hSw; (try dsimp only at hSw); go_simp <;> (try with_reducible rfl)
      (try simp only [Act.put, List.setIfInBounds_toArray, List.set_cons_zero, List.set_cons_succ])
      refine wpAnyH_take (i := 8) (oi := ({ dst := some 35, op := Op.move (Operand.tmp 10), type := 40, pos := _, after := _, guard := some (7, true) } : Oper)) (v := ?_) rfl (by kernel_rfl) (by kernel_rfl) (by kernel_rfl) (fun _ _ _ h => h) (Or.inl ⟨by rfl, ?_⟩) (by assumption) ?_
      rotate_left
      · intro w' hSw; (try dsimp only at hSw); go_simp <;> (try with_reducible rfl)
      (try simp only [Act.put, List.setIfInBounds_toArray, List.set_cons_zero, List.set_cons_succ])
      refine wpAnyH_take (i := 9) (oi := ({ dst := some 36, op := Op.move (Operand.tmp 10), type := 40, pos := _, after := _, guard := some (7, true) } : Oper)) (v := ?_) rfl (by kernel_rfl) (by kernel_rfl) (by kernel_rfl) (fun _ _ _ h => h) (Or.inl ⟨by rfl, ?_⟩) (by assumption) ?_
      rotate_left
      · intro w' hSw; (try dsimp only at hSw); go_simp <;> (try with_reducible rfl)
      (try simp only [Act.put, List.setIfInBounds_toArray, List.set_cons_zero, List.set_cons_succ])
      refine wpAnyH_take (i := 11) (oi := ({ dst := some 38, op := Op.load 39 (Operand.tmp 3), type := 39, pos := _, after := _, guard := some (7, true) } : Oper)) (v := ?_) rfl (by kernel_rfl) (by kernel_rfl) (by kernel_rfl) (fun _ _ _ h => h) (Or.inl ⟨by rfl, ?_⟩) (by assumption) ?_
      rotate_left
      · intro w' hSw; (try dsimp only at hSw); go_simp <;> (try with_reducible rfl)
      (try simp only [Act.put, List.setIfInBounds_toArray, List.set_cons_zero, List.set_cons_succ])
      refine wpAnyH_ready (rs := [10]) (by kernel_rfl) (by simp) ?_
      refine AllReadyH.cons (o := ({ dst := some 37, op := Op.call { callee := Callee.value (Operand.func 46), args := #[Operand.tmp 35, Operand.tmp 36], argTypes := #[40, 40] }, type := 40, pos := _, after := _, guard := some (7, true) } : Oper)) rfl (fun K hK => ?_) AllReadyH.nil
      go_simp
      refine (rMul _ _ _ _ _ own6.sees own6.sees (bl_bin _) (bl_bin _) (by omega) (by omega)).mono ?_
      rintro e w10 ⟨v10, rfl, own10, hb⟩
      rw [val_bl] at own10
      have c0 := cell_later hb c0
      have c1 := cell_later hb c1
      have own5 := own5.below hb
      have own6 := own6.below hb
      have hy := hy.trans (hb.mono hy.size)
      clear hb
      (try go_wp2_with fail)
      refine hK.out _ _ ?_ (fun hHeld => ?_)
      · (try dsimp only); exact ⟨c0, c1⟩
      clear hK K
      (try simp only [Act.put, List.setIfInBounds_toArray, List.set_cons_zero, List.set_cons_succ])
      refine wpAnyH_ready (rs := [12]) (by kernel_rfl) (by simp) ?_
      refine AllReadyH.cons (o := ({ dst := some 39, op := Op.call { callee := Callee.value (Operand.func 34), args := #[Operand.tmp 38], argTypes := #[39] }, type := 40, pos := _, after := _, guard := some (7, true) } : Oper)) rfl (fun K hK => ?_) AllReadyH.nil
      go_simp
      refine (rList _ _ _ B0 B1 B2 B3).mono ?_
      rintro e w11 ⟨v11, rfl, own11, hb⟩
      have own10 := own10.below hb
      have c0 := cell_later hb c0
      have c1 := cell_later hb c1
      have own5 := own5.below hb
      have own6 := own6.below hb
      have hy := hy.trans (hb.mono hy.size)
      clear hb
      (try go_wp2_with fail)
      refine hK.out _ _ ?_ (fun hHeld => ?_)
      · (try dsimp only); exact ⟨c0, c1⟩
      clear hK K
      (try simp only [Act.put, List.setIfInBounds_toArray, List.set_cons_zero, List.set_cons_succ])
      refine wpAnyH_ready (rs := [13]) (by kernel_rfl) (by simp) ?_
      refine AllReadyH.cons (o := ({ dst := some 40, op := Op.call { callee := Callee.value (Operand.func 41), args := #[Operand.tmp 37, Operand.tmp 39], argTypes := #[40, 40] }, type := 3, pos := _, after := _, guard := some (7, true) } : Oper)) rfl (fun K hK => ?_) AllReadyH.nil
      go_simp
      refine (rCmp _ _ _ _ _ own10.sees own11.sees (bl_bin _) (bl_bin _) (by omega) (by omega)).mono ?_
      rintro e w12 ⟨rfl, hb⟩
      rw [val_bl, val_bl]
      have c0 := cell_later hb c0
      have c1 := cell_later hb c1
      have own5 := own5.below hb
      have own6 := own6.below hb
      have hy := hy.trans (hb.mono hy.size)
      clear hb
      (try go_wp2_with fail)
      refine hK.out _ _ ?_ (fun hHeld => ?_)
      · (try dsimp only); exact ⟨c0, c1⟩
      clear hK K
      (try simp only [Act.put, List.setIfInBounds_toArray, List.set_cons_zero, List.set_cons_succ])
      refine wpAnyH_take (i := 14) (oi := ({ dst := some 41, op := Op.binOp BinOp.gtr 3 (Operand.tmp 40) (Operand.const (Value.int IntKind.i64 0)) 3, type := 4, pos := _, after := _, guard := some (7, true) } : Oper)) (v := ?_) rfl (by kernel_rfl) (by kernel_rfl) (by kernel_rfl) (fun _ _ _ h => h) (Or.inl ⟨by rfl, ?_⟩) (by assumption) ?_
      rotate_left
      · intro w' hSw; (try dsimp only at hSw); go_simp <;> (try with_reducible rfl)
      (try simp only [Act.put, List.setIfInBounds_toArray, List.set_cons_zero, List.set_cons_succ])
      refine wpAnyH_take (i := 15) (oi := ({ dst := some 42, op := Op.pick (Operand.tmp 34) (Operand.tmp 41) (Operand.const (Value.bool false)), type := 4, pos := _, after := _, guard := none } : Oper)) (v := ?_) rfl (by kernel_rfl) (by kernel_rfl) (by kernel_rfl) (fun _ _ _ h => h) (Or.inl ⟨by rfl, ?_⟩) (by assumption) ?_
      rotate_left
      · intro w' hSw; (try dsimp only at hSw); go_simp <;> (try with_reducible rfl)
      (try simp only [Act.put, List.setIfInBounds_toArray, List.set_cons_zero, List.set_cons_succ])
      refine wpAnyH_take (i := 16) (oi := ({ dst := some 43, op := Op.move (Operand.tmp 42), type := 4, pos := _, after := _, guard := none } : Oper)) (v := ?_) rfl (by kernel_rfl) (by kernel_rfl) (by kernel_rfl) (fun _ _ _ h => h) (Or.inl ⟨by rfl, ?_⟩) (by assumption) ?_
      rotate_left
      · intro w' hSw; (try dsimp only at hSw); go_simp <;> (try with_reducible rfl)
      (try simp only [Act.put, List.setIfInBounds_toArray, List.set_cons_zero, List.set_cons_succ])
      refine wpAnyH_take (i := 17) (oi := ({ dst := some 44, op := Op.move (Operand.tmp 8), type := 4, pos := _, after := _, guard := some (16, true) } : Oper)) (v := ?_) rfl (by kernel_rfl) (by kernel_rfl) (by kernel_rfl) (fun _ _ _ h => h) (Or.inl ⟨by rfl, ?_⟩) (by assumption) ?_
      rotate_left
      · intro w' hSw; (try dsimp only at hSw); go_simp <;> (try with_reducible rfl)
      (try simp only [Act.put, List.setIfInBounds_toArray, List.set_cons_zero, List.set_cons_succ])
      refine wpAnyH_take (i := 18) (oi := ({ dst := some 45, op := Op.move (Operand.tmp 7), type := 22, pos := _, after := _, guard := some (16, true) } : Oper)) (v := ?_) rfl (by kernel_rfl) (by kernel_rfl) (by kernel_rfl) (fun _ _ _ h => h) (Or.inl ⟨by rfl, ?_⟩) (by assumption) ?_
      rotate_left
      · intro w' hSw; (try dsimp only at hSw); go_simp <;> (try with_reducible rfl)
      (try simp only [Act.put, List.setIfInBounds_toArray, List.set_cons_zero, List.set_cons_succ])
      refine wpAnyH_take (i := 19) (oi := ({ dst := some 46, op := Op.move (Operand.tmp 7), type := 22, pos := _, after := _, guard := some (16, true) } : Oper)) (v := ?_) rfl (by kernel_rfl) (by kernel_rfl) (by kernel_rfl) (fun _ _ _ h => h) (Or.inl ⟨by rfl, ?_⟩) (by assumption) ?_
      rotate_left
      · intro w' hSw; (try dsimp only at hSw); go_simp <;> (try with_reducible rfl)
      (try simp only [Act.put, List.setIfInBounds_toArray, List.set_cons_zero, List.set_cons_succ])
      refine wpAnyH_take (i := 21) (oi := ({ dst := some 48, op := Op.load 39 (Operand.tmp 3), type := 39, pos := _, after := _, guard := some (16, true) } : Oper)) (v := ?_) rfl (by kernel_rfl) (by kernel_rfl) (by kernel_rfl) (fun _ _ _ h => h) (Or.inl ⟨by rfl, ?_⟩) (by assumption) ?_
      rotate_left
      · intro w' hSw; (try dsimp only at hSw); go_simp <;> (try with_reducible rfl)
      (try simp only [Act.put, List.setIfInBounds_toArray, List.set_cons_zero, List.set_cons_succ])
      refine wpAnyH_ready (rs := [20]) (by kernel_rfl) (by simp) ?_
      refine AllReadyH.cons (o := ({ dst := some 47, op := Op.call { callee := Callee.value (Operand.func 45), args := #[Operand.tmp 45, Operand.tmp 46], argTypes := #[22, 22] }, type := 39, pos := _, after := _, guard := some (16, true) } : Oper)) rfl (fun K hK => ?_) AllReadyH.nil
      go_simp
      refine (wMul r r _ r0 r1 r0 r1).mono ?_
      rintro e w13 ⟨h, l, rfl, k0, k1, k2, k3, k4, hb⟩
      obtain ⟨rfl, rfl⟩ := wid_inj H2 L2 h l e0 e1 e2 e3 k0 k1 k2 k3 (E4.out.trans k4.symm)
      clear k4
      have c0 := cell_later hb c0
      have c1 := cell_later hb c1
      have own5 := own5.below hb
      have own6 := own6.below hb
      have hy := hy.trans (hb.mono hy.size)
      clear hb
      (try go_wp2_with fail)
      refine hK.out _ _ ?_ (fun hHeld => ?_)
      · (try dsimp only); exact ⟨c0, c1⟩
      clear hK K
      (try simp only [Act.put, List.setIfInBounds_toArray, List.set_cons_zero, List.set_cons_succ])
      refine wpAnyH_take (i := 22) (oi := ({ dst := some 49, op := Op.binOp BinOp.eql 39 (Operand.tmp 47) (Operand.tmp 48) 39, type := 4, pos := _, after := _, guard := some (16, true) } : Oper)) (v := ?_) rfl (by kernel_rfl) (by kernel_rfl) (by kernel_rfl) (fun _ _ _ h => h) (Or.inl ⟨by rfl, ?_⟩) (by assumption) ?_
      rotate_left
      · intro w' hSw; (try dsimp only at hSw); go_simp <;> (try with_reducible rfl)
      (try simp only [Act.put, List.setIfInBounds_toArray, List.set_cons_zero, List.set_cons_succ])
      refine wpAnyH_take (i := 23) (oi := ({ dst := some 50, op := Op.binOp BinOp.eql 4 (Operand.tmp 44) (Operand.tmp 49) 4, type := 4, pos := _, after := _, guard := some (16, true) } : Oper)) (v := ?_) rfl (by kernel_rfl) (by kernel_rfl) (by kernel_rfl) (fun _ _ _ h => h) (Or.inl ⟨by rfl, ?_⟩) (by assumption) ?_
      rotate_left
      · intro w' hSw; (try dsimp only at hSw); go_simp <;> (try with_reducible rfl)
      (try simp only [Act.put, List.setIfInBounds_toArray, List.set_cons_zero, List.set_cons_succ])
      refine wpAnyH_take (i := 24) (oi := ({ dst := some 51, op := Op.pick (Operand.tmp 43) (Operand.tmp 50) (Operand.const (Value.bool false)), type := 4, pos := _, after := _, guard := none } : Oper)) (v := ?_) rfl (by kernel_rfl) (by kernel_rfl) (by kernel_rfl) (fun _ _ _ h => h) (Or.inl ⟨by rfl, ?_⟩) (by assumption) ?_
      rotate_left
      · intro w' hSw; (try dsimp only at hSw); go_simp <;> (try with_reducible rfl)
      (try simp only [Act.put, List.setIfInBounds_toArray, List.set_cons_zero, List.set_cons_succ])
      refine wpAnyH_take (i := 25) (oi := ({ dst := some 52, op := Op.move (Operand.tmp 51), type := 4, pos := _, after := _, guard := none } : Oper)) (v := ?_) rfl (by kernel_rfl) (by kernel_rfl) (by kernel_rfl) (fun _ _ _ h => h) (Or.inl ⟨by rfl, ?_⟩) (by assumption) ?_
      rotate_left
      · intro w' hSw; (try dsimp only at hSw); go_simp <;> (try with_reducible rfl)
      (try simp only [Act.put, List.setIfInBounds_toArray, List.set_cons_zero, List.set_cons_succ])
      refine wpAnyH_take (i := 26) (oi := ({ dst := some 53, op := Op.move (Operand.tmp 2), type := 4, pos := _, after := _, guard := some (25, true) } : Oper)) (v := ?_) rfl (by kernel_rfl) (by kernel_rfl) (by kernel_rfl) (fun _ _ _ h => h) (Or.inl ⟨by rfl, ?_⟩) (by assumption) ?_
      rotate_left
      · intro w' hSw; (try dsimp only at hSw); go_simp <;> (try with_reducible rfl)
      (try simp only [Act.put, List.setIfInBounds_toArray, List.set_cons_zero, List.set_cons_succ])
      refine wpAnyH_take (i := 27) (oi := ({ dst := some 54, op := Op.unOp UnOp.not 4 (Operand.tmp 53), type := 4, pos := _, after := _, guard := some (25, true) } : Oper)) (v := ?_) rfl (by kernel_rfl) (by kernel_rfl) (by kernel_rfl) (fun _ _ _ h => h) (Or.inl ⟨by rfl, ?_⟩) (by assumption) ?_
      rotate_left
      · intro w' hSw; (try dsimp only at hSw); go_simp <;> (try with_reducible rfl)
      (try simp only [Act.put, List.setIfInBounds_toArray, List.set_cons_zero, List.set_cons_succ])
      refine wpAnyH_take (i := 28) (oi := ({ dst := some 55, op := Op.move (Operand.tmp 54), type := 4, pos := _, after := _, guard := some (25, true) } : Oper)) (v := ?_) rfl (by kernel_rfl) (by kernel_rfl) (by kernel_rfl) (fun _ _ _ h => h) (Or.inl ⟨by rfl, ?_⟩) (by assumption) ?_
      rotate_left
      · intro w' hSw; (try dsimp only at hSw); go_simp <;> (try with_reducible rfl)
      (try simp only [Act.put, List.setIfInBounds_toArray, List.set_cons_zero, List.set_cons_succ])
      refine wpAnyH_take (i := 29) (oi := ({ dst := some 56, op := Op.move (Operand.tmp 8), type := 4, pos := _, after := _, guard := some (28, false) } : Oper)) (v := undef) rfl (by kernel_rfl) (by kernel_rfl) (by kernel_rfl) (fun _ _ _ h => h) (Or.inr ⟨by kernel_rfl, rfl⟩) (by assumption) ?_
      (try simp only [Act.put, List.setIfInBounds_toArray, List.set_cons_zero, List.set_cons_succ])
      refine wpAnyH_take (i := 30) (oi := ({ dst := some 57, op := Op.move (Operand.tmp 56), type := 4, pos := _, after := _, guard := some (28, false) } : Oper)) (v := undef) rfl (by kernel_rfl) (by kernel_rfl) (by kernel_rfl) (fun _ _ _ h => h) (Or.inr ⟨by kernel_rfl, rfl⟩) (by assumption) ?_
      (try simp only [Act.put, List.setIfInBounds_toArray, List.set_cons_zero, List.set_cons_succ])
      refine wpAnyH_take (i := 31) (oi := ({ dst := some 58, op := Op.move (Operand.tmp 7), type := 22, pos := _, after := _, guard := some (30, true) } : Oper)) (v := undef) rfl (by kernel_rfl) (by kernel_rfl) (by kernel_rfl) (fun _ _ _ h => h) (Or.inr ⟨by kernel_rfl, rfl⟩) (by assumption) ?_
      (try simp only [Act.put, List.setIfInBounds_toArray, List.set_cons_zero, List.set_cons_succ])
      refine wpAnyH_take (i := 32) (oi := ({ dst := some 59, op := Op.move (Operand.tmp 1), type := 22, pos := _, after := _, guard := some (30, true) } : Oper)) (v := undef) rfl (by kernel_rfl) (by kernel_rfl) (by kernel_rfl) (fun _ _ _ h => h) (Or.inr ⟨by kernel_rfl, rfl⟩) (by assumption) ?_
      (try simp only [Act.put, List.setIfInBounds_toArray, List.set_cons_zero, List.set_cons_succ])
      refine wpAnyH_take (i := 33) (oi := ({ dst := some 60, op := Op.binOp BinOp.eql 22 (Operand.tmp 58) (Operand.tmp 59) 22, type := 4, pos := _, after := _, guard := some (30, true) } : Oper)) (v := undef) rfl (by kernel_rfl) (by kernel_rfl) (by kernel_rfl) (fun _ _ _ h => h) (Or.inr ⟨by kernel_rfl, rfl⟩) (by assumption) ?_
      (try simp only [Act.put, List.setIfInBounds_toArray, List.set_cons_zero, List.set_cons_succ])
      refine wpAnyH_take (i := 34) (oi := ({ dst := some 61, op := Op.pick (Operand.tmp 57) (Operand.tmp 60) (Operand.const (Value.bool false)), type := 4, pos := _, after := _, guard := some (28, false) } : Oper)) (v := undef) rfl (by kernel_rfl) (by kernel_rfl) (by kernel_rfl) (fun _ _ _ h => h) (Or.inr ⟨by kernel_rfl, rfl⟩) (by assumption) ?_
      (try simp only [Act.put, List.setIfInBounds_toArray, List.set_cons_zero, List.set_cons_succ])
      refine wpAnyH_take (i := 35) (oi := ({ dst := some 62, op := Op.pick (Operand.tmp 55) (Operand.const (Value.bool true)) (Operand.tmp 61), type := 4, pos := _, after := _, guard := some (25, true) } : Oper)) (v := ?_) rfl (by kernel_rfl) (by kernel_rfl) (by kernel_rfl) (fun _ _ _ h => h) (Or.inl ⟨by rfl, ?_⟩) (by assumption) ?_
      rotate_left
      · intro w' hSw; (try dsimp only at hSw); go_simp <;> (try with_reducible rfl)
      (try simp only [Act.put, List.setIfInBounds_toArray, List.set_cons_zero, List.set_cons_succ])
      refine wpAnyH_take (i := 36) (oi := ({ dst := some 63, op := Op.pick (Operand.tmp 52) (Operand.tmp 62) (Operand.const (Value.bool false)), type := 4, pos := _, after := _, guard := none } : Oper)) (v := ?_) rfl (by kernel_rfl) (by kernel_rfl) (by kernel_rfl) (fun _ _ _ h => h) (Or.inl ⟨by rfl, ?_⟩) (by assumption) ?_
      rotate_left
      · intro w' hSw; (try dsimp only at hSw); go_simp <;> (try with_reducible rfl)
      (try simp only [Act.put, List.setIfInBounds_toArray, List.set_cons_zero, List.set_cons_succ])
      refine wpAnyH_take (i := 37) (oi := ({ dst := some 6, op := Op.assign (Operand.tmp 63), type := 4, pos := _, after := _, guard := none } : Oper)) (v := ?_) rfl (by kernel_rfl) (by kernel_rfl) (by kernel_rfl) (fun _ _ _ h => h) (Or.inl ⟨by rfl, ?_⟩) (by assumption) ?_
      rotate_left
      · intro w' hSw; (try dsimp only at hSw); go_simp <;> (try with_reducible rfl)
      (try simp only [Act.put, List.setIfInBounds_toArray, List.set_cons_zero, List.set_cons_succ])
      refine wpAnyH_done (by kernel_rfl) ?_ _
      refine NoPanic.normal ?_
      go_wp2
      go_ret
      exact ⟨ret_eq rfl, hx6.trans (hy.mono hz6)⟩
  · go_enter Try.func13, Try.ntmps13
    go_wp2_with fail
    refine (rHead2 _).mono ?_
    rintro e w2 ⟨rfl, hb2⟩
    have f0 := hb2.cell (p := ⟨w.heap.size, 0, none⟩) (by simp)
    have f1 := hb2.cell (p := ⟨w.heap.size, 1, none⟩) (by simp)
    have f2 := hb2.frozen (p := ⟨w.heap.size, 0, none⟩) (by simp)
    have f3 := hb2.frozen (p := ⟨w.heap.size, 1, none⟩) (by simp)
    simp [go_sem] at f0 f1 f2 f3
    have hz2 : w.heap.size < w2.heap.size := by have := hb2.size; simp at this; omega
    have hx2 : Below w.heap.size w w2 := ((Below.refl _ _).alloc (Nat.le_refl _) _).trans (hb2.mono (by simp))
    clear hb2
    go_wp2_with fail
    refine (wMul _ _ _ n0 n1' n0 n1').mono ?_
    rintro e w3 ⟨hs, ls, rfl, s0, s1, s2, s3, s4, hb3⟩
    have f0 := cell_later hb3 f0
    have f1 := cell_later hb3 f1
    have f2 := (hb3.frozen (p := ⟨w.heap.size, 0, none⟩) hz2).trans f2
    have f3 := (hb3.frozen (p := ⟨w.heap.size, 1, none⟩) hz2).trans f3
    have hz3 : w.heap.size < w3.heap.size := by have := hb3.size; omega
    have hx3 : Below w.heap.size w w3 := hx2.trans (hb3.mono (by omega))
    have S4 : Hid (_ = _) := s4
    clear hb3 s4 hx2
    go_wp2_with fail
    refine (wSqrt _ _ _ s0 s1 s2 s3).mono ?_
    rintro e w4 ⟨r, rfl, r0, r1, r2, r3, hb4⟩
    have c0 := hb4.cell (p := ⟨w.heap.size, 0, none⟩) (by first | omega | (simp; omega))
    have c1 := hb4.cell (p := ⟨w.heap.size, 1, none⟩) (by first | omega | (simp; omega))
    simp [go_sem, f0, f1] at c0 c1
    have hz4 : w.heap.size < w4.heap.size := by have := hb4.size; (try simp at this); omega
    have hx4 : Below w.heap.size w w4 := ((hx3.setCell (Nat.le_refl _) _).setCell (Nat.le_refl _) _).trans (hb4.mono (by first | omega | (simp; omega)))
    clear hb4 f0 f1 f2 f3 hz3
    have hA := wid_lt hs ls s0 s1 s2 s3
    have B0 := s0
    have B1 := s1
    have B2 := s2
    have B3 := s3
    obtain ⟨H2, L2, e0, e1, e2, e3, e4⟩ := wid_ex (r.toNat * r.toNat) (root_lt _ _ hA r2)
    have E4 : Hid (_ = _) := e4
    clear e4
    have hc1 : cmpI (r.toNat * r.toNat) (wid hs ls) ≤ 0 := of_decide_eq_true (cmp_le _ _ r2)
    have hc2 : 0 < cmpI ((r.toNat + 1) * (r.toNat + 1)) (wid hs ls) := of_decide_eq_true (cmp_gt _ _ r3)
    have hl5 : (bl r.toNat).length ≤ 64 := (bl_length_le _ 64).2 (by omega)
    have hl6 : (bl (r.toNat + 1)).length ≤ 65 := (bl_length_le _ 65).2 (by omega)
    have hl7 : (bl (r.toNat * r.toNat)).length ≤ 128 := (bl_length_le _ 128).2 (root_lt _ _ hA r2)
    have hl10 : (bl ((r.toNat + 1) * (r.toNat + 1))).length ≤ 130 := by
      refine (bl_length_le _ 130).2 ?_
      have : (r.toNat + 1) * (r.toNat + 1) ≤ 18446744073709551616 * 18446744073709551616 := Nat.mul_le_mul (by omega) (by omega)
      omega
    have hl8 : (bl (wid hs ls)).length ≤ 128 := (bl_length_le _ 128).2 hA
    have hra : r.toNat = a1.toNat := root_uniq _ _ (by rw [← S4.out]; exact r2) (by rw [← S4.out]; exact r3)
    obtain rfl : r = a1 := by omega
    obtain ⟨rfl, rfl⟩ := wid_inj H2 L2 hs ls e0 e1 e2 e3 s0 s1 s2 s3 (E4.out.trans S4.out.symm)
    have D : decide (r.toNat * r.toNat = wid H2 L2) = true := by rw [decide_eq_true_eq, E4.out]
    rw [D]
    clear D hra
    go_wp2_with fail
    refine (rOf _ _ r0 r1).mono ?_
    rintro e w5 ⟨v5, rfl, own5, hb5⟩
    have c0 := cell_later hb5 c0
    have c1 := cell_later hb5 c1
    have hx5 : Below w.heap.size w w5 := hx4.trans (hb5.mono (by omega))
    have hz5 : w.heap.size < w5.heap.size := by have := hb5.size; omega
    clear hb5
    go_wp2_with fail
    refine (rAdd _ _ _ _ _ (own5.sees.alloc _) (Own.one w5 w5.heap.size 1 (Nat.le_refl _)).sees (bl_bin _) (Bin.mk (Or.inr rfl) Bin.nil) (by omega) (by simp)).mono ?_
    rintro e w6 ⟨v6, rfl, own6, hb6⟩
    rw [val_bl, show val [1] = 1 by decide] at own6
    have hy6 : Below w5.heap.size w5 w6 := ((Below.refl _ _).alloc (Nat.le_refl _) _).trans (hb6.mono (by simp))
    have c0 := cell_later hy6 c0
    have c1 := cell_later hy6 c1
    have hx6 : Below w.heap.size w w6 := hx5.trans (hy6.mono (by omega))
    have hz6 : w.heap.size ≤ w6.heap.size := by have := hy6.size; omega
    have own5 := (own5.below hy6).below ((Below.refl w6.heap.size w6).drew)
    have own6 := own6.below ((Below.refl w6.heap.size w6).drew)
    have hy := (Below.refl w6.heap.size w6).drew
    clear hb6 hy6
    go_wp2_with fail
    have c0 : w6.drew.cell? ⟨w.heap.size, 0, none⟩ = some (.int .u64 H2) := c0
    have c1 : w6.drew.cell? ⟨w.heap.size, 1, none⟩ = some (.int .u64 L2) := c1
    go_region_held3 (fun w' => w'.cell? ⟨w.heap.size, 0, none⟩ = some (.int .u64 H2) ∧ w'.cell? ⟨w.heap.size, 1, none⟩ = some (.int .u64 L2)) (simp [go_sem, *])
      (first
        | (go_at_call_of 46 v5; refine (rMul _ _ _ _ _ own5.sees own5.sees (bl_bin _) (bl_bin _) (by omega) (by omega)).mono ?_; rintro e w7 ⟨v7, rfl, own7, hb⟩; rw [val_bl] at own7; have c0 := cell_later hb c0; have c1 := cell_later hb c1; have own5 := own5.below hb; have own6 := own6.below hb; have hy := hy.trans (hb.mono hy.size); clear hb)
        | (go_at_call_of 46 v6; refine (rMul _ _ _ _ _ own6.sees own6.sees (bl_bin _) (bl_bin _) (by omega) (by omega)).mono ?_; rintro e w10 ⟨v10, rfl, own10, hb⟩; rw [val_bl] at own10; have c0 := cell_later hb c0; have c1 := cell_later hb c1; have own5 := own5.below hb; have own6 := own6.below hb; have hy := hy.trans (hb.mono hy.size); clear hb)
        | (go_at_call 34; refine (rList _ _ _ B0 B1 B2 B3).mono ?_; rintro e w8 ⟨v8, rfl, own8, hb⟩; (try have own7 := own7.below hb); (try have own10 := own10.below hb); have c0 := cell_later hb c0; have c1 := cell_later hb c1; have own5 := own5.below hb; have own6 := own6.below hb; have hy := hy.trans (hb.mono hy.size); clear hb)
        | (go_at_call_of 41 v7; refine (rCmp _ _ _ _ _ own7.sees own8.sees (bl_bin _) (bl_bin _) (by omega) (by omega)).mono ?_; rintro e w9 ⟨rfl, hb⟩; rw [val_bl, val_bl]; have c0 := cell_later hb c0; have c1 := cell_later hb c1; have own5 := own5.below hb; have own6 := own6.below hb; have hy := hy.trans (hb.mono hy.size); clear hb)
        | (go_at_call_of 41 v10; refine (rCmp _ _ _ _ _ own10.sees own8.sees (bl_bin _) (bl_bin _) (by omega) (by omega)).mono ?_; rintro e w12 ⟨rfl, hb⟩; rw [val_bl, val_bl]; have c0 := cell_later hb c0; have c1 := cell_later hb c1; have own5 := own5.below hb; have own6 := own6.below hb; have hy := hy.trans (hb.mono hy.size); clear hb)
        | (go_at_call 45; refine (wMul r r _ r0 r1 r0 r1).mono ?_; rintro e w13 ⟨h, l, rfl, k0, k1, k2, k3, k4, hb⟩; obtain ⟨rfl, rfl⟩ := wid_inj H2 L2 h l e0 e1 e2 e3 k0 k1 k2 k3 (E4.out.trans k4.symm); have c0 := cell_later hb c0; have c1 := cell_later hb c1; have own5 := own5.below hb; have own6 := own6.below hb; have hy := hy.trans (hb.mono hy.size); clear hb k4))
    go_wp2
    go_ret
    exact ⟨ret_eq rfl, hx6.trans (hy.mono hz6)⟩

/-! ### THE ROW's STEP -/
set_option maxRecDepth 100000 in
theorem lifted (os : Os) (started : os.Started) (H : Type) (enc : TypeId × Value → H) :
    ReturnsInHanded {} Try.checked os 13 .any (Rows.wideRootsSpec.pre6 enc Try.prog Try.f13 Rows.wideRootsRow.domain false) (Rows.wideRootsSpec.post enc Try.prog Try.f13 false true false false) := by
  refine returnsInHanded_of_change (C := Try.checked) own started (by kernel_rfl) Try.func13
    (ChangeSpec.witness6 (enc := enc) (C := Try.checked) false ⟨#[], #[.agg #[.int .u64 0, .int .u64 0], .int .u64 0, .bool false], []⟩ 8 (by kernel_rfl) (by kernel_rfl) (by kernel_rfl) (by kernel_rfl)) ?_
  intro W base args ds gs before hval0 hW hcnd _
  have hval : ∀ (j : Nat) t v, Try.f13.params[j]? = some t → args[j]? = some v → Value.okWide Try.prog W .any base t v := hval0
  have hW' := hW
  obtain ⟨p, q, hA0, hV, rfl, hfz, hnd⟩ := hW
  have hA : DataW.TrodAll enc Try.prog W 0 (fun _ => true) true Try.f13.params.toList args.toList ds p := hA0
  rw [Try.params13] at hA hval
  obtain ⟨v0, vs0, d0, ds0, p0, q0, hargs, rfl, rfl, h0, r0⟩ := trodAll_cons hA
  obtain ⟨v1, vs1, d1, ds1, p1, q1, rfl, rfl, rfl, h1, r1⟩ := trodAll_cons r0
  obtain ⟨v2, vs2, d2, ds2, p2, q2, rfl, rfl, rfl, h2, r2⟩ := trodAll_cons r1
  obtain ⟨rfl, rfl, rfl⟩ := trodAll_nil r2
  obtain rfl : args = #[v0, v1, v2] := by cases args; simp_all
  obtain ⟨rfl, rfl⟩ := trodVars_none hV
  obtain ⟨c00, c01, y00, y01, m0, rfl, rfl, rfl, hy00, hy01⟩ := open_agg2 Try.underlying39 (by kernel_rfl) cells39 (hval 0 39 v0 rfl rfl) h0
  obtain ⟨a0h, e00, rfl, w0h⟩ := DataW.trod_int Try.underlying22 hy00
  obtain ⟨a0l, e01, rfl, w0l⟩ := DataW.trod_int Try.underlying22 hy01
  simp at e00 e01
  subst e00 e01
  obtain ⟨a1, rfl, rfl, rfl, w1⟩ := open_int Try.underlying22 (hval 1 22 v1 rfl rfl) h1
  obtain ⟨a2, rfl, rfl, rfl⟩ := open_bool Try.underlying4 (hval 2 4 v2 rfl rfl) h2
  clear hA0 hval0
  have sr0 : ∀ (W' : World) (sp : Nat → Bool), DataW.Trod enc Try.prog W' 0 sp true 39 (.agg #[.int .u64 a0h, .int .u64 a0l]) (.agg [.lit (.int .u64 a0h), .lit (.int .u64 a0l)]) [] := fun W' sp =>
    shut_agg2 (y0 := (.lit (.int .u64 a0h), [])) (y1 := (.lit (.int .u64 a0l), [])) Try.underlying39 (by kernel_rfl) cells39 ⟨1, by simp [DataW.trod, Try.underlying22, w0h]⟩ ⟨1, by simp [DataW.trod, Try.underlying22, w0l]⟩
  refine (walk a0h a0l a1 a2 W w0h w0l w1).mono fun e W' ⟨he, bel⟩ => ?_
  subst he
  exact ⟨_, rfl, _, _, _, [], _, [], hW', trodAll_mk1 (shut_bool Try.underlying4 _), (trodAll_cons_mk (sr0 _ _) (trodAll_cons_mk (shut_int Try.underlying22 w1) (trodAll_cons_mk (shut_bool Try.underlying4 _) trodAll_mk0))), rfl, bel.frame _, fun h => by cases h⟩

theorem over : Rows.wideRootsRow.holds Try.pinned (OpenSpec.ofChange Rows.wideRootsSpec) :=
  OpenClaim.holds_of_wide 13 Try.f13 rfl rfl rfl rfl rfl rfl rfl ⟨rfl, rfl, rfl, rfl, rfl⟩ rfl rfl rfl rfl rfl (by kernel_rfl) Try.func13 (by kernel_rfl)
    (of_decide_eq_true (by kernel_rfl)) (by unfold Func.isWrapper; first | (rw [if_pos (by decide +kernel)]; kernel_rfl) | (rw [if_neg (by decide +kernel)]; exact ⟨rfl, rfl⟩))
    (fun os started H enc _ => lifted os started H enc)

/-- THE STATEMENT -/
theorem proved : Rows.WideRootsSaid :=
  over
#print axioms proved
end Go.Proofs.Ytaplnhnimplkdaa.wideRoots
