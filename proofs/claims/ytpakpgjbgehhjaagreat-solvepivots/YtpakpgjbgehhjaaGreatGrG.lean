/-
  Texts put together: AlignC AddC AddD SubC.
-/
import Derived.Test.YtpakpgjbgehhjaaGreatProg
import Derived.Test.YtpakpgjbgehhjaaGreatGrE
import Derived.Test.YtpakpgjbgehhjaaGreatGrF
import Derived.Laws.CopyOwn
import Derived.Deep.RegionHeld3
/-
  What align of package dyad returns. Conditions: lists are short, places small.
-/
namespace Go.Proofs.YtpakpgjbgehhjaaGreat
open Go.RowKit
set_option linter.unusedVariables false
set_option linter.unusedSimpArgs false

theorem keep_drew {w : World} {q : Addr} {v : Value} (h : w.cell? q = some v) : w.drew.cell? q = some v := h
theorem keep_set {w : World} {p q : Addr} {u v : Value} (h : w.cell? q = some v) (hp : p = q → u = v) : (w.setCell p u).cell? q = some v := by
  by_cases e : p = q
  · subst e; rw [← hp rfl]; exact World.cell?_setCell_same w p u h
  · exact (World.cell?_setCell_other w p q u e).trans h
theorem cell_some (w : World) (p q : Addr) (u : Value) : ((w.setCell p u).cell? q).isSome = (w.cell? q).isSome := by
  by_cases e : p = q
  · subst e
    cases h : w.cell? p with
    | some v => rw [World.cell?_setCell_same w p u h]; rfl
    | none =>
      unfold World.cell? World.setCell at *
      simp only [Array.getElem?_modify, if_true]
      cases h2 : w.heap[p.block]? with
      | none => rfl
      | some ob =>
        rw [h2] at h
        cases ob <;> simp_all
  · rw [World.cell?_setCell_other w p q u e]
theorem cell_if (w : World) (p q : Addr) (u : Value) (h : (w.cell? p).isSome = true) : (w.setCell p u).cell? q = if p = q then some u else w.cell? q := by
  obtain ⟨v, hv⟩ := Option.isSome_iff_exists.1 h
  by_cases e : p = q
  · subst e; rw [if_pos rfl]; exact World.cell?_setCell_same w p u hv
  · rw [if_neg e]; exact World.cell?_setCell_other w p q u e
set_option maxHeartbeats 10000000 in
theorem dAlign (na nb : Bool) (A1 A2 : Option Addr) (n1 n2 c1 c2 : Nat) (p q : Int) (w : World) (l1 : n1 ≤ 1000000) (l2 : n2 ≤ 1000000) (p0 : -1000000 ≤ p) (p1 : p ≤ 1000000) (q0 : -1000000 ≤ q) (q1 : q ≤ 1000000) :
    Calls Tryz.prog 71 #[.agg #[.bool na, .slice A1 n1 c1, .int .i64 p, .slice none 0 0], .agg #[.bool nb, .slice A2 n2 c2, .int .i64 q, .slice none 0 0]] w fun e w' => ∃ (bot : Int) (i k N : Nat), e = .returned (.tuple #[.agg #[.int .i64 bot, .slice none 0 0], .int .i64 (i : Int), .int .i64 (k : Int), .int .i64 (N : Int)]) ∧ bot + i = p ∧ bot + k = q ∧ (i = 0 ∨ k = 0) ∧ N = max (i + n1) (k + n2) ∧ Below w.heap.size w w' := by
  have key : (∃ D : Int, 0 < D ∧ q = p + D) ∨ p = q ∨ (∃ D : Int, 0 < D ∧ p = q + D) := by
    rcases Int.lt_trichotomy p q with h | h | h
    · exact .inl ⟨q - p, by omega, by omega⟩
    · exact .inr (.inl h)
    · exact .inr (.inr ⟨p - q, by omega, by omega⟩)
  rcases key with ⟨D, hD, rfl⟩ | rfl | ⟨D, hD, rfl⟩
  · have d1 : ¬ D < 0 := by omega
    have d2 : 0 ≤ D := by omega
    have d3 : ¬ D ≤ 0 := by omega
    have wr1 : IntKind.i64.wrap (D + (n1 : Int)) = D + (n1 : Int) := by rw [IntKind.wrap_i64]; omega
    have wr2 : IntKind.i64.wrap (D + (n2 : Int)) = D + (n2 : Int) := by rw [IntKind.wrap_i64]; omega
    have wr3 : IntKind.i64.wrap (n1 : Int) = (n1 : Int) := by rw [IntKind.wrap_i64]; omega
    have wr4 : IntKind.i64.wrap (n2 : Int) = (n2 : Int) := by rw [IntKind.wrap_i64]; omega
    by_cases hN : (n1 : Int) < D + (n2 : Int)
    · skip
      go_enter Tryz.func71, Tryz.ntmps71
      go_wp2_with fail
      refine (dMinus _ _ _ (by omega) (by omega) (by omega) (by omega)).mono ?_
      rintro e w1 ⟨rfl, hb1⟩
      rw [show p - (p + D) = -D by omega]
      obtain ⟨hc1, hf1⟩ := bcell hb1
      have hz1 : w.heap.size + 2 < w1.heap.size := by have := hb1.size; simp at this; omega
      have hv1 : w.heap.size + 1 + 1 < w1.heap.size := by omega
      have hy1 : w.heap.size + 1 < w1.heap.size := by omega
      have hw1 : w.heap.size < w1.heap.size := by omega
      have hx1 : Below w.heap.size w w1 := Below.trans (by repeat (first | (refine Below.drew ?_) | (refine Below.alloc ?_ (by first | omega | (simp <;> omega)) _) | (refine Below.setCell ?_ (by first | omega | (simp <;> omega)) _) | exact Below.refl _ _)) (hb1.mono (by first | omega | (simp <;> omega)))
      clear hb1
      go_wp2_with fail
      refine (dNear _ _ (by omega) (by omega)).mono ?_
      rintro e w2 ⟨rfl, hb2⟩
      obtain ⟨hc2, hf2⟩ := bcell hb2
      have hz2 : w.heap.size + 2 < w2.heap.size := by have := hb2.size; omega
      have hv2 : w.heap.size + 1 + 1 < w2.heap.size := by omega
      have hy2 : w.heap.size + 1 < w2.heap.size := by omega
      have hw2 : w.heap.size < w2.heap.size := by omega
      have hx2 : Below w.heap.size w w2 := Below.trans (by repeat (first | exact hx1 | (refine Below.drew ?_) | (refine Below.alloc ?_ (by first | omega | (simp <;> omega)) _) | (refine Below.setCell ?_ (by first | omega | (simp <;> omega)) _) | exact Below.refl _ _)) (hb2.mono (by first | omega | (simp <;> omega)))
      clear hb2
      go_wp2_with fail
      have b0 : w2.cell? ⟨w.heap.size + 1 + 1, 0, none⟩ = some (.int .i64 0) := by simp [go_sem, *]
      have b1 : w2.cell? ⟨w.heap.size + 1 + 1, 1, none⟩ = some (.slice none 0 0) := by simp [go_sem, *]
      have b2 : w2.cell? ⟨w.heap.size, 1, none⟩ = some (.slice A1 n1 c1) := by simp [go_sem, *]
      have b3 : w2.cell? ⟨w.heap.size + 1, 1, none⟩ = some (.slice A2 n2 c2) := by simp [go_sem, *]
      have f0 : w2.frozen? ⟨w.heap.size + 1 + 1, 0, none⟩ = false := by simp [go_sem, *]
      have f1 : w2.frozen? ⟨w.heap.size + 1 + 1, 1, none⟩ = false := by simp [go_sem, *]
      have s0 : ((w2.setCell ⟨w.heap.size + 1 + 1, 0, none⟩ (.int .i64 p)).setCell ⟨w.heap.size + 1 + 1, 1, none⟩ (.slice none 0 0)).cell? ⟨w.heap.size + 1 + 1, 0, none⟩ = some (.int .i64 p) := by simp [cell_some, cell_if, b0, b1]
      have s1 : ((w2.setCell ⟨w.heap.size + 1 + 1, 0, none⟩ (.int .i64 p)).setCell ⟨w.heap.size + 1 + 1, 1, none⟩ (.slice none 0 0)).cell? ⟨w.heap.size + 1 + 1, 1, none⟩ = some (.slice none 0 0) := by simp [cell_some, cell_if, b0, b1]
      have s2 : ((w2.setCell ⟨w.heap.size + 1 + 1, 0, none⟩ (.int .i64 p)).setCell ⟨w.heap.size + 1 + 1, 1, none⟩ (.slice none 0 0)).cell? ⟨w.heap.size, 1, none⟩ = some (.slice A1 n1 c1) := by simp [cell_some, cell_if, b0, b1, b2]
      have s3 : ((w2.setCell ⟨w.heap.size + 1 + 1, 0, none⟩ (.int .i64 p)).setCell ⟨w.heap.size + 1 + 1, 1, none⟩ (.slice none 0 0)).cell? ⟨w.heap.size + 1, 1, none⟩ = some (.slice A2 n2 c2) := by simp [cell_some, cell_if, b0, b1, b3]
      have g0 : ((w2.setCell ⟨w.heap.size + 1 + 1, 0, none⟩ (.int .i64 p)).setCell ⟨w.heap.size + 1 + 1, 1, none⟩ (.slice none 0 0)).frozen? ⟨w.heap.size + 1 + 1, 0, none⟩ = false := by simp [go_sem, f0]
      have g1 : ((w2.setCell ⟨w.heap.size + 1 + 1, 0, none⟩ (.int .i64 p)).setCell ⟨w.heap.size + 1 + 1, 1, none⟩ (.slice none 0 0)).frozen? ⟨w.heap.size + 1 + 1, 1, none⟩ = false := by simp [go_sem, f1]
      have hx3 : Below w.heap.size w ((w2.setCell ⟨w.heap.size + 1 + 1, 0, none⟩ (.int .i64 p)).setCell ⟨w.heap.size + 1 + 1, 1, none⟩ (.slice none 0 0)) := (by repeat (first | exact hx2 | (refine Below.drew ?_) | (refine Below.alloc ?_ (by first | omega | (simp <;> omega)) _) | (refine Below.setCell ?_ (by first | omega | (simp <;> omega)) _) | exact Below.refl _ _))
      clear b0 b1 b2 b3 f0 f1 hx2 hc1 hf1 hc2 hf2
      generalize (w2.setCell ⟨w.heap.size + 1 + 1, 0, none⟩ (.int .i64 p)).setCell ⟨w.heap.size + 1 + 1, 1, none⟩ (.slice none 0 0) = W at s0 s1 s2 s3 g0 g1 hx3 ⊢
      go_region_held3 (fun w' => w'.cell? ⟨w.heap.size, 1, none⟩ = some (.slice A1 n1 c1) ∧ w'.cell? ⟨w.heap.size + 1, 1, none⟩ = some (.slice A2 n2 c2) ∧ w'.cell? ⟨w.heap.size + 1 + 1, 0, none⟩ = some (.int .i64 p) ∧ w'.cell? ⟨w.heap.size + 1 + 1, 1, none⟩ = some (.slice none 0 0)) (refine ⟨?_, ?_, ?_, ?_⟩ <;> (first | (simp [go_sem, *]; done) | (refine keep_drew (keep_set (keep_set ?_ ?_) ?_) <;> simp [go_sem, *]))) (fail)
      all_goals go_wp2
      all_goals (try (exfalso; omega))
      all_goals
        refine bodyPost_ret (v := .tuple #[.agg #[.int .i64 p, .slice none 0 0], .int .i64 0, .int .i64 D, .int .i64 (D + (n2 : Int))]) (by simp [results, Tryz.results71, go_sem, *]) rfl ⟨p, 0, D.toNat, ((D + (n2 : Int))).toNat, by simp <;> omega, by omega, by omega, by omega, by omega, (by repeat (first | exact hx3 | (refine Below.drew ?_) | (refine Below.alloc ?_ (by first | omega | (simp <;> omega)) _) | (refine Below.setCell ?_ (by first | omega | (simp <;> omega)) _) | exact Below.refl _ _))⟩
    · skip
      go_enter Tryz.func71, Tryz.ntmps71
      go_wp2_with fail
      refine (dMinus _ _ _ (by omega) (by omega) (by omega) (by omega)).mono ?_
      rintro e w1 ⟨rfl, hb1⟩
      rw [show p - (p + D) = -D by omega]
      obtain ⟨hc1, hf1⟩ := bcell hb1
      have hz1 : w.heap.size + 2 < w1.heap.size := by have := hb1.size; simp at this; omega
      have hv1 : w.heap.size + 1 + 1 < w1.heap.size := by omega
      have hy1 : w.heap.size + 1 < w1.heap.size := by omega
      have hw1 : w.heap.size < w1.heap.size := by omega
      have hx1 : Below w.heap.size w w1 := Below.trans (by repeat (first | (refine Below.drew ?_) | (refine Below.alloc ?_ (by first | omega | (simp <;> omega)) _) | (refine Below.setCell ?_ (by first | omega | (simp <;> omega)) _) | exact Below.refl _ _)) (hb1.mono (by first | omega | (simp <;> omega)))
      clear hb1
      go_wp2_with fail
      refine (dNear _ _ (by omega) (by omega)).mono ?_
      rintro e w2 ⟨rfl, hb2⟩
      obtain ⟨hc2, hf2⟩ := bcell hb2
      have hz2 : w.heap.size + 2 < w2.heap.size := by have := hb2.size; omega
      have hv2 : w.heap.size + 1 + 1 < w2.heap.size := by omega
      have hy2 : w.heap.size + 1 < w2.heap.size := by omega
      have hw2 : w.heap.size < w2.heap.size := by omega
      have hx2 : Below w.heap.size w w2 := Below.trans (by repeat (first | exact hx1 | (refine Below.drew ?_) | (refine Below.alloc ?_ (by first | omega | (simp <;> omega)) _) | (refine Below.setCell ?_ (by first | omega | (simp <;> omega)) _) | exact Below.refl _ _)) (hb2.mono (by first | omega | (simp <;> omega)))
      clear hb2
      go_wp2_with fail
      have b0 : w2.cell? ⟨w.heap.size + 1 + 1, 0, none⟩ = some (.int .i64 0) := by simp [go_sem, *]
      have b1 : w2.cell? ⟨w.heap.size + 1 + 1, 1, none⟩ = some (.slice none 0 0) := by simp [go_sem, *]
      have b2 : w2.cell? ⟨w.heap.size, 1, none⟩ = some (.slice A1 n1 c1) := by simp [go_sem, *]
      have b3 : w2.cell? ⟨w.heap.size + 1, 1, none⟩ = some (.slice A2 n2 c2) := by simp [go_sem, *]
      have f0 : w2.frozen? ⟨w.heap.size + 1 + 1, 0, none⟩ = false := by simp [go_sem, *]
      have f1 : w2.frozen? ⟨w.heap.size + 1 + 1, 1, none⟩ = false := by simp [go_sem, *]
      have s0 : ((w2.setCell ⟨w.heap.size + 1 + 1, 0, none⟩ (.int .i64 p)).setCell ⟨w.heap.size + 1 + 1, 1, none⟩ (.slice none 0 0)).cell? ⟨w.heap.size + 1 + 1, 0, none⟩ = some (.int .i64 p) := by simp [cell_some, cell_if, b0, b1]
      have s1 : ((w2.setCell ⟨w.heap.size + 1 + 1, 0, none⟩ (.int .i64 p)).setCell ⟨w.heap.size + 1 + 1, 1, none⟩ (.slice none 0 0)).cell? ⟨w.heap.size + 1 + 1, 1, none⟩ = some (.slice none 0 0) := by simp [cell_some, cell_if, b0, b1]
      have s2 : ((w2.setCell ⟨w.heap.size + 1 + 1, 0, none⟩ (.int .i64 p)).setCell ⟨w.heap.size + 1 + 1, 1, none⟩ (.slice none 0 0)).cell? ⟨w.heap.size, 1, none⟩ = some (.slice A1 n1 c1) := by simp [cell_some, cell_if, b0, b1, b2]
      have s3 : ((w2.setCell ⟨w.heap.size + 1 + 1, 0, none⟩ (.int .i64 p)).setCell ⟨w.heap.size + 1 + 1, 1, none⟩ (.slice none 0 0)).cell? ⟨w.heap.size + 1, 1, none⟩ = some (.slice A2 n2 c2) := by simp [cell_some, cell_if, b0, b1, b3]
      have g0 : ((w2.setCell ⟨w.heap.size + 1 + 1, 0, none⟩ (.int .i64 p)).setCell ⟨w.heap.size + 1 + 1, 1, none⟩ (.slice none 0 0)).frozen? ⟨w.heap.size + 1 + 1, 0, none⟩ = false := by simp [go_sem, f0]
      have g1 : ((w2.setCell ⟨w.heap.size + 1 + 1, 0, none⟩ (.int .i64 p)).setCell ⟨w.heap.size + 1 + 1, 1, none⟩ (.slice none 0 0)).frozen? ⟨w.heap.size + 1 + 1, 1, none⟩ = false := by simp [go_sem, f1]
      have hx3 : Below w.heap.size w ((w2.setCell ⟨w.heap.size + 1 + 1, 0, none⟩ (.int .i64 p)).setCell ⟨w.heap.size + 1 + 1, 1, none⟩ (.slice none 0 0)) := (by repeat (first | exact hx2 | (refine Below.drew ?_) | (refine Below.alloc ?_ (by first | omega | (simp <;> omega)) _) | (refine Below.setCell ?_ (by first | omega | (simp <;> omega)) _) | exact Below.refl _ _))
      clear b0 b1 b2 b3 f0 f1 hx2 hc1 hf1 hc2 hf2
      generalize (w2.setCell ⟨w.heap.size + 1 + 1, 0, none⟩ (.int .i64 p)).setCell ⟨w.heap.size + 1 + 1, 1, none⟩ (.slice none 0 0) = W at s0 s1 s2 s3 g0 g1 hx3 ⊢
      go_region_held3 (fun w' => w'.cell? ⟨w.heap.size, 1, none⟩ = some (.slice A1 n1 c1) ∧ w'.cell? ⟨w.heap.size + 1, 1, none⟩ = some (.slice A2 n2 c2) ∧ w'.cell? ⟨w.heap.size + 1 + 1, 0, none⟩ = some (.int .i64 p) ∧ w'.cell? ⟨w.heap.size + 1 + 1, 1, none⟩ = some (.slice none 0 0)) (refine ⟨?_, ?_, ?_, ?_⟩ <;> (first | (simp [go_sem, *]; done) | (refine keep_drew (keep_set (keep_set ?_ ?_) ?_) <;> simp [go_sem, *]))) (fail)
      all_goals go_wp2
      all_goals (try (exfalso; omega))
      all_goals
        refine bodyPost_ret (v := .tuple #[.agg #[.int .i64 p, .slice none 0 0], .int .i64 0, .int .i64 D, .int .i64 (n1 : Int)]) (by simp [results, Tryz.results71, go_sem, *]) rfl ⟨p, 0, D.toNat, ((n1 : Int)).toNat, by simp <;> omega, by omega, by omega, by omega, by omega, (by repeat (first | exact hx3 | (refine Below.drew ?_) | (refine Below.alloc ?_ (by first | omega | (simp <;> omega)) _) | (refine Below.setCell ?_ (by first | omega | (simp <;> omega)) _) | exact Below.refl _ _))⟩
  · skip
    have wr3 : IntKind.i64.wrap (n1 : Int) = (n1 : Int) := by rw [IntKind.wrap_i64]; omega
    have wr4 : IntKind.i64.wrap (n2 : Int) = (n2 : Int) := by rw [IntKind.wrap_i64]; omega
    by_cases hN : (n1 : Int) < (n2 : Int)
    · skip
      go_enter Tryz.func71, Tryz.ntmps71
      go_wp2_with fail
      refine (dMinus _ _ _ (by omega) (by omega) (by omega) (by omega)).mono ?_
      rintro e w1 ⟨rfl, hb1⟩
      rw [show p - p = 0 by omega]
      obtain ⟨hc1, hf1⟩ := bcell hb1
      have hz1 : w.heap.size + 2 < w1.heap.size := by have := hb1.size; simp at this; omega
      have hv1 : w.heap.size + 1 + 1 < w1.heap.size := by omega
      have hy1 : w.heap.size + 1 < w1.heap.size := by omega
      have hw1 : w.heap.size < w1.heap.size := by omega
      have hx1 : Below w.heap.size w w1 := Below.trans (by repeat (first | (refine Below.drew ?_) | (refine Below.alloc ?_ (by first | omega | (simp <;> omega)) _) | (refine Below.setCell ?_ (by first | omega | (simp <;> omega)) _) | exact Below.refl _ _)) (hb1.mono (by first | omega | (simp <;> omega)))
      clear hb1
      go_wp2_with fail
      refine (dNear _ _ (by omega) (by omega)).mono ?_
      rintro e w2 ⟨rfl, hb2⟩
      obtain ⟨hc2, hf2⟩ := bcell hb2
      have hz2 : w.heap.size + 2 < w2.heap.size := by have := hb2.size; omega
      have hv2 : w.heap.size + 1 + 1 < w2.heap.size := by omega
      have hy2 : w.heap.size + 1 < w2.heap.size := by omega
      have hw2 : w.heap.size < w2.heap.size := by omega
      have hx2 : Below w.heap.size w w2 := Below.trans (by repeat (first | exact hx1 | (refine Below.drew ?_) | (refine Below.alloc ?_ (by first | omega | (simp <;> omega)) _) | (refine Below.setCell ?_ (by first | omega | (simp <;> omega)) _) | exact Below.refl _ _)) (hb2.mono (by first | omega | (simp <;> omega)))
      clear hb2
      go_wp2_with fail
      have b0 : w2.cell? ⟨w.heap.size + 1 + 1, 0, none⟩ = some (.int .i64 0) := by simp [go_sem, *]
      have b1 : w2.cell? ⟨w.heap.size + 1 + 1, 1, none⟩ = some (.slice none 0 0) := by simp [go_sem, *]
      have b2 : w2.cell? ⟨w.heap.size, 1, none⟩ = some (.slice A1 n1 c1) := by simp [go_sem, *]
      have b3 : w2.cell? ⟨w.heap.size + 1, 1, none⟩ = some (.slice A2 n2 c2) := by simp [go_sem, *]
      have f0 : w2.frozen? ⟨w.heap.size + 1 + 1, 0, none⟩ = false := by simp [go_sem, *]
      have f1 : w2.frozen? ⟨w.heap.size + 1 + 1, 1, none⟩ = false := by simp [go_sem, *]
      have s0 : ((w2.setCell ⟨w.heap.size + 1 + 1, 0, none⟩ (.int .i64 p)).setCell ⟨w.heap.size + 1 + 1, 1, none⟩ (.slice none 0 0)).cell? ⟨w.heap.size + 1 + 1, 0, none⟩ = some (.int .i64 p) := by simp [cell_some, cell_if, b0, b1]
      have s1 : ((w2.setCell ⟨w.heap.size + 1 + 1, 0, none⟩ (.int .i64 p)).setCell ⟨w.heap.size + 1 + 1, 1, none⟩ (.slice none 0 0)).cell? ⟨w.heap.size + 1 + 1, 1, none⟩ = some (.slice none 0 0) := by simp [cell_some, cell_if, b0, b1]
      have s2 : ((w2.setCell ⟨w.heap.size + 1 + 1, 0, none⟩ (.int .i64 p)).setCell ⟨w.heap.size + 1 + 1, 1, none⟩ (.slice none 0 0)).cell? ⟨w.heap.size, 1, none⟩ = some (.slice A1 n1 c1) := by simp [cell_some, cell_if, b0, b1, b2]
      have s3 : ((w2.setCell ⟨w.heap.size + 1 + 1, 0, none⟩ (.int .i64 p)).setCell ⟨w.heap.size + 1 + 1, 1, none⟩ (.slice none 0 0)).cell? ⟨w.heap.size + 1, 1, none⟩ = some (.slice A2 n2 c2) := by simp [cell_some, cell_if, b0, b1, b3]
      have g0 : ((w2.setCell ⟨w.heap.size + 1 + 1, 0, none⟩ (.int .i64 p)).setCell ⟨w.heap.size + 1 + 1, 1, none⟩ (.slice none 0 0)).frozen? ⟨w.heap.size + 1 + 1, 0, none⟩ = false := by simp [go_sem, f0]
      have g1 : ((w2.setCell ⟨w.heap.size + 1 + 1, 0, none⟩ (.int .i64 p)).setCell ⟨w.heap.size + 1 + 1, 1, none⟩ (.slice none 0 0)).frozen? ⟨w.heap.size + 1 + 1, 1, none⟩ = false := by simp [go_sem, f1]
      have hx3 : Below w.heap.size w ((w2.setCell ⟨w.heap.size + 1 + 1, 0, none⟩ (.int .i64 p)).setCell ⟨w.heap.size + 1 + 1, 1, none⟩ (.slice none 0 0)) := (by repeat (first | exact hx2 | (refine Below.drew ?_) | (refine Below.alloc ?_ (by first | omega | (simp <;> omega)) _) | (refine Below.setCell ?_ (by first | omega | (simp <;> omega)) _) | exact Below.refl _ _))
      clear b0 b1 b2 b3 f0 f1 hx2 hc1 hf1 hc2 hf2
      generalize (w2.setCell ⟨w.heap.size + 1 + 1, 0, none⟩ (.int .i64 p)).setCell ⟨w.heap.size + 1 + 1, 1, none⟩ (.slice none 0 0) = W at s0 s1 s2 s3 g0 g1 hx3 ⊢
      go_region_held3 (fun w' => w'.cell? ⟨w.heap.size, 1, none⟩ = some (.slice A1 n1 c1) ∧ w'.cell? ⟨w.heap.size + 1, 1, none⟩ = some (.slice A2 n2 c2) ∧ w'.cell? ⟨w.heap.size + 1 + 1, 0, none⟩ = some (.int .i64 p) ∧ w'.cell? ⟨w.heap.size + 1 + 1, 1, none⟩ = some (.slice none 0 0)) (refine ⟨?_, ?_, ?_, ?_⟩ <;> (first | (simp [go_sem, *]; done) | (refine keep_drew (keep_set (keep_set ?_ ?_) ?_) <;> simp [go_sem, *]))) (fail)
      all_goals go_wp2
      all_goals (try (exfalso; omega))
      all_goals
        refine bodyPost_ret (v := .tuple #[.agg #[.int .i64 p, .slice none 0 0], .int .i64 0, .int .i64 0, .int .i64 (n2 : Int)]) (by simp [results, Tryz.results71, go_sem, *]) rfl ⟨p, 0, 0, ((n2 : Int)).toNat, by simp <;> omega, by omega, by omega, by omega, by omega, (by repeat (first | exact hx3 | (refine Below.drew ?_) | (refine Below.alloc ?_ (by first | omega | (simp <;> omega)) _) | (refine Below.setCell ?_ (by first | omega | (simp <;> omega)) _) | exact Below.refl _ _))⟩
    · skip
      go_enter Tryz.func71, Tryz.ntmps71
      go_wp2_with fail
      refine (dMinus _ _ _ (by omega) (by omega) (by omega) (by omega)).mono ?_
      rintro e w1 ⟨rfl, hb1⟩
      rw [show p - p = 0 by omega]
      obtain ⟨hc1, hf1⟩ := bcell hb1
      have hz1 : w.heap.size + 2 < w1.heap.size := by have := hb1.size; simp at this; omega
      have hv1 : w.heap.size + 1 + 1 < w1.heap.size := by omega
      have hy1 : w.heap.size + 1 < w1.heap.size := by omega
      have hw1 : w.heap.size < w1.heap.size := by omega
      have hx1 : Below w.heap.size w w1 := Below.trans (by repeat (first | (refine Below.drew ?_) | (refine Below.alloc ?_ (by first | omega | (simp <;> omega)) _) | (refine Below.setCell ?_ (by first | omega | (simp <;> omega)) _) | exact Below.refl _ _)) (hb1.mono (by first | omega | (simp <;> omega)))
      clear hb1
      go_wp2_with fail
      refine (dNear _ _ (by omega) (by omega)).mono ?_
      rintro e w2 ⟨rfl, hb2⟩
      obtain ⟨hc2, hf2⟩ := bcell hb2
      have hz2 : w.heap.size + 2 < w2.heap.size := by have := hb2.size; omega
      have hv2 : w.heap.size + 1 + 1 < w2.heap.size := by omega
      have hy2 : w.heap.size + 1 < w2.heap.size := by omega
      have hw2 : w.heap.size < w2.heap.size := by omega
      have hx2 : Below w.heap.size w w2 := Below.trans (by repeat (first | exact hx1 | (refine Below.drew ?_) | (refine Below.alloc ?_ (by first | omega | (simp <;> omega)) _) | (refine Below.setCell ?_ (by first | omega | (simp <;> omega)) _) | exact Below.refl _ _)) (hb2.mono (by first | omega | (simp <;> omega)))
      clear hb2
      go_wp2_with fail
      have b0 : w2.cell? ⟨w.heap.size + 1 + 1, 0, none⟩ = some (.int .i64 0) := by simp [go_sem, *]
      have b1 : w2.cell? ⟨w.heap.size + 1 + 1, 1, none⟩ = some (.slice none 0 0) := by simp [go_sem, *]
      have b2 : w2.cell? ⟨w.heap.size, 1, none⟩ = some (.slice A1 n1 c1) := by simp [go_sem, *]
      have b3 : w2.cell? ⟨w.heap.size + 1, 1, none⟩ = some (.slice A2 n2 c2) := by simp [go_sem, *]
      have f0 : w2.frozen? ⟨w.heap.size + 1 + 1, 0, none⟩ = false := by simp [go_sem, *]
      have f1 : w2.frozen? ⟨w.heap.size + 1 + 1, 1, none⟩ = false := by simp [go_sem, *]
      have s0 : ((w2.setCell ⟨w.heap.size + 1 + 1, 0, none⟩ (.int .i64 p)).setCell ⟨w.heap.size + 1 + 1, 1, none⟩ (.slice none 0 0)).cell? ⟨w.heap.size + 1 + 1, 0, none⟩ = some (.int .i64 p) := by simp [cell_some, cell_if, b0, b1]
      have s1 : ((w2.setCell ⟨w.heap.size + 1 + 1, 0, none⟩ (.int .i64 p)).setCell ⟨w.heap.size + 1 + 1, 1, none⟩ (.slice none 0 0)).cell? ⟨w.heap.size + 1 + 1, 1, none⟩ = some (.slice none 0 0) := by simp [cell_some, cell_if, b0, b1]
      have s2 : ((w2.setCell ⟨w.heap.size + 1 + 1, 0, none⟩ (.int .i64 p)).setCell ⟨w.heap.size + 1 + 1, 1, none⟩ (.slice none 0 0)).cell? ⟨w.heap.size, 1, none⟩ = some (.slice A1 n1 c1) := by simp [cell_some, cell_if, b0, b1, b2]
      have s3 : ((w2.setCell ⟨w.heap.size + 1 + 1, 0, none⟩ (.int .i64 p)).setCell ⟨w.heap.size + 1 + 1, 1, none⟩ (.slice none 0 0)).cell? ⟨w.heap.size + 1, 1, none⟩ = some (.slice A2 n2 c2) := by simp [cell_some, cell_if, b0, b1, b3]
      have g0 : ((w2.setCell ⟨w.heap.size + 1 + 1, 0, none⟩ (.int .i64 p)).setCell ⟨w.heap.size + 1 + 1, 1, none⟩ (.slice none 0 0)).frozen? ⟨w.heap.size + 1 + 1, 0, none⟩ = false := by simp [go_sem, f0]
      have g1 : ((w2.setCell ⟨w.heap.size + 1 + 1, 0, none⟩ (.int .i64 p)).setCell ⟨w.heap.size + 1 + 1, 1, none⟩ (.slice none 0 0)).frozen? ⟨w.heap.size + 1 + 1, 1, none⟩ = false := by simp [go_sem, f1]
      have hx3 : Below w.heap.size w ((w2.setCell ⟨w.heap.size + 1 + 1, 0, none⟩ (.int .i64 p)).setCell ⟨w.heap.size + 1 + 1, 1, none⟩ (.slice none 0 0)) := (by repeat (first | exact hx2 | (refine Below.drew ?_) | (refine Below.alloc ?_ (by first | omega | (simp <;> omega)) _) | (refine Below.setCell ?_ (by first | omega | (simp <;> omega)) _) | exact Below.refl _ _))
      clear b0 b1 b2 b3 f0 f1 hx2 hc1 hf1 hc2 hf2
      generalize (w2.setCell ⟨w.heap.size + 1 + 1, 0, none⟩ (.int .i64 p)).setCell ⟨w.heap.size + 1 + 1, 1, none⟩ (.slice none 0 0) = W at s0 s1 s2 s3 g0 g1 hx3 ⊢
      go_region_held3 (fun w' => w'.cell? ⟨w.heap.size, 1, none⟩ = some (.slice A1 n1 c1) ∧ w'.cell? ⟨w.heap.size + 1, 1, none⟩ = some (.slice A2 n2 c2) ∧ w'.cell? ⟨w.heap.size + 1 + 1, 0, none⟩ = some (.int .i64 p) ∧ w'.cell? ⟨w.heap.size + 1 + 1, 1, none⟩ = some (.slice none 0 0)) (refine ⟨?_, ?_, ?_, ?_⟩ <;> (first | (simp [go_sem, *]; done) | (refine keep_drew (keep_set (keep_set ?_ ?_) ?_) <;> simp [go_sem, *]))) (fail)
      all_goals go_wp2
      all_goals (try (exfalso; omega))
      all_goals
        refine bodyPost_ret (v := .tuple #[.agg #[.int .i64 p, .slice none 0 0], .int .i64 0, .int .i64 0, .int .i64 (n1 : Int)]) (by simp [results, Tryz.results71, go_sem, *]) rfl ⟨p, 0, 0, ((n1 : Int)).toNat, by simp <;> omega, by omega, by omega, by omega, by omega, (by repeat (first | exact hx3 | (refine Below.drew ?_) | (refine Below.alloc ?_ (by first | omega | (simp <;> omega)) _) | (refine Below.setCell ?_ (by first | omega | (simp <;> omega)) _) | exact Below.refl _ _))⟩
  · have d1 : ¬ D < 0 := by omega
    have d2 : 0 ≤ D := by omega
    have d3 : ¬ D ≤ 0 := by omega
    have wr1 : IntKind.i64.wrap (D + (n1 : Int)) = D + (n1 : Int) := by rw [IntKind.wrap_i64]; omega
    have wr2 : IntKind.i64.wrap (D + (n2 : Int)) = D + (n2 : Int) := by rw [IntKind.wrap_i64]; omega
    have wr3 : IntKind.i64.wrap (n1 : Int) = (n1 : Int) := by rw [IntKind.wrap_i64]; omega
    have wr4 : IntKind.i64.wrap (n2 : Int) = (n2 : Int) := by rw [IntKind.wrap_i64]; omega
    by_cases hN : D + (n1 : Int) < (n2 : Int)
    · skip
      go_enter Tryz.func71, Tryz.ntmps71
      go_wp2_with fail
      refine (dMinus _ _ _ (by omega) (by omega) (by omega) (by omega)).mono ?_
      rintro e w1 ⟨rfl, hb1⟩
      rw [show q + D - q = D by omega]
      obtain ⟨hc1, hf1⟩ := bcell hb1
      have hz1 : w.heap.size + 2 < w1.heap.size := by have := hb1.size; simp at this; omega
      have hv1 : w.heap.size + 1 + 1 < w1.heap.size := by omega
      have hy1 : w.heap.size + 1 < w1.heap.size := by omega
      have hw1 : w.heap.size < w1.heap.size := by omega
      have hx1 : Below w.heap.size w w1 := Below.trans (by repeat (first | (refine Below.drew ?_) | (refine Below.alloc ?_ (by first | omega | (simp <;> omega)) _) | (refine Below.setCell ?_ (by first | omega | (simp <;> omega)) _) | exact Below.refl _ _)) (hb1.mono (by first | omega | (simp <;> omega)))
      clear hb1
      go_wp2_with fail
      refine (dNear _ _ (by omega) (by omega)).mono ?_
      rintro e w2 ⟨rfl, hb2⟩
      obtain ⟨hc2, hf2⟩ := bcell hb2
      have hz2 : w.heap.size + 2 < w2.heap.size := by have := hb2.size; omega
      have hv2 : w.heap.size + 1 + 1 < w2.heap.size := by omega
      have hy2 : w.heap.size + 1 < w2.heap.size := by omega
      have hw2 : w.heap.size < w2.heap.size := by omega
      have hx2 : Below w.heap.size w w2 := Below.trans (by repeat (first | exact hx1 | (refine Below.drew ?_) | (refine Below.alloc ?_ (by first | omega | (simp <;> omega)) _) | (refine Below.setCell ?_ (by first | omega | (simp <;> omega)) _) | exact Below.refl _ _)) (hb2.mono (by first | omega | (simp <;> omega)))
      clear hb2
      go_wp2_with fail
      have b0 : w2.cell? ⟨w.heap.size + 1 + 1, 0, none⟩ = some (.int .i64 0) := by simp [go_sem, *]
      have b1 : w2.cell? ⟨w.heap.size + 1 + 1, 1, none⟩ = some (.slice none 0 0) := by simp [go_sem, *]
      have b2 : w2.cell? ⟨w.heap.size, 1, none⟩ = some (.slice A1 n1 c1) := by simp [go_sem, *]
      have b3 : w2.cell? ⟨w.heap.size + 1, 1, none⟩ = some (.slice A2 n2 c2) := by simp [go_sem, *]
      have f0 : w2.frozen? ⟨w.heap.size + 1 + 1, 0, none⟩ = false := by simp [go_sem, *]
      have f1 : w2.frozen? ⟨w.heap.size + 1 + 1, 1, none⟩ = false := by simp [go_sem, *]
      have s0 : ((((w2.setCell ⟨w.heap.size + 1 + 1, 0, none⟩ (.int .i64 (q + D))).setCell ⟨w.heap.size + 1 + 1, 1, none⟩ (.slice none 0 0)).setCell ⟨w.heap.size + 1 + 1, 0, none⟩ (.int .i64 q)).setCell ⟨w.heap.size + 1 + 1, 1, none⟩ (.slice none 0 0)).cell? ⟨w.heap.size + 1 + 1, 0, none⟩ = some (.int .i64 q) := by simp [cell_some, cell_if, b0, b1]
      have s1 : ((((w2.setCell ⟨w.heap.size + 1 + 1, 0, none⟩ (.int .i64 (q + D))).setCell ⟨w.heap.size + 1 + 1, 1, none⟩ (.slice none 0 0)).setCell ⟨w.heap.size + 1 + 1, 0, none⟩ (.int .i64 q)).setCell ⟨w.heap.size + 1 + 1, 1, none⟩ (.slice none 0 0)).cell? ⟨w.heap.size + 1 + 1, 1, none⟩ = some (.slice none 0 0) := by simp [cell_some, cell_if, b0, b1]
      have s2 : ((((w2.setCell ⟨w.heap.size + 1 + 1, 0, none⟩ (.int .i64 (q + D))).setCell ⟨w.heap.size + 1 + 1, 1, none⟩ (.slice none 0 0)).setCell ⟨w.heap.size + 1 + 1, 0, none⟩ (.int .i64 q)).setCell ⟨w.heap.size + 1 + 1, 1, none⟩ (.slice none 0 0)).cell? ⟨w.heap.size, 1, none⟩ = some (.slice A1 n1 c1) := by simp [cell_some, cell_if, b0, b1, b2]
      have s3 : ((((w2.setCell ⟨w.heap.size + 1 + 1, 0, none⟩ (.int .i64 (q + D))).setCell ⟨w.heap.size + 1 + 1, 1, none⟩ (.slice none 0 0)).setCell ⟨w.heap.size + 1 + 1, 0, none⟩ (.int .i64 q)).setCell ⟨w.heap.size + 1 + 1, 1, none⟩ (.slice none 0 0)).cell? ⟨w.heap.size + 1, 1, none⟩ = some (.slice A2 n2 c2) := by simp [cell_some, cell_if, b0, b1, b3]
      have g0 : ((((w2.setCell ⟨w.heap.size + 1 + 1, 0, none⟩ (.int .i64 (q + D))).setCell ⟨w.heap.size + 1 + 1, 1, none⟩ (.slice none 0 0)).setCell ⟨w.heap.size + 1 + 1, 0, none⟩ (.int .i64 q)).setCell ⟨w.heap.size + 1 + 1, 1, none⟩ (.slice none 0 0)).frozen? ⟨w.heap.size + 1 + 1, 0, none⟩ = false := by simp [go_sem, f0]
      have g1 : ((((w2.setCell ⟨w.heap.size + 1 + 1, 0, none⟩ (.int .i64 (q + D))).setCell ⟨w.heap.size + 1 + 1, 1, none⟩ (.slice none 0 0)).setCell ⟨w.heap.size + 1 + 1, 0, none⟩ (.int .i64 q)).setCell ⟨w.heap.size + 1 + 1, 1, none⟩ (.slice none 0 0)).frozen? ⟨w.heap.size + 1 + 1, 1, none⟩ = false := by simp [go_sem, f1]
      have hx3 : Below w.heap.size w ((((w2.setCell ⟨w.heap.size + 1 + 1, 0, none⟩ (.int .i64 (q + D))).setCell ⟨w.heap.size + 1 + 1, 1, none⟩ (.slice none 0 0)).setCell ⟨w.heap.size + 1 + 1, 0, none⟩ (.int .i64 q)).setCell ⟨w.heap.size + 1 + 1, 1, none⟩ (.slice none 0 0)) := (by repeat (first | exact hx2 | (refine Below.drew ?_) | (refine Below.alloc ?_ (by first | omega | (simp <;> omega)) _) | (refine Below.setCell ?_ (by first | omega | (simp <;> omega)) _) | exact Below.refl _ _))
      clear b0 b1 b2 b3 f0 f1 hx2 hc1 hf1 hc2 hf2
      generalize (((w2.setCell ⟨w.heap.size + 1 + 1, 0, none⟩ (.int .i64 (q + D))).setCell ⟨w.heap.size + 1 + 1, 1, none⟩ (.slice none 0 0)).setCell ⟨w.heap.size + 1 + 1, 0, none⟩ (.int .i64 q)).setCell ⟨w.heap.size + 1 + 1, 1, none⟩ (.slice none 0 0) = W at s0 s1 s2 s3 g0 g1 hx3 ⊢
      go_region_held3 (fun w' => w'.cell? ⟨w.heap.size, 1, none⟩ = some (.slice A1 n1 c1) ∧ w'.cell? ⟨w.heap.size + 1, 1, none⟩ = some (.slice A2 n2 c2) ∧ w'.cell? ⟨w.heap.size + 1 + 1, 0, none⟩ = some (.int .i64 q) ∧ w'.cell? ⟨w.heap.size + 1 + 1, 1, none⟩ = some (.slice none 0 0)) (refine ⟨?_, ?_, ?_, ?_⟩ <;> (first | (simp [go_sem, *]; done) | (refine keep_drew (keep_set (keep_set ?_ ?_) ?_) <;> simp [go_sem, *]))) (fail)
      all_goals go_wp2
      all_goals (try (exfalso; omega))
      all_goals
        refine bodyPost_ret (v := .tuple #[.agg #[.int .i64 q, .slice none 0 0], .int .i64 D, .int .i64 0, .int .i64 (n2 : Int)]) (by simp [results, Tryz.results71, go_sem, *]) rfl ⟨q, D.toNat, 0, ((n2 : Int)).toNat, by simp <;> omega, by omega, by omega, by omega, by omega, (by repeat (first | exact hx3 | (refine Below.drew ?_) | (refine Below.alloc ?_ (by first | omega | (simp <;> omega)) _) | (refine Below.setCell ?_ (by first | omega | (simp <;> omega)) _) | exact Below.refl _ _))⟩
    · skip
      go_enter Tryz.func71, Tryz.ntmps71
      go_wp2_with fail
      refine (dMinus _ _ _ (by omega) (by omega) (by omega) (by omega)).mono ?_
      rintro e w1 ⟨rfl, hb1⟩
      rw [show q + D - q = D by omega]
      obtain ⟨hc1, hf1⟩ := bcell hb1
      have hz1 : w.heap.size + 2 < w1.heap.size := by have := hb1.size; simp at this; omega
      have hv1 : w.heap.size + 1 + 1 < w1.heap.size := by omega
      have hy1 : w.heap.size + 1 < w1.heap.size := by omega
      have hw1 : w.heap.size < w1.heap.size := by omega
      have hx1 : Below w.heap.size w w1 := Below.trans (by repeat (first | (refine Below.drew ?_) | (refine Below.alloc ?_ (by first | omega | (simp <;> omega)) _) | (refine Below.setCell ?_ (by first | omega | (simp <;> omega)) _) | exact Below.refl _ _)) (hb1.mono (by first | omega | (simp <;> omega)))
      clear hb1
      go_wp2_with fail
      refine (dNear _ _ (by omega) (by omega)).mono ?_
      rintro e w2 ⟨rfl, hb2⟩
      obtain ⟨hc2, hf2⟩ := bcell hb2
      have hz2 : w.heap.size + 2 < w2.heap.size := by have := hb2.size; omega
      have hv2 : w.heap.size + 1 + 1 < w2.heap.size := by omega
      have hy2 : w.heap.size + 1 < w2.heap.size := by omega
      have hw2 : w.heap.size < w2.heap.size := by omega
      have hx2 : Below w.heap.size w w2 := Below.trans (by repeat (first | exact hx1 | (refine Below.drew ?_) | (refine Below.alloc ?_ (by first | omega | (simp <;> omega)) _) | (refine Below.setCell ?_ (by first | omega | (simp <;> omega)) _) | exact Below.refl _ _)) (hb2.mono (by first | omega | (simp <;> omega)))
      clear hb2
      go_wp2_with fail
      have b0 : w2.cell? ⟨w.heap.size + 1 + 1, 0, none⟩ = some (.int .i64 0) := by simp [go_sem, *]
      have b1 : w2.cell? ⟨w.heap.size + 1 + 1, 1, none⟩ = some (.slice none 0 0) := by simp [go_sem, *]
      have b2 : w2.cell? ⟨w.heap.size, 1, none⟩ = some (.slice A1 n1 c1) := by simp [go_sem, *]
      have b3 : w2.cell? ⟨w.heap.size + 1, 1, none⟩ = some (.slice A2 n2 c2) := by simp [go_sem, *]
      have f0 : w2.frozen? ⟨w.heap.size + 1 + 1, 0, none⟩ = false := by simp [go_sem, *]
      have f1 : w2.frozen? ⟨w.heap.size + 1 + 1, 1, none⟩ = false := by simp [go_sem, *]
      have s0 : ((((w2.setCell ⟨w.heap.size + 1 + 1, 0, none⟩ (.int .i64 (q + D))).setCell ⟨w.heap.size + 1 + 1, 1, none⟩ (.slice none 0 0)).setCell ⟨w.heap.size + 1 + 1, 0, none⟩ (.int .i64 q)).setCell ⟨w.heap.size + 1 + 1, 1, none⟩ (.slice none 0 0)).cell? ⟨w.heap.size + 1 + 1, 0, none⟩ = some (.int .i64 q) := by simp [cell_some, cell_if, b0, b1]
      have s1 : ((((w2.setCell ⟨w.heap.size + 1 + 1, 0, none⟩ (.int .i64 (q + D))).setCell ⟨w.heap.size + 1 + 1, 1, none⟩ (.slice none 0 0)).setCell ⟨w.heap.size + 1 + 1, 0, none⟩ (.int .i64 q)).setCell ⟨w.heap.size + 1 + 1, 1, none⟩ (.slice none 0 0)).cell? ⟨w.heap.size + 1 + 1, 1, none⟩ = some (.slice none 0 0) := by simp [cell_some, cell_if, b0, b1]
      have s2 : ((((w2.setCell ⟨w.heap.size + 1 + 1, 0, none⟩ (.int .i64 (q + D))).setCell ⟨w.heap.size + 1 + 1, 1, none⟩ (.slice none 0 0)).setCell ⟨w.heap.size + 1 + 1, 0, none⟩ (.int .i64 q)).setCell ⟨w.heap.size + 1 + 1, 1, none⟩ (.slice none 0 0)).cell? ⟨w.heap.size, 1, none⟩ = some (.slice A1 n1 c1) := by simp [cell_some, cell_if, b0, b1, b2]
      have s3 : ((((w2.setCell ⟨w.heap.size + 1 + 1, 0, none⟩ (.int .i64 (q + D))).setCell ⟨w.heap.size + 1 + 1, 1, none⟩ (.slice none 0 0)).setCell ⟨w.heap.size + 1 + 1, 0, none⟩ (.int .i64 q)).setCell ⟨w.heap.size + 1 + 1, 1, none⟩ (.slice none 0 0)).cell? ⟨w.heap.size + 1, 1, none⟩ = some (.slice A2 n2 c2) := by simp [cell_some, cell_if, b0, b1, b3]
      have g0 : ((((w2.setCell ⟨w.heap.size + 1 + 1, 0, none⟩ (.int .i64 (q + D))).setCell ⟨w.heap.size + 1 + 1, 1, none⟩ (.slice none 0 0)).setCell ⟨w.heap.size + 1 + 1, 0, none⟩ (.int .i64 q)).setCell ⟨w.heap.size + 1 + 1, 1, none⟩ (.slice none 0 0)).frozen? ⟨w.heap.size + 1 + 1, 0, none⟩ = false := by simp [go_sem, f0]
      have g1 : ((((w2.setCell ⟨w.heap.size + 1 + 1, 0, none⟩ (.int .i64 (q + D))).setCell ⟨w.heap.size + 1 + 1, 1, none⟩ (.slice none 0 0)).setCell ⟨w.heap.size + 1 + 1, 0, none⟩ (.int .i64 q)).setCell ⟨w.heap.size + 1 + 1, 1, none⟩ (.slice none 0 0)).frozen? ⟨w.heap.size + 1 + 1, 1, none⟩ = false := by simp [go_sem, f1]
      have hx3 : Below w.heap.size w ((((w2.setCell ⟨w.heap.size + 1 + 1, 0, none⟩ (.int .i64 (q + D))).setCell ⟨w.heap.size + 1 + 1, 1, none⟩ (.slice none 0 0)).setCell ⟨w.heap.size + 1 + 1, 0, none⟩ (.int .i64 q)).setCell ⟨w.heap.size + 1 + 1, 1, none⟩ (.slice none 0 0)) := (by repeat (first | exact hx2 | (refine Below.drew ?_) | (refine Below.alloc ?_ (by first | omega | (simp <;> omega)) _) | (refine Below.setCell ?_ (by first | omega | (simp <;> omega)) _) | exact Below.refl _ _))
      clear b0 b1 b2 b3 f0 f1 hx2 hc1 hf1 hc2 hf2
      generalize (((w2.setCell ⟨w.heap.size + 1 + 1, 0, none⟩ (.int .i64 (q + D))).setCell ⟨w.heap.size + 1 + 1, 1, none⟩ (.slice none 0 0)).setCell ⟨w.heap.size + 1 + 1, 0, none⟩ (.int .i64 q)).setCell ⟨w.heap.size + 1 + 1, 1, none⟩ (.slice none 0 0) = W at s0 s1 s2 s3 g0 g1 hx3 ⊢
      go_region_held3 (fun w' => w'.cell? ⟨w.heap.size, 1, none⟩ = some (.slice A1 n1 c1) ∧ w'.cell? ⟨w.heap.size + 1, 1, none⟩ = some (.slice A2 n2 c2) ∧ w'.cell? ⟨w.heap.size + 1 + 1, 0, none⟩ = some (.int .i64 q) ∧ w'.cell? ⟨w.heap.size + 1 + 1, 1, none⟩ = some (.slice none 0 0)) (refine ⟨?_, ?_, ?_, ?_⟩ <;> (first | (simp [go_sem, *]; done) | (refine keep_drew (keep_set (keep_set ?_ ?_) ?_) <;> simp [go_sem, *]))) (fail)
      all_goals go_wp2
      all_goals (try (exfalso; omega))
      all_goals
        refine bodyPost_ret (v := .tuple #[.agg #[.int .i64 q, .slice none 0 0], .int .i64 D, .int .i64 0, .int .i64 (D + (n1 : Int))]) (by simp [results, Tryz.results71, go_sem, *]) rfl ⟨q, D.toNat, 0, ((D + (n1 : Int))).toNat, by simp <;> omega, by omega, by omega, by omega, by omega, (by repeat (first | exact hx3 | (refine Below.drew ?_) | (refine Below.alloc ?_ (by first | omega | (simp <;> omega)) _) | (refine Below.setCell ?_ (by first | omega | (simp <;> omega)) _) | exact Below.refl _ _))⟩
end Go.Proofs.YtpakpgjbgehhjaaGreat

/-
  What addSize and subSize of package dyad return: a sum and a difference of sizes. Conditions: lists are short, places small, what is taken away isn't greater.
-/
namespace Go.Proofs.YtpakpgjbgehhjaaGreat
open Go.RowKit
set_option linter.unusedVariables false
set_option linter.unusedSimpArgs false

theorem made_zero (m : Nat) : madeCells (Value.int .u64 0).cells (m * 1) = ((List.replicate m (0 : Int)).map (Value.int .u64)).toArray := by
  unfold madeCells
  apply Array.ext
  · simp
  · intro i h1 h2
    simp [Value.cells, Nat.mod_one]
theorem mk_run (m : Nat) (hm : m ≤ 1000000) (w : World) : (Instr.makeSlice 22 (.int .i64 (m : Int)) (.int .i64 (m : Int))).run Tryz.prog w = .ok (.slice (some ⟨w.heap.size, 0, none⟩) m m) (w.alloc (.cells ((List.replicate m (0 : Int)).map (Value.int .u64)).toArray 36)) := by
  obtain ⟨i, hi, hz, hsz, hby⟩ := info_parts Tryz.u64Info
  have := run_make (P := Tryz.prog) w 22 36 i (.int .u64 0) Tryz.underlying22 hi hz .i64 .i64 (m : Int) (m : Int) (by omega) (Int.le_refl _) (by rw [hby]; omega) (by omega)
  rw [hsz, Int.toNat_natCast, made_zero] at this
  exact this
theorem splice_row (m i : Nat) (xs : List Int) (h : i + xs.length ≤ m) : splice ((List.replicate m (0 : Int)).map (Value.int .u64)) i (xs.map (Value.int .u64)) = (List.replicate i 0 ++ (xs ++ List.replicate (m - (i + xs.length)) 0)).map (Value.int .u64) := by
  unfold splice
  rw [List.map_append, List.map_append, List.length_map]
  congr 1
  · rw [← List.map_take, List.take_replicate, Nat.min_eq_left (by omega)]
  · congr 1
    rw [← List.map_drop, List.drop_replicate]
theorem dv_lay (m i : Nat) (xs : List Int) (h : i + xs.length ≤ m) : dv (List.replicate i 0 ++ (xs ++ List.replicate (m - (i + xs.length)) 0)) = pw i * dv xs ∧ (List.replicate i (0 : Int) ++ (xs ++ List.replicate (m - (i + xs.length)) 0)).length = m := by
  refine ⟨?_, by simp; omega⟩
  rw [dv_append, dv_append, dv_zeros, dv_zeros, List.length_replicate, Int.mul_zero, Int.add_zero, Int.zero_add]
theorem alloc_row' (w : World) (cs : Array Value) (t : TypeId) (g : Nat) (hg : g = w.heap.size) : (w.alloc (.cells cs t)).drew.heap[g]? = some (.cells cs t (0, 0)) := hg ▸ heap_alloc_new w _
theorem row_src {w W : World} {b o : Nat} {xs : List Int} (h : ∀ i, i < xs.length → w.cell? ⟨b, o + i, none⟩ = some (.int .u64 (xs[i]?.getD 0))) (hb : b < w.heap.size) (B : Below w.heap.size w W) : ∀ j v, (xs.map (Value.int .u64))[j]? = some v → W.cell? ((⟨b, o, none⟩ : Addr).add j) = some v := by
  intro j v hv
  rw [List.getElem?_map] at hv
  cases hj : xs[j]? with
  | none => rw [hj] at hv; cases hv
  | some y =>
    rw [hj] at hv
    have hlt : j < xs.length := (List.getElem?_eq_some_iff.1 hj).1
    rw [Addr.add_lit, B.cell (p := ⟨b, o + j, none⟩) hb, h j hlt, hj]
    exact hv
theorem bcellB {B : Nat} {W w1 : World} (hb : Below B W w1) : (∀ b o, b < B → w1.cell? ⟨b, o, none⟩ = W.cell? ⟨b, o, none⟩) ∧ (∀ b o, b < B → w1.frozen? ⟨b, o, none⟩ = W.frozen? ⟨b, o, none⟩) :=
  ⟨fun b o h => hb.cell (p := ⟨b, o, none⟩) h, fun b o h => hb.frozen (p := ⟨b, o, none⟩) h⟩
theorem u64_size : (Tryz.prog.info? 36).map (·.size) = some 1 := by kernel_rfl
theorem fit_sum (i k n1 n2 N : Nat) (X Y : Int) (hX0 : 0 ≤ X) (hX : X < pw n1) (hY0 : 0 ≤ Y) (hY : Y < pw n2) (h1 : i + n1 ≤ N) (h2 : k + n2 ≤ N) : pw i * X + pw k * Y < pw (N + 1) := by
  have a := Int.mul_lt_mul_of_pos_left hX (pw_pos i)
  have b := Int.mul_lt_mul_of_pos_left hY (pw_pos k)
  rw [← pw_add] at a b
  have c := pw_le _ _ h1
  have d := pw_le _ _ h2
  have e := pw_pos N
  rw [pw_succ]
  omega
theorem sum_math (na : Bool) (X Y : Int) (p q bot : Int) (i k K : Nat) (hp : bot + i = p) (hq : bot + k = q) (h1 : -(K : Int) ≤ p) (h2 : -(K : Int) ≤ q) (h3 : i = 0 ∨ k = 0) :
    sg na * ((pw i * X + pw k * Y) * pw (bot + K).toNat) = sg na * (X * pw (p + K).toNat + Y * pw (q + K).toNat) := by
  rw [show (p + K).toNat = (bot + K).toNat + i by omega, show (q + K).toNat = (bot + K).toNat + k by omega, pw_add, pw_add]
  grind
theorem sub_fit (X Y : Int) (p q bot : Int) (i k K : Nat) (hp : bot + i = p) (hq : bot + k = q) (h1 : -(K : Int) ≤ p) (h2 : -(K : Int) ≤ q) (h3 : i = 0 ∨ k = 0) (h : Y * pw (q + K).toNat ≤ X * pw (p + K).toNat) : pw k * Y ≤ pw i * X := by
  rw [show (p + K).toNat = (bot + K).toNat + i by omega, show (q + K).toNat = (bot + K).toNat + k by omega, pw_add, pw_add] at h
  have hp := pw_pos (bot + K).toNat
  generalize pw (bot + K).toNat = u at *
  refine Int.le_of_mul_le_mul_left (a := u) ?_ hp
  have e1 : u * (pw k * Y) = Y * (u * pw k) := by grind
  have e2 : u * (pw i * X) = X * (u * pw i) := by grind
  omega
theorem diff_math (na : Bool) (X Y : Int) (p q bot : Int) (i k K : Nat) (hp : bot + i = p) (hq : bot + k = q) (h1 : -(K : Int) ≤ p) (h2 : -(K : Int) ≤ q) (h3 : i = 0 ∨ k = 0) :
    sg na * ((pw i * X - pw k * Y) * pw (bot + K).toNat) = sg na * (X * pw (p + K).toNat - Y * pw (q + K).toNat) := by
  rw [show (p + K).toNat = (bot + K).toNat + i by omega, show (q + K).toNat = (bot + K).toNat + k by omega, pw_add, pw_add]
  grind
set_option maxHeartbeats 4000000 in
theorem dAddSize (na nb : Bool) (sa sb : Value) (xs ys : List Int) (p q : Int) (w : World) (ha : SeesW w 0 sa xs) (hb : SeesW w 0 sb ys) (nx : xs ≠ []) (ny : ys ≠ []) (hx : InW xs) (hy : InW ys) (lx : xs.length ≤ 200000) (ly : ys.length ≤ 200000) (p0 : -100000 ≤ p) (p1 : p ≤ 100000) (q0 : -100000 ≤ q) (q1 : q ≤ 100000) :
    Calls Tryz.prog 44 #[.agg #[.bool na, sa, .int .i64 p, .slice none 0 0], .agg #[.bool nb, sb, .int .i64 q, .slice none 0 0]] w fun e w' => ∃ r, e = .returned r ∧ (∀ (k : Nat) (L : Int), -(k : Int) ≤ p → -(k : Int) ≤ q → p + (xs.length : Int) ≤ L → q + (ys.length : Int) ≤ L → 0 ≤ L → Tell w' w.heap.size r k (L + 1) (sg na * (dv xs * pw (p + k).toNat + dv ys * pw (q + k).toNat))) ∧ Below w.heap.size w w' := by
  rcases ha with ⟨_, rfl⟩ | ⟨⟨ba, oa, ca, rfl, a1, a2, a3, a4⟩, _⟩
  · exact absurd rfl nx
  rcases hb with ⟨_, rfl⟩ | ⟨⟨bb, ob, cb, rfl, b1, b2, b3, b4⟩, _⟩
  · exact absurd rfl ny
  obtain ⟨n1, hn1⟩ : ∃ n, n = xs.length := ⟨_, rfl⟩
  obtain ⟨n2, hn2⟩ : ∃ n, n = ys.length := ⟨_, rfl⟩
  have N1 : Hid (_ = _) := hn1
  have N2 : Hid (_ = _) := hn2
  have CA : Hid (∀ i, i < xs.length → w.cell? ⟨ba, oa + i, none⟩ = some (.int .u64 (xs[i]?.getD 0))) := a4
  have CB : Hid (∀ i, i < ys.length → w.cell? ⟨bb, ob + i, none⟩ = some (.int .u64 (ys[i]?.getD 0))) := b4
  have a0 : 0 < xs.length := List.length_pos_iff.2 nx
  have b0 : 0 < ys.length := List.length_pos_iff.2 ny
  rw [← hn1] at lx a2 a0 ⊢
  rw [← hn2] at ly b2 b0 ⊢
  clear hn1 hn2 a4 b4 nx ny
  unfold maxLen at a3 b3
  go_enter Tryz.func44, Tryz.ntmps44
  go_wp2_with fail
  refine (dAlign _ _ _ _ _ _ _ _ _ _ _ (by omega) (by omega) (by omega) (by omega) (by omega) (by omega)).mono ?_
  rintro e w1 ⟨bot, i, k, N, rfl, g1, g2, g3, g4, hb1⟩
  have G1 : Hid (_ = _) := g1
  have G2 : Hid (_ = _) := g2
  have hN : N ≤ 500000 := by omega
  have hiN : i + n1 ≤ N := by omega
  have hkN : k + n2 ≤ N := by omega
  have bo0 : -200000 ≤ bot := by omega
  have bo1 : bot ≤ 200000 := by omega
  have G3 : Hid (i = 0 ∨ k = 0) := g3
  have hNm : Hid (N = max (i + n1) (k + n2)) := g4
  clear g1 g2 g3 g4
  have mk := mk_run (N + 1) (by omega)
  obtain ⟨Z, hZ⟩ : ∃ Z, Z = (List.replicate (N + 1) (0 : Int)).map (Value.int .u64) := ⟨_, rfl⟩
  have HZ : Hid (_ = _) := hZ
  rw [← hZ] at mk
  clear hZ
  rw [show (((N + 1 : Nat) : Int)) = (N : Int) + 1 by omega] at mk
  obtain ⟨hc1, hf1⟩ := bcell hb1
  have hz1 : w.heap.size + 1 + 1 < w1.heap.size := by have := hb1.size; simp at this; omega
  have hy1 : w.heap.size + 1 < w1.heap.size := by omega
  have hw1 : w.heap.size < w1.heap.size := by omega
  have hx1 : Below w.heap.size w w1 := Below.trans (by repeat (first | (refine Below.drew ?_) | (refine Below.alloc ?_ (by first | omega | (simp <;> omega)) _) | (refine Below.setCell ?_ (by first | omega | (simp <;> omega)) _) | exact Below.refl _ _)) (hb1.mono (by first | omega | (simp <;> omega)))
  have i1 : (0 : Int) ≤ (i : Int) := by omega
  have i2 : (i : Int) ≤ (N : Int) + 1 := by omega
  have i3 : ¬ N + 1 = i := by omega
  clear hb1
  go_wp2_with fail
  have hxW : Below w.heap.size w ((w1.alloc (.cells #[.int .i64 bot, .slice none 0 0] 39)).alloc (.cells Z.toArray 36)) := (by repeat (first | exact hx1 | (refine Below.drew ?_) | (refine Below.alloc ?_ (by first | omega | (simp <;> omega)) _) | (refine Below.setCell ?_ (by first | omega | (simp <;> omega)) _) | exact Below.refl _ _))
  have HXW : Hid (Below _ _ _) := hxW
  have l1 : (xs.map (Value.int .u64)).length = n1 := by rw [List.length_map]; exact N1.out.symm
  have L1 : Hid (_ = _) := l1
  obtain ⟨X1, hX1⟩ : ∃ X1, X1 = xs.map (Value.int .u64) := ⟨_, rfl⟩
  have HX1 : Hid (_ = _) := hX1
  rw [← hX1] at L1
  have ZL : Hid (Z.length = N + 1) := by show _ = _; rw [HZ.out]; simp
  clear hxW l1 hX1
  go_region_held3 (fun w' => w'.cell? ⟨w.heap.size, 1, none⟩ = some (.slice (some ⟨ba, oa, none⟩) n1 ca)) (simp [go_sem, *]) (first | (refine step_copy_splice rfl _ _ 22 22 rfl 36 Tryz.underlying22 u64_size _ _ _ _ _ _ rfl rfl (w1.heap.size + 1) i Z 36 (by exact (alloc_row' _ _ _ _ (by simp))) X1 (by rw [L1.out]; exact (Nat.min_eq_left (by omega)).symm) (fun _ => ⟨rfl, _, rfl, by rw [HX1.out]; exact row_src CA.out a1 HXW.out.drew⟩) (by rw [L1.out, ZL.out]; omega) (by rw [HX1.out]; exact one_cells xs) (w1.heap.size + 1) _ (Below.refl _ _) (Nat.le_refl _) ?_; intro w2 R2 hb2; obtain ⟨hc2, hf2⟩ := bcellB hb2; have hz2 : w1.heap.size + 1 < w2.heap.size := (by have := hb2.size; simp at this; omega); have hy2 : w.heap.size < w1.heap.size + 1 := (by omega); have hv2 : w.heap.size + 1 < w1.heap.size + 1 := (by omega); have hu2 : w.heap.size + 1 + 1 < w1.heap.size + 1 := (by omega); have hx2 : Below w.heap.size w w2 := HXW.out.drew.trans (hb2.mono (by omega))))
  have e0 : w2.cell? ⟨w.heap.size, 0, none⟩ = some (.bool na) := by simp [go_sem, *]
  have e1 : w2.cell? ⟨w.heap.size + 1, 1, none⟩ = some (.slice (some ⟨bb, ob, none⟩) n2 cb) := by simp [go_sem, *]
  have e2 : w2.cell? ⟨w1.heap.size, 0, none⟩ = some (.int .i64 bot) := by simp [go_sem, *]
  have e3 : w2.cell? ⟨w1.heap.size, 1, none⟩ = some (.slice none 0 0) := by simp [go_sem, *]
  have r0 : w2.cell? ⟨w.heap.size + 1 + 1, 0, none⟩ = some (.bool false) := by simp [go_sem, *]
  have r1 : w2.cell? ⟨w.heap.size + 1 + 1, 1, none⟩ = some (.slice none 0 0) := by simp [go_sem, *]
  have r2 : w2.cell? ⟨w.heap.size + 1 + 1, 2, none⟩ = some (.int .i64 0) := by simp [go_sem, *]
  have r3 : w2.cell? ⟨w.heap.size + 1 + 1, 3, none⟩ = some (.slice none 0 0) := by simp [go_sem, *]
  have f0 : w2.frozen? ⟨w.heap.size + 1 + 1, 0, none⟩ = false := by simp [go_sem, *]
  have f1 : w2.frozen? ⟨w.heap.size + 1 + 1, 1, none⟩ = false := by simp [go_sem, *]
  have f2 : w2.frozen? ⟨w.heap.size + 1 + 1, 2, none⟩ = false := by simp [go_sem, *]
  have f3 : w2.frozen? ⟨w.heap.size + 1 + 1, 3, none⟩ = false := by simp [go_sem, *]
  obtain ⟨zs, hzs⟩ : ∃ zs, zs = List.replicate i (0 : Int) ++ (xs ++ List.replicate (N + 1 - (i + xs.length)) 0) := ⟨_, rfl⟩
  have fit : i + xs.length ≤ N + 1 := by have := N1.out; omega
  have RZ : Hid (RowU w2 (w1.heap.size + 1) zs) := by
    show _ = _
    rw [hzs, ← splice_row (N + 1) i xs fit, ← HZ.out, ← HX1.out]
    exact R2.out
  have DZ : Hid (dv zs = pw i * dv xs) := by rw [hzs]; exact (dv_lay (N + 1) i xs fit).1
  have LZ : Hid (zs.length = N + 1) := by rw [hzs]; exact (dv_lay (N + 1) i xs fit).2
  have IZ : Hid (InW zs) := by rw [hzs]; exact (InW.zeros _).append (hx.append (InW.zeros _))
  have j1 : (0 : Int) ≤ (k : Int) := by omega
  have j2 : (k : Int) ≤ (N : Int) + 1 := by omega
  have j3 : ¬ N + 1 = k := by omega
  have hbg : bb ≠ w1.heap.size + 1 := by omega
  have CB2 : Hid (∀ i, i < ys.length → w2.cell? ⟨bb, ob + i, none⟩ = some (.int .u64 (ys[i]?.getD 0))) := fun i hi => (hx2.cell (p := ⟨bb, ob + i, none⟩) b1).trans (CB.out i hi)
  clear hc1 hf1 hc2 hf2 hb2 R2 hzs mk CA CB HXW HX1 HZ ZL L1
  go_wp2_with fail
  go_region_held3 (fun w' => w'.cell? ⟨w.heap.size + 1, 1, none⟩ = some (.slice (some ⟨bb, ob, none⟩) n2 cb)) (simp [go_sem, *]) (first | (go_at_call 72; rw [N2.out]; refine (dAddTo (w1.heap.size + 1) k (N + 1 - k) (N + 1 - k) bb ob cb zs ys _ RZ.out.drew IZ.out (by rw [LZ.out]; omega) (Nat.le_refl _) (by omega) hy (by have := N2.out; omega) hbg (by have := N2.out; omega) (by omega) CB2.out (by rw [DZ.out, LZ.out]; exact fit_sum i k n1 n2 N _ _ (dv_nonneg hx) (by rw [N1.out]; exact dv_lt hx) (dv_nonneg hy) (by rw [N2.out]; exact dv_lt hy) hiN hkN)).mono ?_; rintro e w3 ⟨rfl, us, R3, L3, I3, D3, O3⟩; rw [← N2.out]; have e0' := (O3.cell (p := ⟨w.heap.size, 0, none⟩) (by simp; omega)).trans e0; have e1' := (O3.cell (p := ⟨w.heap.size + 1, 1, none⟩) (by simp; omega)).trans e1; have e2' := (O3.cell (p := ⟨w1.heap.size, 0, none⟩) (by simp)).trans e2; have e3' := (O3.cell (p := ⟨w1.heap.size, 1, none⟩) (by simp)).trans e3; have r0' := (O3.cell (p := ⟨w.heap.size + 1 + 1, 0, none⟩) (by simp; omega)).trans r0; have r1' := (O3.cell (p := ⟨w.heap.size + 1 + 1, 1, none⟩) (by simp; omega)).trans r1; have r2' := (O3.cell (p := ⟨w.heap.size + 1 + 1, 2, none⟩) (by simp; omega)).trans r2; have r3' := (O3.cell (p := ⟨w.heap.size + 1 + 1, 3, none⟩) (by simp; omega)).trans r3; have f0' := (O3.frozen (p := ⟨w.heap.size + 1 + 1, 0, none⟩) (by simp; omega)).trans f0; have f1' := (O3.frozen (p := ⟨w.heap.size + 1 + 1, 1, none⟩) (by simp; omega)).trans f1; have f2' := (O3.frozen (p := ⟨w.heap.size + 1 + 1, 2, none⟩) (by simp; omega)).trans f2; have f3' := (O3.frozen (p := ⟨w.heap.size + 1 + 1, 3, none⟩) (by simp; omega)).trans f3; have hz3 : w1.heap.size + 1 < w3.heap.size := (by rw [O3.size]; exact hz2); have hx3 : Below w.heap.size w w3 := hx2.drew.trans (O3.below (by omega)); have RU : Hid (RowU _ _ _) := R3; have LU : Hid (_ = _) := L3.trans LZ.out; have IU : Hid (InW _) := I3; have DU : Hid (_ = _) := D3; clear R3 L3 I3 D3 O3 e0 e1 e2 e3 r0 r1 r2 r3 f0 f1 f2 f3))
  go_wp2_with fail
  rw [← LU.out]
  refine (dTrim na (w1.heap.size + 1) 0 us.length (w.heap.size + 3) us bot w3 (RU.out.sees_all _ (Nat.le_refl _) (by rw [LU.out]; unfold maxLen; omega)) IU.out (by rw [LU.out]; omega) (by omega) (by omega) (by omega)).mono ?_
  rintro e w4 ⟨r, rfl, ht, hb4⟩
  rw [LU.out]
  have T : Hid (∀ (K : Nat) (L : Int), -(K : Int) ≤ p → -(K : Int) ≤ q → p + (n1 : Int) ≤ L → q + (n2 : Int) ≤ L → 0 ≤ L → Tell w4 (w.heap.size + 3) r K (L + 1) (sg na * (dv xs * pw (p + K).toNat + dv ys * pw (q + K).toNat))) := by
    intro K L h1 h2 h3 h4 h5
    have u1 := G1.out
    have u2 := G2.out
    have u3 := G3.out
    have u4 := hNm.out
    have t := ht K (L + 1) (by omega) (by rw [LU.out]; omega) (by omega)
    rw [DU.out, DZ.out] at t
    exact t.eq (sum_math na _ _ p q bot i k K u1 u2 h1 h2 u3)
  obtain ⟨neg', a', n', c', p', rfl⟩ := (ht 300000 1000000 (by omega) (by rw [LU.out]; omega) (by omega)).form
  have E : Hid (∀ b, b < w3.heap.size → ∀ o, w4.cell? ⟨b, o, none⟩ = w3.cell? ⟨b, o, none⟩) := fun b h o => hb4.cell (p := ⟨b, o, none⟩) h
  have s0 := (hb4.cell (p := ⟨w.heap.size + 1 + 1, 0, none⟩) (by simp; omega)).trans r0'
  have s1 := (hb4.cell (p := ⟨w.heap.size + 1 + 1, 1, none⟩) (by simp; omega)).trans r1'
  have s2 := (hb4.cell (p := ⟨w.heap.size + 1 + 1, 2, none⟩) (by simp; omega)).trans r2'
  have s3 := (hb4.cell (p := ⟨w.heap.size + 1 + 1, 3, none⟩) (by simp; omega)).trans r3'
  have g0 := (hb4.frozen (p := ⟨w.heap.size + 1 + 1, 0, none⟩) (by simp; omega)).trans f0'
  have g1 := (hb4.frozen (p := ⟨w.heap.size + 1 + 1, 1, none⟩) (by simp; omega)).trans f1'
  have g2 := (hb4.frozen (p := ⟨w.heap.size + 1 + 1, 2, none⟩) (by simp; omega)).trans f2'
  have g3 := (hb4.frozen (p := ⟨w.heap.size + 1 + 1, 3, none⟩) (by simp; omega)).trans f3'
  have hx4 : Below w.heap.size w w4 := hx3.trans (hb4.mono (by omega))
  clear ht hb4 E
  go_wp2
  refine bodyPost_ret (v := .agg #[.bool neg', .slice a' n' c', .int .i64 p', .slice none 0 0]) (by simp [results, Tryz.results44, go_sem, s0, s1, s2, s3]) rfl ⟨_, rfl, ?_, (by repeat (first | exact hx4 | (refine Below.drew ?_) | (refine Below.alloc ?_ (by first | omega | (simp <;> omega)) _) | (refine Below.setCell ?_ (by first | omega | (simp <;> omega)) _) | exact Below.refl _ _))⟩
  intro K L h1 h2 h3 h4 h5
  have t := T.out K L h1 h2 h3 h4 h5
  refine Tell.base (b := w.heap.size + 3) ?_ (by omega)
  repeat (first | exact t | (refine Tell.set ?_ (by simp) _))
set_option maxHeartbeats 4000000 in
theorem dSubSize (na nb : Bool) (sa sb : Value) (xs ys : List Int) (p q : Int) (w : World) (ha : SeesW w 0 sa xs) (hb : SeesW w 0 sb ys) (nx : xs ≠ []) (ny : ys ≠ []) (hx : InW xs) (hy : InW ys) (lx : xs.length ≤ 200000) (ly : ys.length ≤ 200000) (p0 : -100000 ≤ p) (p1 : p ≤ 100000) (q0 : -100000 ≤ q) (q1 : q ≤ 100000) (K0 : Nat) (kp : -(K0 : Int) ≤ p) (kq : -(K0 : Int) ≤ q) (hle : dv ys * pw (q + K0).toNat ≤ dv xs * pw (p + K0).toNat) :
    Calls Tryz.prog 46 #[.agg #[.bool na, sa, .int .i64 p, .slice none 0 0], .agg #[.bool nb, sb, .int .i64 q, .slice none 0 0]] w fun e w' => ∃ r, e = .returned r ∧ (∀ (k : Nat) (L : Int), -(k : Int) ≤ p → -(k : Int) ≤ q → p + (xs.length : Int) ≤ L → q + (ys.length : Int) ≤ L → 0 ≤ L → Tell w' w.heap.size r k (L + 1) (sg na * (dv xs * pw (p + k).toNat - dv ys * pw (q + k).toNat))) ∧ Below w.heap.size w w' := by
  rcases ha with ⟨_, rfl⟩ | ⟨⟨ba, oa, ca, rfl, a1, a2, a3, a4⟩, _⟩
  · exact absurd rfl nx
  rcases hb with ⟨_, rfl⟩ | ⟨⟨bb, ob, cb, rfl, b1, b2, b3, b4⟩, _⟩
  · exact absurd rfl ny
  obtain ⟨n1, hn1⟩ : ∃ n, n = xs.length := ⟨_, rfl⟩
  obtain ⟨n2, hn2⟩ : ∃ n, n = ys.length := ⟨_, rfl⟩
  have N1 : Hid (_ = _) := hn1
  have N2 : Hid (_ = _) := hn2
  have CA : Hid (∀ i, i < xs.length → w.cell? ⟨ba, oa + i, none⟩ = some (.int .u64 (xs[i]?.getD 0))) := a4
  have CB : Hid (∀ i, i < ys.length → w.cell? ⟨bb, ob + i, none⟩ = some (.int .u64 (ys[i]?.getD 0))) := b4
  have a0 : 0 < xs.length := List.length_pos_iff.2 nx
  have b0 : 0 < ys.length := List.length_pos_iff.2 ny
  rw [← hn1] at lx a2 a0 ⊢
  rw [← hn2] at ly b2 b0 ⊢
  have HLE : Hid (_ ≤ _) := hle
  clear hn1 hn2 a4 b4 nx ny hle
  unfold maxLen at a3 b3
  go_enter Tryz.func46, Tryz.ntmps46
  go_wp2_with fail
  refine (dAlign _ _ _ _ _ _ _ _ _ _ _ (by omega) (by omega) (by omega) (by omega) (by omega) (by omega)).mono ?_
  rintro e w1 ⟨bot, i, k, N, rfl, g1, g2, g3, g4, hb1⟩
  have G1 : Hid (_ = _) := g1
  have G2 : Hid (_ = _) := g2
  have hN : N ≤ 500000 := by omega
  have hiN : i + n1 ≤ N := by omega
  have hkN : k + n2 ≤ N := by omega
  have bo0 : -200000 ≤ bot := by omega
  have bo1 : bot ≤ 200000 := by omega
  have G3 : Hid (i = 0 ∨ k = 0) := g3
  have hNm : Hid (N = max (i + n1) (k + n2)) := g4
  clear g1 g2 g3 g4
  have mk := mk_run (N) (by omega)
  obtain ⟨Z, hZ⟩ : ∃ Z, Z = (List.replicate (N) (0 : Int)).map (Value.int .u64) := ⟨_, rfl⟩
  have HZ : Hid (_ = _) := hZ
  rw [← hZ] at mk
  clear hZ
  obtain ⟨hc1, hf1⟩ := bcell hb1
  have hz1 : w.heap.size + 1 + 1 < w1.heap.size := by have := hb1.size; simp at this; omega
  have hy1 : w.heap.size + 1 < w1.heap.size := by omega
  have hw1 : w.heap.size < w1.heap.size := by omega
  have hx1 : Below w.heap.size w w1 := Below.trans (by repeat (first | (refine Below.drew ?_) | (refine Below.alloc ?_ (by first | omega | (simp <;> omega)) _) | (refine Below.setCell ?_ (by first | omega | (simp <;> omega)) _) | exact Below.refl _ _)) (hb1.mono (by first | omega | (simp <;> omega)))
  have i1 : (0 : Int) ≤ (i : Int) := by omega
  have i2 : (i : Int) ≤ (N : Int) := by omega
  have i3 : ¬ N = i := by omega
  clear hb1
  go_wp2_with fail
  have hxW : Below w.heap.size w ((w1.alloc (.cells #[.int .i64 bot, .slice none 0 0] 39)).alloc (.cells Z.toArray 36)) := (by repeat (first | exact hx1 | (refine Below.drew ?_) | (refine Below.alloc ?_ (by first | omega | (simp <;> omega)) _) | (refine Below.setCell ?_ (by first | omega | (simp <;> omega)) _) | exact Below.refl _ _))
  have HXW : Hid (Below _ _ _) := hxW
  have l1 : (xs.map (Value.int .u64)).length = n1 := by rw [List.length_map]; exact N1.out.symm
  have L1 : Hid (_ = _) := l1
  obtain ⟨X1, hX1⟩ : ∃ X1, X1 = xs.map (Value.int .u64) := ⟨_, rfl⟩
  have HX1 : Hid (_ = _) := hX1
  rw [← hX1] at L1
  have ZL : Hid (Z.length = N) := by show _ = _; rw [HZ.out]; simp
  clear hxW l1 hX1
  go_region_held3 (fun w' => w'.cell? ⟨w.heap.size, 1, none⟩ = some (.slice (some ⟨ba, oa, none⟩) n1 ca)) (simp [go_sem, *]) (first | (refine step_copy_splice rfl _ _ 22 22 rfl 36 Tryz.underlying22 u64_size _ _ _ _ _ _ rfl rfl (w1.heap.size + 1) i Z 36 (by exact (alloc_row' _ _ _ _ (by simp))) X1 (by rw [L1.out]; exact (Nat.min_eq_left (by omega)).symm) (fun _ => ⟨rfl, _, rfl, by rw [HX1.out]; exact row_src CA.out a1 HXW.out.drew⟩) (by rw [L1.out, ZL.out]; omega) (by rw [HX1.out]; exact one_cells xs) (w1.heap.size + 1) _ (Below.refl _ _) (Nat.le_refl _) ?_; intro w2 R2 hb2; obtain ⟨hc2, hf2⟩ := bcellB hb2; have hz2 : w1.heap.size + 1 < w2.heap.size := (by have := hb2.size; simp at this; omega); have hy2 : w.heap.size < w1.heap.size + 1 := (by omega); have hv2 : w.heap.size + 1 < w1.heap.size + 1 := (by omega); have hu2 : w.heap.size + 1 + 1 < w1.heap.size + 1 := (by omega); have hx2 : Below w.heap.size w w2 := HXW.out.drew.trans (hb2.mono (by omega))))
  have e0 : w2.cell? ⟨w.heap.size, 0, none⟩ = some (.bool na) := by simp [go_sem, *]
  have e1 : w2.cell? ⟨w.heap.size + 1, 1, none⟩ = some (.slice (some ⟨bb, ob, none⟩) n2 cb) := by simp [go_sem, *]
  have e2 : w2.cell? ⟨w1.heap.size, 0, none⟩ = some (.int .i64 bot) := by simp [go_sem, *]
  have e3 : w2.cell? ⟨w1.heap.size, 1, none⟩ = some (.slice none 0 0) := by simp [go_sem, *]
  have r0 : w2.cell? ⟨w.heap.size + 1 + 1, 0, none⟩ = some (.bool false) := by simp [go_sem, *]
  have r1 : w2.cell? ⟨w.heap.size + 1 + 1, 1, none⟩ = some (.slice none 0 0) := by simp [go_sem, *]
  have r2 : w2.cell? ⟨w.heap.size + 1 + 1, 2, none⟩ = some (.int .i64 0) := by simp [go_sem, *]
  have r3 : w2.cell? ⟨w.heap.size + 1 + 1, 3, none⟩ = some (.slice none 0 0) := by simp [go_sem, *]
  have f0 : w2.frozen? ⟨w.heap.size + 1 + 1, 0, none⟩ = false := by simp [go_sem, *]
  have f1 : w2.frozen? ⟨w.heap.size + 1 + 1, 1, none⟩ = false := by simp [go_sem, *]
  have f2 : w2.frozen? ⟨w.heap.size + 1 + 1, 2, none⟩ = false := by simp [go_sem, *]
  have f3 : w2.frozen? ⟨w.heap.size + 1 + 1, 3, none⟩ = false := by simp [go_sem, *]
  obtain ⟨zs, hzs⟩ : ∃ zs, zs = List.replicate i (0 : Int) ++ (xs ++ List.replicate (N - (i + xs.length)) 0) := ⟨_, rfl⟩
  have fit : i + xs.length ≤ N := by have := N1.out; omega
  have RZ : Hid (RowU w2 (w1.heap.size + 1) zs) := by
    show _ = _
    rw [hzs, ← splice_row (N) i xs fit, ← HZ.out, ← HX1.out]
    exact R2.out
  have DZ : Hid (dv zs = pw i * dv xs) := by rw [hzs]; exact (dv_lay (N) i xs fit).1
  have LZ : Hid (zs.length = N) := by rw [hzs]; exact (dv_lay (N) i xs fit).2
  have IZ : Hid (InW zs) := by rw [hzs]; exact (InW.zeros _).append (hx.append (InW.zeros _))
  have j1 : (0 : Int) ≤ (k : Int) := by omega
  have j2 : (k : Int) ≤ (N : Int) := by omega
  have j3 : ¬ N = k := by omega
  have hbg : bb ≠ w1.heap.size + 1 := by omega
  have CB2 : Hid (∀ i, i < ys.length → w2.cell? ⟨bb, ob + i, none⟩ = some (.int .u64 (ys[i]?.getD 0))) := fun i hi => (hx2.cell (p := ⟨bb, ob + i, none⟩) b1).trans (CB.out i hi)
  clear hc1 hf1 hc2 hf2 hb2 R2 hzs mk CA CB HXW HX1 HZ ZL L1
  go_wp2_with fail
  go_region_held3 (fun w' => w'.cell? ⟨w.heap.size + 1, 1, none⟩ = some (.slice (some ⟨bb, ob, none⟩) n2 cb)) (simp [go_sem, *]) (first | (go_at_call 77; rw [N2.out]; refine (dSubFrom (w1.heap.size + 1) k (N - k) (N - k) bb ob cb zs ys _ RZ.out.drew IZ.out (by rw [LZ.out]; omega) (Nat.le_refl _) (by omega) hy (by have := N2.out; omega) hbg (by have := N2.out; omega) (by omega) CB2.out (by rw [DZ.out]; exact sub_fit _ _ p q bot i k K0 G1.out G2.out kp kq G3.out HLE.out)).mono ?_; rintro e w3 ⟨rfl, us, R3, L3, I3, D3, O3⟩; rw [← N2.out]; have e0' := (O3.cell (p := ⟨w.heap.size, 0, none⟩) (by simp; omega)).trans e0; have e1' := (O3.cell (p := ⟨w.heap.size + 1, 1, none⟩) (by simp; omega)).trans e1; have e2' := (O3.cell (p := ⟨w1.heap.size, 0, none⟩) (by simp)).trans e2; have e3' := (O3.cell (p := ⟨w1.heap.size, 1, none⟩) (by simp)).trans e3; have r0' := (O3.cell (p := ⟨w.heap.size + 1 + 1, 0, none⟩) (by simp; omega)).trans r0; have r1' := (O3.cell (p := ⟨w.heap.size + 1 + 1, 1, none⟩) (by simp; omega)).trans r1; have r2' := (O3.cell (p := ⟨w.heap.size + 1 + 1, 2, none⟩) (by simp; omega)).trans r2; have r3' := (O3.cell (p := ⟨w.heap.size + 1 + 1, 3, none⟩) (by simp; omega)).trans r3; have f0' := (O3.frozen (p := ⟨w.heap.size + 1 + 1, 0, none⟩) (by simp; omega)).trans f0; have f1' := (O3.frozen (p := ⟨w.heap.size + 1 + 1, 1, none⟩) (by simp; omega)).trans f1; have f2' := (O3.frozen (p := ⟨w.heap.size + 1 + 1, 2, none⟩) (by simp; omega)).trans f2; have f3' := (O3.frozen (p := ⟨w.heap.size + 1 + 1, 3, none⟩) (by simp; omega)).trans f3; have hz3 : w1.heap.size + 1 < w3.heap.size := (by rw [O3.size]; exact hz2); have hx3 : Below w.heap.size w w3 := hx2.drew.trans (O3.below (by omega)); have RU : Hid (RowU _ _ _) := R3; have LU : Hid (_ = _) := L3.trans LZ.out; have IU : Hid (InW _) := I3; have DU : Hid (_ = _) := D3; clear R3 L3 I3 D3 O3 e0 e1 e2 e3 r0 r1 r2 r3 f0 f1 f2 f3))
  go_wp2_with fail
  rw [← LU.out]
  refine (dTrim na (w1.heap.size + 1) 0 us.length (w.heap.size + 3) us bot w3 (RU.out.sees_all _ (Nat.le_refl _) (by rw [LU.out]; unfold maxLen; omega)) IU.out (by rw [LU.out]; omega) (by omega) (by omega) (by omega)).mono ?_
  rintro e w4 ⟨r, rfl, ht, hb4⟩
  rw [LU.out]
  have T : Hid (∀ (K : Nat) (L : Int), -(K : Int) ≤ p → -(K : Int) ≤ q → p + (n1 : Int) ≤ L → q + (n2 : Int) ≤ L → 0 ≤ L → Tell w4 (w.heap.size + 3) r K (L + 1) (sg na * (dv xs * pw (p + K).toNat - dv ys * pw (q + K).toNat))) := by
    intro K L h1 h2 h3 h4 h5
    have u1 := G1.out
    have u2 := G2.out
    have u3 := G3.out
    have u4 := hNm.out
    have t := ht K (L + 1) (by omega) (by rw [LU.out]; omega) (by omega)
    rw [DU.out, DZ.out] at t
    exact t.eq (diff_math na _ _ p q bot i k K u1 u2 h1 h2 u3)
  obtain ⟨neg', a', n', c', p', rfl⟩ := (ht 300000 1000000 (by omega) (by rw [LU.out]; omega) (by omega)).form
  have E : Hid (∀ b, b < w3.heap.size → ∀ o, w4.cell? ⟨b, o, none⟩ = w3.cell? ⟨b, o, none⟩) := fun b h o => hb4.cell (p := ⟨b, o, none⟩) h
  have s0 := (hb4.cell (p := ⟨w.heap.size + 1 + 1, 0, none⟩) (by simp; omega)).trans r0'
  have s1 := (hb4.cell (p := ⟨w.heap.size + 1 + 1, 1, none⟩) (by simp; omega)).trans r1'
  have s2 := (hb4.cell (p := ⟨w.heap.size + 1 + 1, 2, none⟩) (by simp; omega)).trans r2'
  have s3 := (hb4.cell (p := ⟨w.heap.size + 1 + 1, 3, none⟩) (by simp; omega)).trans r3'
  have g0 := (hb4.frozen (p := ⟨w.heap.size + 1 + 1, 0, none⟩) (by simp; omega)).trans f0'
  have g1 := (hb4.frozen (p := ⟨w.heap.size + 1 + 1, 1, none⟩) (by simp; omega)).trans f1'
  have g2 := (hb4.frozen (p := ⟨w.heap.size + 1 + 1, 2, none⟩) (by simp; omega)).trans f2'
  have g3 := (hb4.frozen (p := ⟨w.heap.size + 1 + 1, 3, none⟩) (by simp; omega)).trans f3'
  have hx4 : Below w.heap.size w w4 := hx3.trans (hb4.mono (by omega))
  clear ht hb4 E
  go_wp2
  refine bodyPost_ret (v := .agg #[.bool neg', .slice a' n' c', .int .i64 p', .slice none 0 0]) (by simp [results, Tryz.results46, go_sem, s0, s1, s2, s3]) rfl ⟨_, rfl, ?_, (by repeat (first | exact hx4 | (refine Below.drew ?_) | (refine Below.alloc ?_ (by first | omega | (simp <;> omega)) _) | (refine Below.setCell ?_ (by first | omega | (simp <;> omega)) _) | exact Below.refl _ _))⟩
  intro K L h1 h2 h3 h4 h5
  have t := T.out K L h1 h2 h3 h4 h5
  refine Tell.base (b := w.heap.size + 3) ?_ (by omega)
  repeat (first | exact t | (refine Tell.set ?_ (by simp) _))
end Go.Proofs.YtpakpgjbgehhjaaGreat

/-
  What Add and Sub of package dyad return: sums and differences. Conditions: lists are short, places small.
-/
namespace Go.Proofs.YtpakpgjbgehhjaaGreat
open Go.RowKit
set_option linter.unusedVariables false
set_option linter.unusedSimpArgs false

theorem sg_two (na nb : Bool) (h : na ≠ nb) (P Q : Int) : sg na * (P - Q) = sg na * P + sg nb * Q := by cases na <;> cases nb <;> simp [sg] at h ⊢ <;> omega
theorem cmp_le (P Q : Int) (h : ¬ cmpZ P Q < 0) : Q ≤ P := by
  unfold cmpZ at h
  split at h <;> omega
theorem cmp_lt (P Q : Int) (h : cmpZ P Q < 0) : P ≤ Q := by
  unfold cmpZ at h
  repeat' split at h
  all_goals omega
set_option maxHeartbeats 8000000 in
theorem dAdd (a b : Value) (w : World) (B K : Nat) (L X Y : Int) (ha : Tell w B a K L X) (hb : Tell w B b K L Y) (hk : K ≤ 90000) (hL : L ≤ 90000) (hL0 : 0 ≤ L) :
    Calls Tryz.prog 16 #[a, b] w fun e w' => ∃ r, e = .returned r ∧ Tell w' w.heap.size r K (L + 1) (X + Y) ∧ Below w.heap.size w w' := by
  have HA : Hid (Tell w B a K L X) := ha
  have HB : Hid (Tell w B b K L Y) := hb
  obtain ⟨na, xs, p, ⟨sa, rfl, a1, a9⟩, a2, a3, a4, a5⟩ := ha
  obtain ⟨nb, ys, q, ⟨sb, rfl, b1, b9⟩, b2, b3, b4, b5⟩ := hb
  have la := tell_len a3 a4 (by omega) (by omega)
  have lb := tell_len b3 b4 (by omega) (by omega)
  have S1 : Hid (SeesW w B sa xs) := a1
  have S2 : Hid (SeesW w B sb ys) := b1
  obtain ⟨A1, c1, rfl⟩ := a1.len
  obtain ⟨A2, c2, rfl⟩ := b1.len
  have sx : cmpZ X 0 = if xs = [] then 0 else if na then -1 else 1 := by rw [a5]; exact tell_sign a2
  have sy : cmpZ Y 0 = if ys = [] then 0 else if nb then -1 else 1 := by rw [b5]; exact tell_sign b2
  obtain ⟨z, hz⟩ : ∃ z, z = cmpZ X 0 := ⟨_, rfl⟩
  obtain ⟨y, hy⟩ : ∃ y, y = cmpZ Y 0 := ⟨_, rfl⟩
  have zb := cmpZ_bd X 0
  have yb := cmpZ_bd Y 0
  have PX : Hid (sg (decide (z < 0)) * (X.natAbs : Int) = X) := by rw [hz]; exact pos_sg X
  have PY : Hid (sg (decide (y < 0)) * (Y.natAbs : Int) = Y) := by rw [hy]; exact pos_sg Y
  have X0 : Hid (z = 0 → X = 0) := by
    intro h
    rw [hz, sx] at h
    by_cases g : xs = []
    · rw [a5, g, dv_nil, Int.zero_mul, Int.mul_zero]
    · rw [if_neg g] at h; split at h <;> omega
  have Y0 : Hid (y = 0 → Y = 0) := by
    intro h
    rw [hy, sy] at h
    by_cases g : ys = []
    · rw [b5, g, dv_nil, Int.zero_mul, Int.mul_zero]
    · rw [if_neg g] at h; split at h <;> omega
  have XN : Hid (z ≠ 0 → xs ≠ []) := by intro h g; rw [hz, sx, if_pos g] at h; exact h rfl
  have YN : Hid (y ≠ 0 → ys ≠ []) := by intro h g; rw [hy, sy, if_pos g] at h; exact h rfl
  rw [← hz] at zb
  rw [← hy] at yb
  have HX : Hid (_ = _) := hz
  have HY : Hid (_ = _) := hy
  have A2' : Hid (Norm xs) := a2
  have B2' : Hid (Norm ys) := b2
  have A5 : Hid (_ = _) := a5
  have B5 : Hid (_ = _) := b5
  have A4 : Hid (_ ≤ _) := a4
  have B4 : Hid (_ ≤ _) := b4
  have A9 : Hid (xs = [] → p = 0) := a9
  have B9 : Hid (ys = [] → q = 0) := b9
  obtain ⟨l1, l2, l3⟩ := la
  obtain ⟨m1, m2, m3⟩ := lb
  have LX : Hid (_ ≤ _) := l1
  have LY : Hid (_ ≤ _) := m1
  obtain ⟨n1, hn1⟩ : ∃ n, n = xs.length := ⟨_, rfl⟩
  obtain ⟨n2, hn2⟩ : ∃ n, n = ys.length := ⟨_, rfl⟩
  rw [← hn1] at HA S1 l1 ⊢
  rw [← hn2] at HB S2 m1 ⊢
  have P3 : Hid (_ ≤ _) := a3
  have Q3 : Hid (_ ≤ _) := b3
  clear hz hy sx sy a1 a2 a4 a5 b1 b2 b4 b5 a9 b9 hn1 hn2 a3 b3
  obtain ⟨zb0, zb1⟩ := zb
  obtain ⟨yb0, yb1⟩ := yb
  by_cases h0 : z = 0
  · have e0 : X = 0 := X0.out h0
    clear X0 XN
    subst h0
    go_enter Tryz.func16, Tryz.ntmps16
    go_wp2_with (first | (go_at_call_of 43 A1; refine (dSign _ _ B K L X (HA.out.below (by repeat (first | (refine Below.drew ?_) | (refine Below.alloc ?_ (by first | omega | (simp <;> omega)) _) | (refine Below.setCell ?_ (by first | omega | (simp <;> omega)) _) | exact Below.refl _ _)))).mono ?_; rintro e w1 ⟨rfl, hb1⟩; rw [← HX.out]; obtain ⟨hc1, hf1⟩ := bcell hb1; have hz1 : w.heap.size + 1 + 1 < w1.heap.size := (by have := hb1.size; first | omega | (simp at this; omega)); have hy1 : w.heap.size + 1 < w1.heap.size := (by omega); have hv1 : w.heap.size < w1.heap.size := (by omega); have hx1 : Below w.heap.size w w1 := (Below.trans (by repeat (first | (refine Below.drew ?_) | (refine Below.alloc ?_ (by first | omega | (simp <;> omega)) _) | (refine Below.setCell ?_ (by first | omega | (simp <;> omega)) _) | exact Below.refl _ _)) (hb1.mono (by first | omega | (simp <;> omega)))); clear hb1))
    go_region_held3 (fun w' => w'.cell? ⟨w.heap.size + 1, 0, none⟩ = some (.bool nb) ∧ w'.cell? ⟨w.heap.size + 1, 1, none⟩ = some (.slice A2 n2 c2) ∧ w'.cell? ⟨w.heap.size + 1, 2, none⟩ = some (.int .i64 q) ∧ w'.cell? ⟨w.heap.size + 1, 3, none⟩ = some (.slice none 0 0)) (simp [go_sem, *]) (first | (go_at_call_of 43 A2; refine (dSign _ _ B K L Y (HB.out.below (by repeat (first | exact hx1 | (refine Below.drew ?_) | (refine Below.alloc ?_ (by first | omega | (simp <;> omega)) _) | (refine Below.setCell ?_ (by first | omega | (simp <;> omega)) _) | exact Below.refl _ _)))).mono ?_; rintro e w2 ⟨rfl, hb2⟩; rw [← HY.out]; replace hb2 : Below w1.heap.size w1 w2 := ((Below.refl _ _).drew).trans hb2; obtain ⟨hc2, hf2⟩ := bcell hb2; have hz2 : w.heap.size + 1 + 1 < w2.heap.size := (by have := hb2.size; first | omega | (simp at this; omega)); have hy2 : w.heap.size + 1 < w2.heap.size := (by omega); have hv2 : w.heap.size < w2.heap.size := (by omega); have hx2 : Below w.heap.size w w2 := (Below.trans (by repeat (first | exact hx1 | (refine Below.drew ?_) | (refine Below.alloc ?_ (by first | omega | (simp <;> omega)) _) | (refine Below.setCell ?_ (by first | omega | (simp <;> omega)) _) | exact Below.refl _ _)) (hb2.mono (by first | omega | (simp <;> omega)))); clear hb2) | (go_at_call 42; refine (dWithSignT _ _ _ B K L Y (HB.out.below hx2) (by omega) (by omega)).mono ?_; rintro e w3 ⟨r, rfl, ht, hb3⟩; rw [PY.out] at ht; obtain ⟨neg', a', n', c', p', rfl⟩ := ht.form; have T : Hid (Tell _ _ _ _ _ _) := ht; clear ht; obtain ⟨hc3, hf3⟩ := bcell hb3; have hz3 : w.heap.size + 1 + 1 < w3.heap.size := (by have := hb3.size; first | omega | (simp at this; omega)); have hy3 : w.heap.size + 1 < w3.heap.size := (by omega); have hv3 : w.heap.size < w3.heap.size := (by omega); have hx3 : Below w.heap.size w w3 := (Below.trans (by repeat (first | exact hx2 | (refine Below.drew ?_) | (refine Below.alloc ?_ (by first | omega | (simp <;> omega)) _) | (refine Below.setCell ?_ (by first | omega | (simp <;> omega)) _) | exact Below.refl _ _)) (hb3.mono (by first | omega | (simp <;> omega)))); clear hb3))
    go_wp2
    refine bodyPost_ret (v := .agg #[.bool neg', .slice a' n' c', .int .i64 p', .slice none 0 0]) (by simp [results, Tryz.results16, go_sem, *]) rfl ⟨_, rfl, ?_, (by repeat (first | exact hx3 | (refine Below.drew ?_) | (refine Below.alloc ?_ (by first | omega | (simp <;> omega)) _) | (refine Below.setCell ?_ (by first | omega | (simp <;> omega)) _) | exact Below.refl _ _))⟩
    refine Tell.base (b := w.heap.size + 3) ?_ (by omega)
    repeat (first | exact ((T.out.base (by omega)).wide _ (by omega)).eq (by rw [e0, Int.zero_add]) | (refine Tell.set ?_ (by simp) _))
  · by_cases g0 : y = 0
    · have e0 : Y = 0 := Y0.out g0
      clear Y0 YN
      subst g0
      go_enter Tryz.func16, Tryz.ntmps16
      go_wp2_with (first | (go_at_call_of 43 A1; refine (dSign _ _ B K L X (HA.out.below (by repeat (first | (refine Below.drew ?_) | (refine Below.alloc ?_ (by first | omega | (simp <;> omega)) _) | (refine Below.setCell ?_ (by first | omega | (simp <;> omega)) _) | exact Below.refl _ _)))).mono ?_; rintro e w1 ⟨rfl, hb1⟩; rw [← HX.out]; obtain ⟨hc1, hf1⟩ := bcell hb1; have hz1 : w.heap.size + 1 + 1 < w1.heap.size := (by have := hb1.size; first | omega | (simp at this; omega)); have hy1 : w.heap.size + 1 < w1.heap.size := (by omega); have hv1 : w.heap.size < w1.heap.size := (by omega); have hx1 : Below w.heap.size w w1 := (Below.trans (by repeat (first | (refine Below.drew ?_) | (refine Below.alloc ?_ (by first | omega | (simp <;> omega)) _) | (refine Below.setCell ?_ (by first | omega | (simp <;> omega)) _) | exact Below.refl _ _)) (hb1.mono (by first | omega | (simp <;> omega)))); clear hb1) | (go_at_call_of 43 A2; refine (dSign _ _ B K L Y (HB.out.below (by repeat (first | exact hx1 | (refine Below.drew ?_) | (refine Below.alloc ?_ (by first | omega | (simp <;> omega)) _) | (refine Below.setCell ?_ (by first | omega | (simp <;> omega)) _) | exact Below.refl _ _)))).mono ?_; rintro e w2 ⟨rfl, hb2⟩; rw [← HY.out]; obtain ⟨hc2, hf2⟩ := bcell hb2; have hz2 : w.heap.size + 1 + 1 < w2.heap.size := (by have := hb2.size; first | omega | (simp at this; omega)); have hy2 : w.heap.size + 1 < w2.heap.size := (by omega); have hv2 : w.heap.size < w2.heap.size := (by omega); have hx2 : Below w.heap.size w w2 := (Below.trans (by repeat (first | exact hx1 | (refine Below.drew ?_) | (refine Below.alloc ?_ (by first | omega | (simp <;> omega)) _) | (refine Below.setCell ?_ (by first | omega | (simp <;> omega)) _) | exact Below.refl _ _)) (hb2.mono (by first | omega | (simp <;> omega)))); clear hb2))
      go_region_held3 (fun w' => w'.cell? ⟨w.heap.size, 0, none⟩ = some (.bool na) ∧ w'.cell? ⟨w.heap.size, 1, none⟩ = some (.slice A1 n1 c1) ∧ w'.cell? ⟨w.heap.size, 2, none⟩ = some (.int .i64 p) ∧ w'.cell? ⟨w.heap.size, 3, none⟩ = some (.slice none 0 0)) (simp [go_sem, *]) (first | (go_at_call_of 43 A1; refine (dSign _ _ B K L X (HA.out.below (by repeat (first | exact hx2 | (refine Below.drew ?_) | (refine Below.alloc ?_ (by first | omega | (simp <;> omega)) _) | (refine Below.setCell ?_ (by first | omega | (simp <;> omega)) _) | exact Below.refl _ _)))).mono ?_; rintro e w3 ⟨rfl, hb3⟩; rw [← HX.out]; replace hb3 : Below w2.heap.size w2 w3 := ((Below.refl _ _).drew).trans hb3; obtain ⟨hc3, hf3⟩ := bcell hb3; have hz3 : w.heap.size + 1 + 1 < w3.heap.size := (by have := hb3.size; first | omega | (simp at this; omega)); have hy3 : w.heap.size + 1 < w3.heap.size := (by omega); have hv3 : w.heap.size < w3.heap.size := (by omega); have hx3 : Below w.heap.size w w3 := (Below.trans (by repeat (first | exact hx2 | (refine Below.drew ?_) | (refine Below.alloc ?_ (by first | omega | (simp <;> omega)) _) | (refine Below.setCell ?_ (by first | omega | (simp <;> omega)) _) | exact Below.refl _ _)) (hb3.mono (by first | omega | (simp <;> omega)))); clear hb3) | (go_at_call 42; refine (dWithSignT _ _ _ B K L X (HA.out.below hx3) (by omega) (by omega)).mono ?_; rintro e w4 ⟨r, rfl, ht, hb4⟩; rw [PX.out] at ht; obtain ⟨neg', a', n', c', p', rfl⟩ := ht.form; have T : Hid (Tell _ _ _ _ _ _) := ht; clear ht; obtain ⟨hc4, hf4⟩ := bcell hb4; have hz4 : w.heap.size + 1 + 1 < w4.heap.size := (by have := hb4.size; first | omega | (simp at this; omega)); have hy4 : w.heap.size + 1 < w4.heap.size := (by omega); have hv4 : w.heap.size < w4.heap.size := (by omega); have hx4 : Below w.heap.size w w4 := (Below.trans (by repeat (first | exact hx3 | (refine Below.drew ?_) | (refine Below.alloc ?_ (by first | omega | (simp <;> omega)) _) | (refine Below.setCell ?_ (by first | omega | (simp <;> omega)) _) | exact Below.refl _ _)) (hb4.mono (by first | omega | (simp <;> omega)))); clear hb4))
      go_wp2
      refine bodyPost_ret (v := .agg #[.bool neg', .slice a' n' c', .int .i64 p', .slice none 0 0]) (by simp [results, Tryz.results16, go_sem, *]) rfl ⟨_, rfl, ?_, (by repeat (first | exact hx4 | (refine Below.drew ?_) | (refine Below.alloc ?_ (by first | omega | (simp <;> omega)) _) | (refine Below.setCell ?_ (by first | omega | (simp <;> omega)) _) | exact Below.refl _ _))⟩
      refine Tell.base (b := w.heap.size + 3) ?_ (by omega)
      repeat (first | exact ((T.out.base (by omega)).wide _ (by omega)).eq (by rw [e0, Int.add_zero]) | (refine Tell.set ?_ (by simp) _))
    · have nx := XN.out h0
      have ny := YN.out g0
      have NX : Hid (xs ≠ []) := nx
      have NY : Hid (ys ≠ []) := ny
      clear nx ny XN YN X0 Y0 PX PY
      by_cases hs : na = nb
      · subst hs
        go_enter Tryz.func16, Tryz.ntmps16
        go_wp2_with (first | (go_at_call_of 43 A1; refine (dSign _ _ B K L X (HA.out.below (by repeat (first | (refine Below.drew ?_) | (refine Below.alloc ?_ (by first | omega | (simp <;> omega)) _) | (refine Below.setCell ?_ (by first | omega | (simp <;> omega)) _) | exact Below.refl _ _)))).mono ?_; rintro e w1 ⟨rfl, hb1⟩; rw [← HX.out]; obtain ⟨hc1, hf1⟩ := bcell hb1; have hz1 : w.heap.size + 1 + 1 < w1.heap.size := (by have := hb1.size; first | omega | (simp at this; omega)); have hy1 : w.heap.size + 1 < w1.heap.size := (by omega); have hv1 : w.heap.size < w1.heap.size := (by omega); have hx1 : Below w.heap.size w w1 := (Below.trans (by repeat (first | (refine Below.drew ?_) | (refine Below.alloc ?_ (by first | omega | (simp <;> omega)) _) | (refine Below.setCell ?_ (by first | omega | (simp <;> omega)) _) | exact Below.refl _ _)) (hb1.mono (by first | omega | (simp <;> omega)))); clear hb1) | (go_at_call_of 43 A2; refine (dSign _ _ B K L Y (HB.out.below (by repeat (first | exact hx1 | (refine Below.drew ?_) | (refine Below.alloc ?_ (by first | omega | (simp <;> omega)) _) | (refine Below.setCell ?_ (by first | omega | (simp <;> omega)) _) | exact Below.refl _ _)))).mono ?_; rintro e w2 ⟨rfl, hb2⟩; rw [← HY.out]; obtain ⟨hc2, hf2⟩ := bcell hb2; have hz2 : w.heap.size + 1 + 1 < w2.heap.size := (by have := hb2.size; first | omega | (simp at this; omega)); have hy2 : w.heap.size + 1 < w2.heap.size := (by omega); have hv2 : w.heap.size < w2.heap.size := (by omega); have hx2 : Below w.heap.size w w2 := (Below.trans (by repeat (first | exact hx1 | (refine Below.drew ?_) | (refine Below.alloc ?_ (by first | omega | (simp <;> omega)) _) | (refine Below.setCell ?_ (by first | omega | (simp <;> omega)) _) | exact Below.refl _ _)) (hb2.mono (by first | omega | (simp <;> omega)))); clear hb2) | (go_at_call 44; refine (dAddSize _ _ _ _ xs ys _ _ _ ((S1.out.below hx2).base (by omega)) ((S2.out.below hx2).base (by omega)) NX.out NY.out A2'.out.1 B2'.out.1 LX.out LY.out (by omega) (by omega) (by omega) (by omega)).mono ?_; rintro e w3 ⟨r, rfl, ht0, hb3⟩; have ht := (ht0 K L P3.out Q3.out A4.out B4.out hL0).eq (show _ = X + Y by rw [A5.out, B5.out, Int.mul_add]); clear ht0; obtain ⟨neg', a', n', c', p', rfl⟩ := ht.form; have T : Hid (Tell _ _ _ _ _ _) := ht; clear ht; obtain ⟨hc3, hf3⟩ := bcell hb3; have hz3 : w.heap.size + 1 + 1 < w3.heap.size := (by have := hb3.size; first | omega | (simp at this; omega)); have hy3 : w.heap.size + 1 < w3.heap.size := (by omega); have hv3 : w.heap.size < w3.heap.size := (by omega); have hx3 : Below w.heap.size w w3 := (Below.trans (by repeat (first | exact hx2 | (refine Below.drew ?_) | (refine Below.alloc ?_ (by first | omega | (simp <;> omega)) _) | (refine Below.setCell ?_ (by first | omega | (simp <;> omega)) _) | exact Below.refl _ _)) (hb3.mono (by first | omega | (simp <;> omega)))); clear hb3))
        refine bodyPost_ret (v := .agg #[.bool neg', .slice a' n' c', .int .i64 p', .slice none 0 0]) (by simp [results, Tryz.results16, go_sem, *]) rfl ⟨_, rfl, ?_, (by repeat (first | exact hx3 | (refine Below.drew ?_) | (refine Below.alloc ?_ (by first | omega | (simp <;> omega)) _) | (refine Below.setCell ?_ (by first | omega | (simp <;> omega)) _) | exact Below.refl _ _))⟩
        refine Tell.base (b := w.heap.size + 3) ?_ (by omega)
        repeat (first | exact T.out.base (by omega) | (refine Tell.set ?_ (by simp) _))
      · obtain ⟨t, ht⟩ : ∃ t, t = cmpZ (dv xs * pw (p + K).toNat) (dv ys * pw (q + K).toNat) := ⟨_, rfl⟩
        have HT : Hid (_ = _) := ht
        have ET : Hid (xs = [] ↔ ys = []) := ⟨fun h => absurd h NX.out, fun h => absurd h NY.out⟩
        have hs' : (na == nb) = false := by simpa using hs
        have hs2 : decide (na = nb) = false := by simpa using hs
        have HS : Hid (na ≠ nb) := hs
        by_cases hc : t < 0
        · have HC : Hid (_ ≤ _) := cmp_lt _ _ (ht ▸ hc)
          clear ht
          go_enter Tryz.func16, Tryz.ntmps16
          go_wp2_with (first | (go_at_call_of 43 A1; refine (dSign _ _ B K L X (HA.out.below (by repeat (first | (refine Below.drew ?_) | (refine Below.alloc ?_ (by first | omega | (simp <;> omega)) _) | (refine Below.setCell ?_ (by first | omega | (simp <;> omega)) _) | exact Below.refl _ _)))).mono ?_; rintro e w1 ⟨rfl, hb1⟩; rw [← HX.out]; obtain ⟨hc1, hf1⟩ := bcell hb1; have hz1 : w.heap.size + 1 + 1 < w1.heap.size := (by have := hb1.size; first | omega | (simp at this; omega)); have hy1 : w.heap.size + 1 < w1.heap.size := (by omega); have hv1 : w.heap.size < w1.heap.size := (by omega); have hx1 : Below w.heap.size w w1 := (Below.trans (by repeat (first | (refine Below.drew ?_) | (refine Below.alloc ?_ (by first | omega | (simp <;> omega)) _) | (refine Below.setCell ?_ (by first | omega | (simp <;> omega)) _) | exact Below.refl _ _)) (hb1.mono (by first | omega | (simp <;> omega)))); clear hb1) | (go_at_call_of 43 A2; refine (dSign _ _ B K L Y (HB.out.below (by repeat (first | exact hx1 | (refine Below.drew ?_) | (refine Below.alloc ?_ (by first | omega | (simp <;> omega)) _) | (refine Below.setCell ?_ (by first | omega | (simp <;> omega)) _) | exact Below.refl _ _)))).mono ?_; rintro e w2 ⟨rfl, hb2⟩; rw [← HY.out]; obtain ⟨hc2, hf2⟩ := bcell hb2; have hz2 : w.heap.size + 1 + 1 < w2.heap.size := (by have := hb2.size; first | omega | (simp at this; omega)); have hy2 : w.heap.size + 1 < w2.heap.size := (by omega); have hv2 : w.heap.size < w2.heap.size := (by omega); have hx2 : Below w.heap.size w w2 := (Below.trans (by repeat (first | exact hx1 | (refine Below.drew ?_) | (refine Below.alloc ?_ (by first | omega | (simp <;> omega)) _) | (refine Below.setCell ?_ (by first | omega | (simp <;> omega)) _) | exact Below.refl _ _)) (hb2.mono (by first | omega | (simp <;> omega)))); clear hb2) | (go_at_call 45; refine (dCmpSizes _ _ _ _ xs ys _ _ _ B (S1.out.below hx2) (S2.out.below hx2) A2'.out B2'.out ET.out LX.out LY.out (by omega) (by omega) (by omega) (by omega) K P3.out Q3.out A9.out B9.out).mono ?_; rintro e w3 ⟨rfl, hb3⟩; rw [← HT.out]; obtain ⟨hc3, hf3⟩ := bcell hb3; have hz3 : w.heap.size + 1 + 1 < w3.heap.size := (by have := hb3.size; first | omega | (simp at this; omega)); have hy3 : w.heap.size + 1 < w3.heap.size := (by omega); have hv3 : w.heap.size < w3.heap.size := (by omega); have hx3 : Below w.heap.size w w3 := (Below.trans (by repeat (first | exact hx2 | (refine Below.drew ?_) | (refine Below.alloc ?_ (by first | omega | (simp <;> omega)) _) | (refine Below.setCell ?_ (by first | omega | (simp <;> omega)) _) | exact Below.refl _ _)) (hb3.mono (by first | omega | (simp <;> omega)))); clear hb3) | (go_at_call 46; refine (dSubSize _ _ _ _ ys xs _ _ _ ((S2.out.below hx3).base (by omega)) ((S1.out.below hx3).base (by omega)) NY.out NX.out B2'.out.1 A2'.out.1 LY.out LX.out (by omega) (by omega) (by omega) (by omega) K Q3.out P3.out HC.out).mono ?_; rintro e w4 ⟨r, rfl, ht0, hb4⟩; have ht := (ht0 K L Q3.out P3.out B4.out A4.out hL0).eq (show _ = X + Y by rw [A5.out, B5.out, sg_two nb na (Ne.symm HS.out), Int.add_comm]); clear ht0; obtain ⟨neg', a', n', c', p', rfl⟩ := ht.form; have T : Hid (Tell _ _ _ _ _ _) := ht; clear ht; obtain ⟨hc4, hf4⟩ := bcell hb4; have hz4 : w.heap.size + 1 + 1 < w4.heap.size := (by have := hb4.size; first | omega | (simp at this; omega)); have hy4 : w.heap.size + 1 < w4.heap.size := (by omega); have hv4 : w.heap.size < w4.heap.size := (by omega); have hx4 : Below w.heap.size w w4 := (Below.trans (by repeat (first | exact hx3 | (refine Below.drew ?_) | (refine Below.alloc ?_ (by first | omega | (simp <;> omega)) _) | (refine Below.setCell ?_ (by first | omega | (simp <;> omega)) _) | exact Below.refl _ _)) (hb4.mono (by first | omega | (simp <;> omega)))); clear hb4))
          refine bodyPost_ret (v := .agg #[.bool neg', .slice a' n' c', .int .i64 p', .slice none 0 0]) (by simp [results, Tryz.results16, go_sem, *]) rfl ⟨_, rfl, ?_, (by repeat (first | exact hx4 | (refine Below.drew ?_) | (refine Below.alloc ?_ (by first | omega | (simp <;> omega)) _) | (refine Below.setCell ?_ (by first | omega | (simp <;> omega)) _) | exact Below.refl _ _))⟩
          refine Tell.base (b := w.heap.size + 3) ?_ (by omega)
          repeat (first | exact T.out.base (by omega) | (refine Tell.set ?_ (by simp) _))
        · have HC : Hid (_ ≤ _) := cmp_le _ _ (ht ▸ hc)
          clear ht
          go_enter Tryz.func16, Tryz.ntmps16
          go_wp2_with (first | (go_at_call_of 43 A1; refine (dSign _ _ B K L X (HA.out.below (by repeat (first | (refine Below.drew ?_) | (refine Below.alloc ?_ (by first | omega | (simp <;> omega)) _) | (refine Below.setCell ?_ (by first | omega | (simp <;> omega)) _) | exact Below.refl _ _)))).mono ?_; rintro e w1 ⟨rfl, hb1⟩; rw [← HX.out]; obtain ⟨hc1, hf1⟩ := bcell hb1; have hz1 : w.heap.size + 1 + 1 < w1.heap.size := (by have := hb1.size; first | omega | (simp at this; omega)); have hy1 : w.heap.size + 1 < w1.heap.size := (by omega); have hv1 : w.heap.size < w1.heap.size := (by omega); have hx1 : Below w.heap.size w w1 := (Below.trans (by repeat (first | (refine Below.drew ?_) | (refine Below.alloc ?_ (by first | omega | (simp <;> omega)) _) | (refine Below.setCell ?_ (by first | omega | (simp <;> omega)) _) | exact Below.refl _ _)) (hb1.mono (by first | omega | (simp <;> omega)))); clear hb1) | (go_at_call_of 43 A2; refine (dSign _ _ B K L Y (HB.out.below (by repeat (first | exact hx1 | (refine Below.drew ?_) | (refine Below.alloc ?_ (by first | omega | (simp <;> omega)) _) | (refine Below.setCell ?_ (by first | omega | (simp <;> omega)) _) | exact Below.refl _ _)))).mono ?_; rintro e w2 ⟨rfl, hb2⟩; rw [← HY.out]; obtain ⟨hc2, hf2⟩ := bcell hb2; have hz2 : w.heap.size + 1 + 1 < w2.heap.size := (by have := hb2.size; first | omega | (simp at this; omega)); have hy2 : w.heap.size + 1 < w2.heap.size := (by omega); have hv2 : w.heap.size < w2.heap.size := (by omega); have hx2 : Below w.heap.size w w2 := (Below.trans (by repeat (first | exact hx1 | (refine Below.drew ?_) | (refine Below.alloc ?_ (by first | omega | (simp <;> omega)) _) | (refine Below.setCell ?_ (by first | omega | (simp <;> omega)) _) | exact Below.refl _ _)) (hb2.mono (by first | omega | (simp <;> omega)))); clear hb2) | (go_at_call 45; refine (dCmpSizes _ _ _ _ xs ys _ _ _ B (S1.out.below hx2) (S2.out.below hx2) A2'.out B2'.out ET.out LX.out LY.out (by omega) (by omega) (by omega) (by omega) K P3.out Q3.out A9.out B9.out).mono ?_; rintro e w3 ⟨rfl, hb3⟩; rw [← HT.out]; obtain ⟨hc3, hf3⟩ := bcell hb3; have hz3 : w.heap.size + 1 + 1 < w3.heap.size := (by have := hb3.size; first | omega | (simp at this; omega)); have hy3 : w.heap.size + 1 < w3.heap.size := (by omega); have hv3 : w.heap.size < w3.heap.size := (by omega); have hx3 : Below w.heap.size w w3 := (Below.trans (by repeat (first | exact hx2 | (refine Below.drew ?_) | (refine Below.alloc ?_ (by first | omega | (simp <;> omega)) _) | (refine Below.setCell ?_ (by first | omega | (simp <;> omega)) _) | exact Below.refl _ _)) (hb3.mono (by first | omega | (simp <;> omega)))); clear hb3) | (go_at_call 46; refine (dSubSize _ _ _ _ xs ys _ _ _ ((S1.out.below hx3).base (by omega)) ((S2.out.below hx3).base (by omega)) NX.out NY.out A2'.out.1 B2'.out.1 LX.out LY.out (by omega) (by omega) (by omega) (by omega) K P3.out Q3.out HC.out).mono ?_; rintro e w4 ⟨r, rfl, ht0, hb4⟩; have ht := (ht0 K L P3.out Q3.out A4.out B4.out hL0).eq (show _ = X + Y by rw [A5.out, B5.out, sg_two na nb HS.out]); clear ht0; obtain ⟨neg', a', n', c', p', rfl⟩ := ht.form; have T : Hid (Tell _ _ _ _ _ _) := ht; clear ht; obtain ⟨hc4, hf4⟩ := bcell hb4; have hz4 : w.heap.size + 1 + 1 < w4.heap.size := (by have := hb4.size; first | omega | (simp at this; omega)); have hy4 : w.heap.size + 1 < w4.heap.size := (by omega); have hv4 : w.heap.size < w4.heap.size := (by omega); have hx4 : Below w.heap.size w w4 := (Below.trans (by repeat (first | exact hx3 | (refine Below.drew ?_) | (refine Below.alloc ?_ (by first | omega | (simp <;> omega)) _) | (refine Below.setCell ?_ (by first | omega | (simp <;> omega)) _) | exact Below.refl _ _)) (hb4.mono (by first | omega | (simp <;> omega)))); clear hb4))
          refine bodyPost_ret (v := .agg #[.bool neg', .slice a' n' c', .int .i64 p', .slice none 0 0]) (by simp [results, Tryz.results16, go_sem, *]) rfl ⟨_, rfl, ?_, (by repeat (first | exact hx4 | (refine Below.drew ?_) | (refine Below.alloc ?_ (by first | omega | (simp <;> omega)) _) | (refine Below.setCell ?_ (by first | omega | (simp <;> omega)) _) | exact Below.refl _ _))⟩
          refine Tell.base (b := w.heap.size + 3) ?_ (by omega)
          repeat (first | exact T.out.base (by omega) | (refine Tell.set ?_ (by simp) _))
end Go.Proofs.YtpakpgjbgehhjaaGreat

/-
  What Sub of package dyad returns: a difference. Conditions: lists are short, places small.
-/
namespace Go.Proofs.YtpakpgjbgehhjaaGreat
open Go.RowKit
set_option linter.unusedVariables false
set_option linter.unusedSimpArgs false

theorem Tell.flip {w : World} {B : Nat} {nb : Bool} {s : Value} {q : Int} {k : Nat} {L Y : Int} (h : Tell w B (.agg #[.bool nb, s, .int .i64 q, .slice none 0 0]) k L Y) : Tell w B (.agg #[.bool (!nb), s, .int .i64 q, .slice none 0 0]) k L (-Y) := by
  obtain ⟨neg, ws, p, ⟨t, e, h1, h9⟩, h2, h3, h4, h5⟩ := h
  simp at e
  obtain ⟨rfl, rfl, rfl⟩ := e
  refine ⟨!nb, ws, q, ⟨s, rfl, h1, h9⟩, h2, h3, h4, ?_⟩
  rw [h5, sg_not, Int.neg_mul]
set_option maxHeartbeats 1000000 in
theorem dSub (a b : Value) (w : World) (B K : Nat) (L X Y : Int) (ha : Tell w B a K L X) (hb : Tell w B b K L Y) (hk : K ≤ 90000) (hL : L ≤ 90000) (hL0 : 0 ≤ L) :
    Calls Tryz.prog 17 #[a, b] w fun e w' => ∃ r, e = .returned r ∧ Tell w' w.heap.size r K (L + 1) (X - Y) ∧ Below w.heap.size w w' := by
  have HA : Hid (Tell w B a K L X) := ha
  have HB0 := hb
  obtain ⟨na, A1, n1, c1, p, rfl⟩ := ha.form
  obtain ⟨nb, A2, n2, c2, q, rfl⟩ := hb.form
  have HB : Hid (Tell w B _ K L (-Y)) := HB0.flip
  clear ha hb HB0
  go_enter Tryz.func17, Tryz.ntmps17
  go_wp2_with fail
  refine (dAdd _ _ _ B K L X (-Y) (HA.out.below (by repeat (first | (refine Below.drew ?_) | (refine Below.alloc ?_ (by first | omega | (simp <;> omega)) _) | (refine Below.setCell ?_ (by first | omega | (simp <;> omega)) _) | exact Below.refl _ _))) (HB.out.below (by repeat (first | (refine Below.drew ?_) | (refine Below.alloc ?_ (by first | omega | (simp <;> omega)) _) | (refine Below.setCell ?_ (by first | omega | (simp <;> omega)) _) | exact Below.refl _ _))) hk hL hL0).mono ?_
  rintro e w1 ⟨r, rfl, ht, hb1⟩
  rw [show X + -Y = X - Y by omega] at ht
  obtain ⟨neg', a', n', c', p', rfl⟩ := ht.form
  have T : Hid (Tell _ _ _ _ _ _) := ht
  have hx : Below w.heap.size w w1 := Below.trans (by repeat (first | (refine Below.drew ?_) | (refine Below.alloc ?_ (by first | omega | (simp <;> omega)) _) | (refine Below.setCell ?_ (by first | omega | (simp <;> omega)) _) | exact Below.refl _ _)) (hb1.mono (by first | omega | (simp <;> omega)))
  obtain ⟨hc, hf⟩ := bcell hb1
  have hz : w.heap.size + 1 + 1 < w1.heap.size := by have := hb1.size; simp at this; omega
  clear ht hb1
  go_wp2
  refine bodyPost_ret (v := .agg #[.bool neg', .slice a' n' c', .int .i64 p', .slice none 0 0]) (by simp [results, Tryz.results17, go_sem, *]) rfl ⟨_, rfl, ?_, (by repeat (first | exact hx | (refine Below.drew ?_) | (refine Below.alloc ?_ (by first | omega | (simp <;> omega)) _) | (refine Below.setCell ?_ (by first | omega | (simp <;> omega)) _) | exact Below.refl _ _))⟩
  refine Tell.base (b := w.heap.size + 3) ?_ (by omega)
  repeat (first | exact T.out.base (by simp) | (refine Tell.set ?_ (by simp) _))
end Go.Proofs.YtpakpgjbgehhjaaGreat
