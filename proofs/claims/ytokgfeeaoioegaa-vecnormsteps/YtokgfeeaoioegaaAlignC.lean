/-
  What align of package dyad returns. Conditions: lists are short, places small.
-/
import Derived.Test.YtokgfeeaoioegaaTrimC
import Derived.Test.YtokgfeeaoioegaaWordsC
import Derived.Laws.CopyOwn
import Derived.Deep.RegionHeld3
namespace Go.Proofs.Ytokgfeeaoioegaa
open Go.RowKit
set_option linter.unusedVariables false
set_option linter.unusedSimpArgs false

theorem keep_drew {w : World} {q : Addr} {v : Value} (h : w.cell? q = some v) : w.drew.cell? q = some v := h
theorem keep_set {w : World} {p q : Addr} {u v : Value} (h : w.cell? q = some v) (hp : p = q → u = v) : (w.setCell p u).cell? q = some v := by
  by_cases e : p = q
  · subst e; rw [← hp rfl]; exact World.cell?_setCell_same w p u h
  · exact (World.cell?_setCell_other w p q u e).trans h
theorem cell_some (w : World) (p q : Addr) (u : Value) : ((w.setCell p u).cell? q).isSome = (w.cell? q).isSome := by
  by_cases e : p = q
  · subst e
    cases h : w.cell? p with
    | some v => rw [World.cell?_setCell_same w p u h]; rfl
    | none =>
      unfold World.cell? World.setCell at *
      simp only [Array.getElem?_modify, if_true]
      cases h2 : w.heap[p.block]? with
      | none => rfl
      | some ob =>
        rw [h2] at h
        cases ob <;> simp_all
  · rw [World.cell?_setCell_other w p q u e]
theorem cell_if (w : World) (p q : Addr) (u : Value) (h : (w.cell? p).isSome = true) : (w.setCell p u).cell? q = if p = q then some u else w.cell? q := by
  obtain ⟨v, hv⟩ := Option.isSome_iff_exists.1 h
  by_cases e : p = q
  · subst e; rw [if_pos rfl]; exact World.cell?_setCell_same w p u hv
  · rw [if_neg e]; exact World.cell?_setCell_other w p q u e
set_option maxHeartbeats 10000000 in
theorem dAlign (na nb : Bool) (A1 A2 : Option Addr) (n1 n2 c1 c2 : Nat) (p q : Int) (w : World) (l1 : n1 ≤ 1000000) (l2 : n2 ≤ 1000000) (p0 : -1000000 ≤ p) (p1 : p ≤ 1000000) (q0 : -1000000 ≤ q) (q1 : q ≤ 1000000) :
    Calls Try.prog 95 #[.agg #[.bool na, .slice A1 n1 c1, .int .i64 p, .slice none 0 0], .agg #[.bool nb, .slice A2 n2 c2, .int .i64 q, .slice none 0 0]] w fun e w' => ∃ (bot : Int) (i k N : Nat), e = .returned (.tuple #[.agg #[.int .i64 bot, .slice none 0 0], .int .i64 (i : Int), .int .i64 (k : Int), .int .i64 (N : Int)]) ∧ bot + i = p ∧ bot + k = q ∧ (i = 0 ∨ k = 0) ∧ N = max (i + n1) (k + n2) ∧ Below w.heap.size w w' := by
  have key : (∃ D : Int, 0 < D ∧ q = p + D) ∨ p = q ∨ (∃ D : Int, 0 < D ∧ p = q + D) := by
    rcases Int.lt_trichotomy p q with h | h | h
    · exact .inl ⟨q - p, by omega, by omega⟩
    · exact .inr (.inl h)
    · exact .inr (.inr ⟨p - q, by omega, by omega⟩)
  rcases key with ⟨D, hD, rfl⟩ | rfl | ⟨D, hD, rfl⟩
  · have d1 : ¬ D < 0 := by omega
    have d2 : 0 ≤ D := by omega
    have d3 : ¬ D ≤ 0 := by omega
    have wr1 : IntKind.i64.wrap (D + (n1 : Int)) = D + (n1 : Int) := by rw [IntKind.wrap_i64]; omega
    have wr2 : IntKind.i64.wrap (D + (n2 : Int)) = D + (n2 : Int) := by rw [IntKind.wrap_i64]; omega
    have wr3 : IntKind.i64.wrap (n1 : Int) = (n1 : Int) := by rw [IntKind.wrap_i64]; omega
    have wr4 : IntKind.i64.wrap (n2 : Int) = (n2 : Int) := by rw [IntKind.wrap_i64]; omega
    by_cases hN : (n1 : Int) < D + (n2 : Int)
    · skip
      go_enter Try.func95, Try.ntmps95
      go_wp2_with fail
      refine (dMinus _ _ _ (by omega) (by omega) (by omega) (by omega)).mono ?_
      rintro e w1 ⟨rfl, hb1⟩
      rw [show p - (p + D) = -D by omega]
      obtain ⟨hc1, hf1⟩ := bcell hb1
      have hz1 : w.heap.size + 2 < w1.heap.size := by have := hb1.size; simp at this; omega
      have hv1 : w.heap.size + 1 + 1 < w1.heap.size := by omega
      have hy1 : w.heap.size + 1 < w1.heap.size := by omega
      have hw1 : w.heap.size < w1.heap.size := by omega
      have hx1 : Below w.heap.size w w1 := Below.trans (by repeat (first | (refine Below.drew ?_) | (refine Below.alloc ?_ (by first | omega | (simp <;> omega)) _) | (refine Below.setCell ?_ (by first | omega | (simp <;> omega)) _) | exact Below.refl _ _)) (hb1.mono (by first | omega | (simp <;> omega)))
      clear hb1
      go_wp2_with fail
      refine (dNear _ _ (by omega) (by omega)).mono ?_
      rintro e w2 ⟨rfl, hb2⟩
      obtain ⟨hc2, hf2⟩ := bcell hb2
      have hz2 : w.heap.size + 2 < w2.heap.size := by have := hb2.size; omega
      have hv2 : w.heap.size + 1 + 1 < w2.heap.size := by omega
      have hy2 : w.heap.size + 1 < w2.heap.size := by omega
      have hw2 : w.heap.size < w2.heap.size := by omega
      have hx2 : Below w.heap.size w w2 := Below.trans (by repeat (first | exact hx1 | (refine Below.drew ?_) | (refine Below.alloc ?_ (by first | omega | (simp <;> omega)) _) | (refine Below.setCell ?_ (by first | omega | (simp <;> omega)) _) | exact Below.refl _ _)) (hb2.mono (by first | omega | (simp <;> omega)))
      clear hb2
      go_wp2_with fail
      have b0 : w2.cell? ⟨w.heap.size + 1 + 1, 0, none⟩ = some (.int .i64 0) := by simp [go_sem, *]
      have b1 : w2.cell? ⟨w.heap.size + 1 + 1, 1, none⟩ = some (.slice none 0 0) := by simp [go_sem, *]
      have b2 : w2.cell? ⟨w.heap.size, 1, none⟩ = some (.slice A1 n1 c1) := by simp [go_sem, *]
      have b3 : w2.cell? ⟨w.heap.size + 1, 1, none⟩ = some (.slice A2 n2 c2) := by simp [go_sem, *]
      have f0 : w2.frozen? ⟨w.heap.size + 1 + 1, 0, none⟩ = false := by simp [go_sem, *]
      have f1 : w2.frozen? ⟨w.heap.size + 1 + 1, 1, none⟩ = false := by simp [go_sem, *]
      have s0 : ((w2.setCell ⟨w.heap.size + 1 + 1, 0, none⟩ (.int .i64 p)).setCell ⟨w.heap.size + 1 + 1, 1, none⟩ (.slice none 0 0)).cell? ⟨w.heap.size + 1 + 1, 0, none⟩ = some (.int .i64 p) := by simp [cell_some, cell_if, b0, b1]
      have s1 : ((w2.setCell ⟨w.heap.size + 1 + 1, 0, none⟩ (.int .i64 p)).setCell ⟨w.heap.size + 1 + 1, 1, none⟩ (.slice none 0 0)).cell? ⟨w.heap.size + 1 + 1, 1, none⟩ = some (.slice none 0 0) := by simp [cell_some, cell_if, b0, b1]
      have s2 : ((w2.setCell ⟨w.heap.size + 1 + 1, 0, none⟩ (.int .i64 p)).setCell ⟨w.heap.size + 1 + 1, 1, none⟩ (.slice none 0 0)).cell? ⟨w.heap.size, 1, none⟩ = some (.slice A1 n1 c1) := by simp [cell_some, cell_if, b0, b1, b2]
      have s3 : ((w2.setCell ⟨w.heap.size + 1 + 1, 0, none⟩ (.int .i64 p)).setCell ⟨w.heap.size + 1 + 1, 1, none⟩ (.slice none 0 0)).cell? ⟨w.heap.size + 1, 1, none⟩ = some (.slice A2 n2 c2) := by simp [cell_some, cell_if, b0, b1, b3]
      have g0 : ((w2.setCell ⟨w.heap.size + 1 + 1, 0, none⟩ (.int .i64 p)).setCell ⟨w.heap.size + 1 + 1, 1, none⟩ (.slice none 0 0)).frozen? ⟨w.heap.size + 1 + 1, 0, none⟩ = false := by simp [go_sem, f0]
      have g1 : ((w2.setCell ⟨w.heap.size + 1 + 1, 0, none⟩ (.int .i64 p)).setCell ⟨w.heap.size + 1 + 1, 1, none⟩ (.slice none 0 0)).frozen? ⟨w.heap.size + 1 + 1, 1, none⟩ = false := by simp [go_sem, f1]
      have hx3 : Below w.heap.size w ((w2.setCell ⟨w.heap.size + 1 + 1, 0, none⟩ (.int .i64 p)).setCell ⟨w.heap.size + 1 + 1, 1, none⟩ (.slice none 0 0)) := (by repeat (first | exact hx2 | (refine Below.drew ?_) | (refine Below.alloc ?_ (by first | omega | (simp <;> omega)) _) | (refine Below.setCell ?_ (by first | omega | (simp <;> omega)) _) | exact Below.refl _ _))
      clear b0 b1 b2 b3 f0 f1 hx2 hc1 hf1 hc2 hf2
      generalize (w2.setCell ⟨w.heap.size + 1 + 1, 0, none⟩ (.int .i64 p)).setCell ⟨w.heap.size + 1 + 1, 1, none⟩ (.slice none 0 0) = W at s0 s1 s2 s3 g0 g1 hx3 ⊢
      go_region_held3 (fun w' => w'.cell? ⟨w.heap.size, 1, none⟩ = some (.slice A1 n1 c1) ∧ w'.cell? ⟨w.heap.size + 1, 1, none⟩ = some (.slice A2 n2 c2) ∧ w'.cell? ⟨w.heap.size + 1 + 1, 0, none⟩ = some (.int .i64 p) ∧ w'.cell? ⟨w.heap.size + 1 + 1, 1, none⟩ = some (.slice none 0 0)) (refine ⟨?_, ?_, ?_, ?_⟩ <;> (first | (simp [go_sem, *]; done) | (refine keep_drew (keep_set (keep_set ?_ ?_) ?_) <;> simp [go_sem, *]))) (fail)
      all_goals go_wp2
      all_goals (try (exfalso; omega))
      all_goals
        refine bodyPost_ret (v := .tuple #[.agg #[.int .i64 p, .slice none 0 0], .int .i64 0, .int .i64 D, .int .i64 (D + (n2 : Int))]) (by simp [results, Try.results95, go_sem, *]) rfl ⟨p, 0, D.toNat, ((D + (n2 : Int))).toNat, by simp <;> omega, by omega, by omega, by omega, by omega, (by repeat (first | exact hx3 | (refine Below.drew ?_) | (refine Below.alloc ?_ (by first | omega | (simp <;> omega)) _) | (refine Below.setCell ?_ (by first | omega | (simp <;> omega)) _) | exact Below.refl _ _))⟩
    · skip
      go_enter Try.func95, Try.ntmps95
      go_wp2_with fail
      refine (dMinus _ _ _ (by omega) (by omega) (by omega) (by omega)).mono ?_
      rintro e w1 ⟨rfl, hb1⟩
      rw [show p - (p + D) = -D by omega]
      obtain ⟨hc1, hf1⟩ := bcell hb1
      have hz1 : w.heap.size + 2 < w1.heap.size := by have := hb1.size; simp at this; omega
      have hv1 : w.heap.size + 1 + 1 < w1.heap.size := by omega
      have hy1 : w.heap.size + 1 < w1.heap.size := by omega
      have hw1 : w.heap.size < w1.heap.size := by omega
      have hx1 : Below w.heap.size w w1 := Below.trans (by repeat (first | (refine Below.drew ?_) | (refine Below.alloc ?_ (by first | omega | (simp <;> omega)) _) | (refine Below.setCell ?_ (by first | omega | (simp <;> omega)) _) | exact Below.refl _ _)) (hb1.mono (by first | omega | (simp <;> omega)))
      clear hb1
      go_wp2_with fail
      refine (dNear _ _ (by omega) (by omega)).mono ?_
      rintro e w2 ⟨rfl, hb2⟩
      obtain ⟨hc2, hf2⟩ := bcell hb2
      have hz2 : w.heap.size + 2 < w2.heap.size := by have := hb2.size; omega
      have hv2 : w.heap.size + 1 + 1 < w2.heap.size := by omega
      have hy2 : w.heap.size + 1 < w2.heap.size := by omega
      have hw2 : w.heap.size < w2.heap.size := by omega
      have hx2 : Below w.heap.size w w2 := Below.trans (by repeat (first | exact hx1 | (refine Below.drew ?_) | (refine Below.alloc ?_ (by first | omega | (simp <;> omega)) _) | (refine Below.setCell ?_ (by first | omega | (simp <;> omega)) _) | exact Below.refl _ _)) (hb2.mono (by first | omega | (simp <;> omega)))
      clear hb2
      go_wp2_with fail
      have b0 : w2.cell? ⟨w.heap.size + 1 + 1, 0, none⟩ = some (.int .i64 0) := by simp [go_sem, *]
      have b1 : w2.cell? ⟨w.heap.size + 1 + 1, 1, none⟩ = some (.slice none 0 0) := by simp [go_sem, *]
      have b2 : w2.cell? ⟨w.heap.size, 1, none⟩ = some (.slice A1 n1 c1) := by simp [go_sem, *]
      have b3 : w2.cell? ⟨w.heap.size + 1, 1, none⟩ = some (.slice A2 n2 c2) := by simp [go_sem, *]
      have f0 : w2.frozen? ⟨w.heap.size + 1 + 1, 0, none⟩ = false := by simp [go_sem, *]
      have f1 : w2.frozen? ⟨w.heap.size + 1 + 1, 1, none⟩ = false := by simp [go_sem, *]
      have s0 : ((w2.setCell ⟨w.heap.size + 1 + 1, 0, none⟩ (.int .i64 p)).setCell ⟨w.heap.size + 1 + 1, 1, none⟩ (.slice none 0 0)).cell? ⟨w.heap.size + 1 + 1, 0, none⟩ = some (.int .i64 p) := by simp [cell_some, cell_if, b0, b1]
      have s1 : ((w2.setCell ⟨w.heap.size + 1 + 1, 0, none⟩ (.int .i64 p)).setCell ⟨w.heap.size + 1 + 1, 1, none⟩ (.slice none 0 0)).cell? ⟨w.heap.size + 1 + 1, 1, none⟩ = some (.slice none 0 0) := by simp [cell_some, cell_if, b0, b1]
      have s2 : ((w2.setCell ⟨w.heap.size + 1 + 1, 0, none⟩ (.int .i64 p)).setCell ⟨w.heap.size + 1 + 1, 1, none⟩ (.slice none 0 0)).cell? ⟨w.heap.size, 1, none⟩ = some (.slice A1 n1 c1) := by simp [cell_some, cell_if, b0, b1, b2]
      have s3 : ((w2.setCell ⟨w.heap.size + 1 + 1, 0, none⟩ (.int .i64 p)).setCell ⟨w.heap.size + 1 + 1, 1, none⟩ (.slice none 0 0)).cell? ⟨w.heap.size + 1, 1, none⟩ = some (.slice A2 n2 c2) := by simp [cell_some, cell_if, b0, b1, b3]
      have g0 : ((w2.setCell ⟨w.heap.size + 1 + 1, 0, none⟩ (.int .i64 p)).setCell ⟨w.heap.size + 1 + 1, 1, none⟩ (.slice none 0 0)).frozen? ⟨w.heap.size + 1 + 1, 0, none⟩ = false := by simp [go_sem, f0]
      have g1 : ((w2.setCell ⟨w.heap.size + 1 + 1, 0, none⟩ (.int .i64 p)).setCell ⟨w.heap.size + 1 + 1, 1, none⟩ (.slice none 0 0)).frozen? ⟨w.heap.size + 1 + 1, 1, none⟩ = false := by simp [go_sem, f1]
      have hx3 : Below w.heap.size w ((w2.setCell ⟨w.heap.size + 1 + 1, 0, none⟩ (.int .i64 p)).setCell ⟨w.heap.size + 1 + 1, 1, none⟩ (.slice none 0 0)) := (by repeat (first | exact hx2 | (refine Below.drew ?_) | (refine Below.alloc ?_ (by first | omega | (simp <;> omega)) _) | (refine Below.setCell ?_ (by first | omega | (simp <;> omega)) _) | exact Below.refl _ _))
      clear b0 b1 b2 b3 f0 f1 hx2 hc1 hf1 hc2 hf2
      generalize (w2.setCell ⟨w.heap.size + 1 + 1, 0, none⟩ (.int .i64 p)).setCell ⟨w.heap.size + 1 + 1, 1, none⟩ (.slice none 0 0) = W at s0 s1 s2 s3 g0 g1 hx3 ⊢
      go_region_held3 (fun w' => w'.cell? ⟨w.heap.size, 1, none⟩ = some (.slice A1 n1 c1) ∧ w'.cell? ⟨w.heap.size + 1, 1, none⟩ = some (.slice A2 n2 c2) ∧ w'.cell? ⟨w.heap.size + 1 + 1, 0, none⟩ = some (.int .i64 p) ∧ w'.cell? ⟨w.heap.size + 1 + 1, 1, none⟩ = some (.slice none 0 0)) (refine ⟨?_, ?_, ?_, ?_⟩ <;> (first | (simp [go_sem, *]; done) | (refine keep_drew (keep_set (keep_set ?_ ?_) ?_) <;> simp [go_sem, *]))) (fail)
      all_goals go_wp2
      all_goals (try (exfalso; omega))
      all_goals
        refine bodyPost_ret (v := .tuple #[.agg #[.int .i64 p, .slice none 0 0], .int .i64 0, .int .i64 D, .int .i64 (n1 : Int)]) (by simp [results, Try.results95, go_sem, *]) rfl ⟨p, 0, D.toNat, ((n1 : Int)).toNat, by simp <;> omega, by omega, by omega, by omega, by omega, (by repeat (first | exact hx3 | (refine Below.drew ?_) | (refine Below.alloc ?_ (by first | omega | (simp <;> omega)) _) | (refine Below.setCell ?_ (by first | omega | (simp <;> omega)) _) | exact Below.refl _ _))⟩
  · skip
    have wr3 : IntKind.i64.wrap (n1 : Int) = (n1 : Int) := by rw [IntKind.wrap_i64]; omega
    have wr4 : IntKind.i64.wrap (n2 : Int) = (n2 : Int) := by rw [IntKind.wrap_i64]; omega
    by_cases hN : (n1 : Int) < (n2 : Int)
    · skip
      go_enter Try.func95, Try.ntmps95
      go_wp2_with fail
      refine (dMinus _ _ _ (by omega) (by omega) (by omega) (by omega)).mono ?_
      rintro e w1 ⟨rfl, hb1⟩
      rw [show p - p = 0 by omega]
      obtain ⟨hc1, hf1⟩ := bcell hb1
      have hz1 : w.heap.size + 2 < w1.heap.size := by have := hb1.size; simp at this; omega
      have hv1 : w.heap.size + 1 + 1 < w1.heap.size := by omega
      have hy1 : w.heap.size + 1 < w1.heap.size := by omega
      have hw1 : w.heap.size < w1.heap.size := by omega
      have hx1 : Below w.heap.size w w1 := Below.trans (by repeat (first | (refine Below.drew ?_) | (refine Below.alloc ?_ (by first | omega | (simp <;> omega)) _) | (refine Below.setCell ?_ (by first | omega | (simp <;> omega)) _) | exact Below.refl _ _)) (hb1.mono (by first | omega | (simp <;> omega)))
      clear hb1
      go_wp2_with fail
      refine (dNear _ _ (by omega) (by omega)).mono ?_
      rintro e w2 ⟨rfl, hb2⟩
      obtain ⟨hc2, hf2⟩ := bcell hb2
      have hz2 : w.heap.size + 2 < w2.heap.size := by have := hb2.size; omega
      have hv2 : w.heap.size + 1 + 1 < w2.heap.size := by omega
      have hy2 : w.heap.size + 1 < w2.heap.size := by omega
      have hw2 : w.heap.size < w2.heap.size := by omega
      have hx2 : Below w.heap.size w w2 := Below.trans (by repeat (first | exact hx1 | (refine Below.drew ?_) | (refine Below.alloc ?_ (by first | omega | (simp <;> omega)) _) | (refine Below.setCell ?_ (by first | omega | (simp <;> omega)) _) | exact Below.refl _ _)) (hb2.mono (by first | omega | (simp <;> omega)))
      clear hb2
      go_wp2_with fail
      have b0 : w2.cell? ⟨w.heap.size + 1 + 1, 0, none⟩ = some (.int .i64 0) := by simp [go_sem, *]
      have b1 : w2.cell? ⟨w.heap.size + 1 + 1, 1, none⟩ = some (.slice none 0 0) := by simp [go_sem, *]
      have b2 : w2.cell? ⟨w.heap.size, 1, none⟩ = some (.slice A1 n1 c1) := by simp [go_sem, *]
      have b3 : w2.cell? ⟨w.heap.size + 1, 1, none⟩ = some (.slice A2 n2 c2) := by simp [go_sem, *]
      have f0 : w2.frozen? ⟨w.heap.size + 1 + 1, 0, none⟩ = false := by simp [go_sem, *]
      have f1 : w2.frozen? ⟨w.heap.size + 1 + 1, 1, none⟩ = false := by simp [go_sem, *]
      have s0 : ((w2.setCell ⟨w.heap.size + 1 + 1, 0, none⟩ (.int .i64 p)).setCell ⟨w.heap.size + 1 + 1, 1, none⟩ (.slice none 0 0)).cell? ⟨w.heap.size + 1 + 1, 0, none⟩ = some (.int .i64 p) := by simp [cell_some, cell_if, b0, b1]
      have s1 : ((w2.setCell ⟨w.heap.size + 1 + 1, 0, none⟩ (.int .i64 p)).setCell ⟨w.heap.size + 1 + 1, 1, none⟩ (.slice none 0 0)).cell? ⟨w.heap.size + 1 + 1, 1, none⟩ = some (.slice none 0 0) := by simp [cell_some, cell_if, b0, b1]
      have s2 : ((w2.setCell ⟨w.heap.size + 1 + 1, 0, none⟩ (.int .i64 p)).setCell ⟨w.heap.size + 1 + 1, 1, none⟩ (.slice none 0 0)).cell? ⟨w.heap.size, 1, none⟩ = some (.slice A1 n1 c1) := by simp [cell_some, cell_if, b0, b1, b2]
      have s3 : ((w2.setCell ⟨w.heap.size + 1 + 1, 0, none⟩ (.int .i64 p)).setCell ⟨w.heap.size + 1 + 1, 1, none⟩ (.slice none 0 0)).cell? ⟨w.heap.size + 1, 1, none⟩ = some (.slice A2 n2 c2) := by simp [cell_some, cell_if, b0, b1, b3]
      have g0 : ((w2.setCell ⟨w.heap.size + 1 + 1, 0, none⟩ (.int .i64 p)).setCell ⟨w.heap.size + 1 + 1, 1, none⟩ (.slice none 0 0)).frozen? ⟨w.heap.size + 1 + 1, 0, none⟩ = false := by simp [go_sem, f0]
      have g1 : ((w2.setCell ⟨w.heap.size + 1 + 1, 0, none⟩ (.int .i64 p)).setCell ⟨w.heap.size + 1 + 1, 1, none⟩ (.slice none 0 0)).frozen? ⟨w.heap.size + 1 + 1, 1, none⟩ = false := by simp [go_sem, f1]
      have hx3 : Below w.heap.size w ((w2.setCell ⟨w.heap.size + 1 + 1, 0, none⟩ (.int .i64 p)).setCell ⟨w.heap.size + 1 + 1, 1, none⟩ (.slice none 0 0)) := (by repeat (first | exact hx2 | (refine Below.drew ?_) | (refine Below.alloc ?_ (by first | omega | (simp <;> omega)) _) | (refine Below.setCell ?_ (by first | omega | (simp <;> omega)) _) | exact Below.refl _ _))
      clear b0 b1 b2 b3 f0 f1 hx2 hc1 hf1 hc2 hf2
      generalize (w2.setCell ⟨w.heap.size + 1 + 1, 0, none⟩ (.int .i64 p)).setCell ⟨w.heap.size + 1 + 1, 1, none⟩ (.slice none 0 0) = W at s0 s1 s2 s3 g0 g1 hx3 ⊢
      go_region_held3 (fun w' => w'.cell? ⟨w.heap.size, 1, none⟩ = some (.slice A1 n1 c1) ∧ w'.cell? ⟨w.heap.size + 1, 1, none⟩ = some (.slice A2 n2 c2) ∧ w'.cell? ⟨w.heap.size + 1 + 1, 0, none⟩ = some (.int .i64 p) ∧ w'.cell? ⟨w.heap.size + 1 + 1, 1, none⟩ = some (.slice none 0 0)) (refine ⟨?_, ?_, ?_, ?_⟩ <;> (first | (simp [go_sem, *]; done) | (refine keep_drew (keep_set (keep_set ?_ ?_) ?_) <;> simp [go_sem, *]))) (fail)
      all_goals go_wp2
      all_goals (try (exfalso; omega))
      all_goals
        refine bodyPost_ret (v := .tuple #[.agg #[.int .i64 p, .slice none 0 0], .int .i64 0, .int .i64 0, .int .i64 (n2 : Int)]) (by simp [results, Try.results95, go_sem, *]) rfl ⟨p, 0, 0, ((n2 : Int)).toNat, by simp <;> omega, by omega, by omega, by omega, by omega, (by repeat (first | exact hx3 | (refine Below.drew ?_) | (refine Below.alloc ?_ (by first | omega | (simp <;> omega)) _) | (refine Below.setCell ?_ (by first | omega | (simp <;> omega)) _) | exact Below.refl _ _))⟩
    · skip
      go_enter Try.func95, Try.ntmps95
      go_wp2_with fail
      refine (dMinus _ _ _ (by omega) (by omega) (by omega) (by omega)).mono ?_
      rintro e w1 ⟨rfl, hb1⟩
      rw [show p - p = 0 by omega]
      obtain ⟨hc1, hf1⟩ := bcell hb1
      have hz1 : w.heap.size + 2 < w1.heap.size := by have := hb1.size; simp at this; omega
      have hv1 : w.heap.size + 1 + 1 < w1.heap.size := by omega
      have hy1 : w.heap.size + 1 < w1.heap.size := by omega
      have hw1 : w.heap.size < w1.heap.size := by omega
      have hx1 : Below w.heap.size w w1 := Below.trans (by repeat (first | (refine Below.drew ?_) | (refine Below.alloc ?_ (by first | omega | (simp <;> omega)) _) | (refine Below.setCell ?_ (by first | omega | (simp <;> omega)) _) | exact Below.refl _ _)) (hb1.mono (by first | omega | (simp <;> omega)))
      clear hb1
      go_wp2_with fail
      refine (dNear _ _ (by omega) (by omega)).mono ?_
      rintro e w2 ⟨rfl, hb2⟩
      obtain ⟨hc2, hf2⟩ := bcell hb2
      have hz2 : w.heap.size + 2 < w2.heap.size := by have := hb2.size; omega
      have hv2 : w.heap.size + 1 + 1 < w2.heap.size := by omega
      have hy2 : w.heap.size + 1 < w2.heap.size := by omega
      have hw2 : w.heap.size < w2.heap.size := by omega
      have hx2 : Below w.heap.size w w2 := Below.trans (by repeat (first | exact hx1 | (refine Below.drew ?_) | (refine Below.alloc ?_ (by first | omega | (simp <;> omega)) _) | (refine Below.setCell ?_ (by first | omega | (simp <;> omega)) _) | exact Below.refl _ _)) (hb2.mono (by first | omega | (simp <;> omega)))
      clear hb2
      go_wp2_with fail
      have b0 : w2.cell? ⟨w.heap.size + 1 + 1, 0, none⟩ = some (.int .i64 0) := by simp [go_sem, *]
      have b1 : w2.cell? ⟨w.heap.size + 1 + 1, 1, none⟩ = some (.slice none 0 0) := by simp [go_sem, *]
      have b2 : w2.cell? ⟨w.heap.size, 1, none⟩ = some (.slice A1 n1 c1) := by simp [go_sem, *]
      have b3 : w2.cell? ⟨w.heap.size + 1, 1, none⟩ = some (.slice A2 n2 c2) := by simp [go_sem, *]
      have f0 : w2.frozen? ⟨w.heap.size + 1 + 1, 0, none⟩ = false := by simp [go_sem, *]
      have f1 : w2.frozen? ⟨w.heap.size + 1 + 1, 1, none⟩ = false := by simp [go_sem, *]
      have s0 : ((w2.setCell ⟨w.heap.size + 1 + 1, 0, none⟩ (.int .i64 p)).setCell ⟨w.heap.size + 1 + 1, 1, none⟩ (.slice none 0 0)).cell? ⟨w.heap.size + 1 + 1, 0, none⟩ = some (.int .i64 p) := by simp [cell_some, cell_if, b0, b1]
      have s1 : ((w2.setCell ⟨w.heap.size + 1 + 1, 0, none⟩ (.int .i64 p)).setCell ⟨w.heap.size + 1 + 1, 1, none⟩ (.slice none 0 0)).cell? ⟨w.heap.size + 1 + 1, 1, none⟩ = some (.slice none 0 0) := by simp [cell_some, cell_if, b0, b1]
      have s2 : ((w2.setCell ⟨w.heap.size + 1 + 1, 0, none⟩ (.int .i64 p)).setCell ⟨w.heap.size + 1 + 1, 1, none⟩ (.slice none 0 0)).cell? ⟨w.heap.size, 1, none⟩ = some (.slice A1 n1 c1) := by simp [cell_some, cell_if, b0, b1, b2]
      have s3 : ((w2.setCell ⟨w.heap.size + 1 + 1, 0, none⟩ (.int .i64 p)).setCell ⟨w.heap.size + 1 + 1, 1, none⟩ (.slice none 0 0)).cell? ⟨w.heap.size + 1, 1, none⟩ = some (.slice A2 n2 c2) := by simp [cell_some, cell_if, b0, b1, b3]
      have g0 : ((w2.setCell ⟨w.heap.size + 1 + 1, 0, none⟩ (.int .i64 p)).setCell ⟨w.heap.size + 1 + 1, 1, none⟩ (.slice none 0 0)).frozen? ⟨w.heap.size + 1 + 1, 0, none⟩ = false := by simp [go_sem, f0]
      have g1 : ((w2.setCell ⟨w.heap.size + 1 + 1, 0, none⟩ (.int .i64 p)).setCell ⟨w.heap.size + 1 + 1, 1, none⟩ (.slice none 0 0)).frozen? ⟨w.heap.size + 1 + 1, 1, none⟩ = false := by simp [go_sem, f1]
      have hx3 : Below w.heap.size w ((w2.setCell ⟨w.heap.size + 1 + 1, 0, none⟩ (.int .i64 p)).setCell ⟨w.heap.size + 1 + 1, 1, none⟩ (.slice none 0 0)) := (by repeat (first | exact hx2 | (refine Below.drew ?_) | (refine Below.alloc ?_ (by first | omega | (simp <;> omega)) _) | (refine Below.setCell ?_ (by first | omega | (simp <;> omega)) _) | exact Below.refl _ _))
      clear b0 b1 b2 b3 f0 f1 hx2 hc1 hf1 hc2 hf2
      generalize (w2.setCell ⟨w.heap.size + 1 + 1, 0, none⟩ (.int .i64 p)).setCell ⟨w.heap.size + 1 + 1, 1, none⟩ (.slice none 0 0) = W at s0 s1 s2 s3 g0 g1 hx3 ⊢
      go_region_held3 (fun w' => w'.cell? ⟨w.heap.size, 1, none⟩ = some (.slice A1 n1 c1) ∧ w'.cell? ⟨w.heap.size + 1, 1, none⟩ = some (.slice A2 n2 c2) ∧ w'.cell? ⟨w.heap.size + 1 + 1, 0, none⟩ = some (.int .i64 p) ∧ w'.cell? ⟨w.heap.size + 1 + 1, 1, none⟩ = some (.slice none 0 0)) (refine ⟨?_, ?_, ?_, ?_⟩ <;> (first | (simp [go_sem, *]; done) | (refine keep_drew (keep_set (keep_set ?_ ?_) ?_) <;> simp [go_sem, *]))) (fail)
      all_goals go_wp2
      all_goals (try (exfalso; omega))
      all_goals
        refine bodyPost_ret (v := .tuple #[.agg #[.int .i64 p, .slice none 0 0], .int .i64 0, .int .i64 0, .int .i64 (n1 : Int)]) (by simp [results, Try.results95, go_sem, *]) rfl ⟨p, 0, 0, ((n1 : Int)).toNat, by simp <;> omega, by omega, by omega, by omega, by omega, (by repeat (first | exact hx3 | (refine Below.drew ?_) | (refine Below.alloc ?_ (by first | omega | (simp <;> omega)) _) | (refine Below.setCell ?_ (by first | omega | (simp <;> omega)) _) | exact Below.refl _ _))⟩
  · have d1 : ¬ D < 0 := by omega
    have d2 : 0 ≤ D := by omega
    have d3 : ¬ D ≤ 0 := by omega
    have wr1 : IntKind.i64.wrap (D + (n1 : Int)) = D + (n1 : Int) := by rw [IntKind.wrap_i64]; omega
    have wr2 : IntKind.i64.wrap (D + (n2 : Int)) = D + (n2 : Int) := by rw [IntKind.wrap_i64]; omega
    have wr3 : IntKind.i64.wrap (n1 : Int) = (n1 : Int) := by rw [IntKind.wrap_i64]; omega
    have wr4 : IntKind.i64.wrap (n2 : Int) = (n2 : Int) := by rw [IntKind.wrap_i64]; omega
    by_cases hN : D + (n1 : Int) < (n2 : Int)
    · skip
      go_enter Try.func95, Try.ntmps95
      go_wp2_with fail
      refine (dMinus _ _ _ (by omega) (by omega) (by omega) (by omega)).mono ?_
      rintro e w1 ⟨rfl, hb1⟩
      rw [show q + D - q = D by omega]
      obtain ⟨hc1, hf1⟩ := bcell hb1
      have hz1 : w.heap.size + 2 < w1.heap.size := by have := hb1.size; simp at this; omega
      have hv1 : w.heap.size + 1 + 1 < w1.heap.size := by omega
      have hy1 : w.heap.size + 1 < w1.heap.size := by omega
      have hw1 : w.heap.size < w1.heap.size := by omega
      have hx1 : Below w.heap.size w w1 := Below.trans (by repeat (first | (refine Below.drew ?_) | (refine Below.alloc ?_ (by first | omega | (simp <;> omega)) _) | (refine Below.setCell ?_ (by first | omega | (simp <;> omega)) _) | exact Below.refl _ _)) (hb1.mono (by first | omega | (simp <;> omega)))
      clear hb1
      go_wp2_with fail
      refine (dNear _ _ (by omega) (by omega)).mono ?_
      rintro e w2 ⟨rfl, hb2⟩
      obtain ⟨hc2, hf2⟩ := bcell hb2
      have hz2 : w.heap.size + 2 < w2.heap.size := by have := hb2.size; omega
      have hv2 : w.heap.size + 1 + 1 < w2.heap.size := by omega
      have hy2 : w.heap.size + 1 < w2.heap.size := by omega
      have hw2 : w.heap.size < w2.heap.size := by omega
      have hx2 : Below w.heap.size w w2 := Below.trans (by repeat (first | exact hx1 | (refine Below.drew ?_) | (refine Below.alloc ?_ (by first | omega | (simp <;> omega)) _) | (refine Below.setCell ?_ (by first | omega | (simp <;> omega)) _) | exact Below.refl _ _)) (hb2.mono (by first | omega | (simp <;> omega)))
      clear hb2
      go_wp2_with fail
      have b0 : w2.cell? ⟨w.heap.size + 1 + 1, 0, none⟩ = some (.int .i64 0) := by simp [go_sem, *]
      have b1 : w2.cell? ⟨w.heap.size + 1 + 1, 1, none⟩ = some (.slice none 0 0) := by simp [go_sem, *]
      have b2 : w2.cell? ⟨w.heap.size, 1, none⟩ = some (.slice A1 n1 c1) := by simp [go_sem, *]
      have b3 : w2.cell? ⟨w.heap.size + 1, 1, none⟩ = some (.slice A2 n2 c2) := by simp [go_sem, *]
      have f0 : w2.frozen? ⟨w.heap.size + 1 + 1, 0, none⟩ = false := by simp [go_sem, *]
      have f1 : w2.frozen? ⟨w.heap.size + 1 + 1, 1, none⟩ = false := by simp [go_sem, *]
      have s0 : ((((w2.setCell ⟨w.heap.size + 1 + 1, 0, none⟩ (.int .i64 (q + D))).setCell ⟨w.heap.size + 1 + 1, 1, none⟩ (.slice none 0 0)).setCell ⟨w.heap.size + 1 + 1, 0, none⟩ (.int .i64 q)).setCell ⟨w.heap.size + 1 + 1, 1, none⟩ (.slice none 0 0)).cell? ⟨w.heap.size + 1 + 1, 0, none⟩ = some (.int .i64 q) := by simp [cell_some, cell_if, b0, b1]
      have s1 : ((((w2.setCell ⟨w.heap.size + 1 + 1, 0, none⟩ (.int .i64 (q + D))).setCell ⟨w.heap.size + 1 + 1, 1, none⟩ (.slice none 0 0)).setCell ⟨w.heap.size + 1 + 1, 0, none⟩ (.int .i64 q)).setCell ⟨w.heap.size + 1 + 1, 1, none⟩ (.slice none 0 0)).cell? ⟨w.heap.size + 1 + 1, 1, none⟩ = some (.slice none 0 0) := by simp [cell_some, cell_if, b0, b1]
      have s2 : ((((w2.setCell ⟨w.heap.size + 1 + 1, 0, none⟩ (.int .i64 (q + D))).setCell ⟨w.heap.size + 1 + 1, 1, none⟩ (.slice none 0 0)).setCell ⟨w.heap.size + 1 + 1, 0, none⟩ (.int .i64 q)).setCell ⟨w.heap.size + 1 + 1, 1, none⟩ (.slice none 0 0)).cell? ⟨w.heap.size, 1, none⟩ = some (.slice A1 n1 c1) := by simp [cell_some, cell_if, b0, b1, b2]
      have s3 : ((((w2.setCell ⟨w.heap.size + 1 + 1, 0, none⟩ (.int .i64 (q + D))).setCell ⟨w.heap.size + 1 + 1, 1, none⟩ (.slice none 0 0)).setCell ⟨w.heap.size + 1 + 1, 0, none⟩ (.int .i64 q)).setCell ⟨w.heap.size + 1 + 1, 1, none⟩ (.slice none 0 0)).cell? ⟨w.heap.size + 1, 1, none⟩ = some (.slice A2 n2 c2) := by simp [cell_some, cell_if, b0, b1, b3]
      have g0 : ((((w2.setCell ⟨w.heap.size + 1 + 1, 0, none⟩ (.int .i64 (q + D))).setCell ⟨w.heap.size + 1 + 1, 1, none⟩ (.slice none 0 0)).setCell ⟨w.heap.size + 1 + 1, 0, none⟩ (.int .i64 q)).setCell ⟨w.heap.size + 1 + 1, 1, none⟩ (.slice none 0 0)).frozen? ⟨w.heap.size + 1 + 1, 0, none⟩ = false := by simp [go_sem, f0]
      have g1 : ((((w2.setCell ⟨w.heap.size + 1 + 1, 0, none⟩ (.int .i64 (q + D))).setCell ⟨w.heap.size + 1 + 1, 1, none⟩ (.slice none 0 0)).setCell ⟨w.heap.size + 1 + 1, 0, none⟩ (.int .i64 q)).setCell ⟨w.heap.size + 1 + 1, 1, none⟩ (.slice none 0 0)).frozen? ⟨w.heap.size + 1 + 1, 1, none⟩ = false := by simp [go_sem, f1]
      have hx3 : Below w.heap.size w ((((w2.setCell ⟨w.heap.size + 1 + 1, 0, none⟩ (.int .i64 (q + D))).setCell ⟨w.heap.size + 1 + 1, 1, none⟩ (.slice none 0 0)).setCell ⟨w.heap.size + 1 + 1, 0, none⟩ (.int .i64 q)).setCell ⟨w.heap.size + 1 + 1, 1, none⟩ (.slice none 0 0)) := (by repeat (first | exact hx2 | (refine Below.drew ?_) | (refine Below.alloc ?_ (by first | omega | (simp <;> omega)) _) | (refine Below.setCell ?_ (by first | omega | (simp <;> omega)) _) | exact Below.refl _ _))
      clear b0 b1 b2 b3 f0 f1 hx2 hc1 hf1 hc2 hf2
      generalize (((w2.setCell ⟨w.heap.size + 1 + 1, 0, none⟩ (.int .i64 (q + D))).setCell ⟨w.heap.size + 1 + 1, 1, none⟩ (.slice none 0 0)).setCell ⟨w.heap.size + 1 + 1, 0, none⟩ (.int .i64 q)).setCell ⟨w.heap.size + 1 + 1, 1, none⟩ (.slice none 0 0) = W at s0 s1 s2 s3 g0 g1 hx3 ⊢
      go_region_held3 (fun w' => w'.cell? ⟨w.heap.size, 1, none⟩ = some (.slice A1 n1 c1) ∧ w'.cell? ⟨w.heap.size + 1, 1, none⟩ = some (.slice A2 n2 c2) ∧ w'.cell? ⟨w.heap.size + 1 + 1, 0, none⟩ = some (.int .i64 q) ∧ w'.cell? ⟨w.heap.size + 1 + 1, 1, none⟩ = some (.slice none 0 0)) (refine ⟨?_, ?_, ?_, ?_⟩ <;> (first | (simp [go_sem, *]; done) | (refine keep_drew (keep_set (keep_set ?_ ?_) ?_) <;> simp [go_sem, *]))) (fail)
      all_goals go_wp2
      all_goals (try (exfalso; omega))
      all_goals
        refine bodyPost_ret (v := .tuple #[.agg #[.int .i64 q, .slice none 0 0], .int .i64 D, .int .i64 0, .int .i64 (n2 : Int)]) (by simp [results, Try.results95, go_sem, *]) rfl ⟨q, D.toNat, 0, ((n2 : Int)).toNat, by simp <;> omega, by omega, by omega, by omega, by omega, (by repeat (first | exact hx3 | (refine Below.drew ?_) | (refine Below.alloc ?_ (by first | omega | (simp <;> omega)) _) | (refine Below.setCell ?_ (by first | omega | (simp <;> omega)) _) | exact Below.refl _ _))⟩
    · skip
      go_enter Try.func95, Try.ntmps95
      go_wp2_with fail
      refine (dMinus _ _ _ (by omega) (by omega) (by omega) (by omega)).mono ?_
      rintro e w1 ⟨rfl, hb1⟩
      rw [show q + D - q = D by omega]
      obtain ⟨hc1, hf1⟩ := bcell hb1
      have hz1 : w.heap.size + 2 < w1.heap.size := by have := hb1.size; simp at this; omega
      have hv1 : w.heap.size + 1 + 1 < w1.heap.size := by omega
      have hy1 : w.heap.size + 1 < w1.heap.size := by omega
      have hw1 : w.heap.size < w1.heap.size := by omega
      have hx1 : Below w.heap.size w w1 := Below.trans (by repeat (first | (refine Below.drew ?_) | (refine Below.alloc ?_ (by first | omega | (simp <;> omega)) _) | (refine Below.setCell ?_ (by first | omega | (simp <;> omega)) _) | exact Below.refl _ _)) (hb1.mono (by first | omega | (simp <;> omega)))
      clear hb1
      go_wp2_with fail
      refine (dNear _ _ (by omega) (by omega)).mono ?_
      rintro e w2 ⟨rfl, hb2⟩
      obtain ⟨hc2, hf2⟩ := bcell hb2
      have hz2 : w.heap.size + 2 < w2.heap.size := by have := hb2.size; omega
      have hv2 : w.heap.size + 1 + 1 < w2.heap.size := by omega
      have hy2 : w.heap.size + 1 < w2.heap.size := by omega
      have hw2 : w.heap.size < w2.heap.size := by omega
      have hx2 : Below w.heap.size w w2 := Below.trans (by repeat (first | exact hx1 | (refine Below.drew ?_) | (refine Below.alloc ?_ (by first | omega | (simp <;> omega)) _) | (refine Below.setCell ?_ (by first | omega | (simp <;> omega)) _) | exact Below.refl _ _)) (hb2.mono (by first | omega | (simp <;> omega)))
      clear hb2
      go_wp2_with fail
      have b0 : w2.cell? ⟨w.heap.size + 1 + 1, 0, none⟩ = some (.int .i64 0) := by simp [go_sem, *]
      have b1 : w2.cell? ⟨w.heap.size + 1 + 1, 1, none⟩ = some (.slice none 0 0) := by simp [go_sem, *]
      have b2 : w2.cell? ⟨w.heap.size, 1, none⟩ = some (.slice A1 n1 c1) := by simp [go_sem, *]
      have b3 : w2.cell? ⟨w.heap.size + 1, 1, none⟩ = some (.slice A2 n2 c2) := by simp [go_sem, *]
      have f0 : w2.frozen? ⟨w.heap.size + 1 + 1, 0, none⟩ = false := by simp [go_sem, *]
      have f1 : w2.frozen? ⟨w.heap.size + 1 + 1, 1, none⟩ = false := by simp [go_sem, *]
      have s0 : ((((w2.setCell ⟨w.heap.size + 1 + 1, 0, none⟩ (.int .i64 (q + D))).setCell ⟨w.heap.size + 1 + 1, 1, none⟩ (.slice none 0 0)).setCell ⟨w.heap.size + 1 + 1, 0, none⟩ (.int .i64 q)).setCell ⟨w.heap.size + 1 + 1, 1, none⟩ (.slice none 0 0)).cell? ⟨w.heap.size + 1 + 1, 0, none⟩ = some (.int .i64 q) := by simp [cell_some, cell_if, b0, b1]
      have s1 : ((((w2.setCell ⟨w.heap.size + 1 + 1, 0, none⟩ (.int .i64 (q + D))).setCell ⟨w.heap.size + 1 + 1, 1, none⟩ (.slice none 0 0)).setCell ⟨w.heap.size + 1 + 1, 0, none⟩ (.int .i64 q)).setCell ⟨w.heap.size + 1 + 1, 1, none⟩ (.slice none 0 0)).cell? ⟨w.heap.size + 1 + 1, 1, none⟩ = some (.slice none 0 0) := by simp [cell_some, cell_if, b0, b1]
      have s2 : ((((w2.setCell ⟨w.heap.size + 1 + 1, 0, none⟩ (.int .i64 (q + D))).setCell ⟨w.heap.size + 1 + 1, 1, none⟩ (.slice none 0 0)).setCell ⟨w.heap.size + 1 + 1, 0, none⟩ (.int .i64 q)).setCell ⟨w.heap.size + 1 + 1, 1, none⟩ (.slice none 0 0)).cell? ⟨w.heap.size, 1, none⟩ = some (.slice A1 n1 c1) := by simp [cell_some, cell_if, b0, b1, b2]
      have s3 : ((((w2.setCell ⟨w.heap.size + 1 + 1, 0, none⟩ (.int .i64 (q + D))).setCell ⟨w.heap.size + 1 + 1, 1, none⟩ (.slice none 0 0)).setCell ⟨w.heap.size + 1 + 1, 0, none⟩ (.int .i64 q)).setCell ⟨w.heap.size + 1 + 1, 1, none⟩ (.slice none 0 0)).cell? ⟨w.heap.size + 1, 1, none⟩ = some (.slice A2 n2 c2) := by simp [cell_some, cell_if, b0, b1, b3]
      have g0 : ((((w2.setCell ⟨w.heap.size + 1 + 1, 0, none⟩ (.int .i64 (q + D))).setCell ⟨w.heap.size + 1 + 1, 1, none⟩ (.slice none 0 0)).setCell ⟨w.heap.size + 1 + 1, 0, none⟩ (.int .i64 q)).setCell ⟨w.heap.size + 1 + 1, 1, none⟩ (.slice none 0 0)).frozen? ⟨w.heap.size + 1 + 1, 0, none⟩ = false := by simp [go_sem, f0]
      have g1 : ((((w2.setCell ⟨w.heap.size + 1 + 1, 0, none⟩ (.int .i64 (q + D))).setCell ⟨w.heap.size + 1 + 1, 1, none⟩ (.slice none 0 0)).setCell ⟨w.heap.size + 1 + 1, 0, none⟩ (.int .i64 q)).setCell ⟨w.heap.size + 1 + 1, 1, none⟩ (.slice none 0 0)).frozen? ⟨w.heap.size + 1 + 1, 1, none⟩ = false := by simp [go_sem, f1]
      have hx3 : Below w.heap.size w ((((w2.setCell ⟨w.heap.size + 1 + 1, 0, none⟩ (.int .i64 (q + D))).setCell ⟨w.heap.size + 1 + 1, 1, none⟩ (.slice none 0 0)).setCell ⟨w.heap.size + 1 + 1, 0, none⟩ (.int .i64 q)).setCell ⟨w.heap.size + 1 + 1, 1, none⟩ (.slice none 0 0)) := (by repeat (first | exact hx2 | (refine Below.drew ?_) | (refine Below.alloc ?_ (by first | omega | (simp <;> omega)) _) | (refine Below.setCell ?_ (by first | omega | (simp <;> omega)) _) | exact Below.refl _ _))
      clear b0 b1 b2 b3 f0 f1 hx2 hc1 hf1 hc2 hf2
      generalize (((w2.setCell ⟨w.heap.size + 1 + 1, 0, none⟩ (.int .i64 (q + D))).setCell ⟨w.heap.size + 1 + 1, 1, none⟩ (.slice none 0 0)).setCell ⟨w.heap.size + 1 + 1, 0, none⟩ (.int .i64 q)).setCell ⟨w.heap.size + 1 + 1, 1, none⟩ (.slice none 0 0) = W at s0 s1 s2 s3 g0 g1 hx3 ⊢
      go_region_held3 (fun w' => w'.cell? ⟨w.heap.size, 1, none⟩ = some (.slice A1 n1 c1) ∧ w'.cell? ⟨w.heap.size + 1, 1, none⟩ = some (.slice A2 n2 c2) ∧ w'.cell? ⟨w.heap.size + 1 + 1, 0, none⟩ = some (.int .i64 q) ∧ w'.cell? ⟨w.heap.size + 1 + 1, 1, none⟩ = some (.slice none 0 0)) (refine ⟨?_, ?_, ?_, ?_⟩ <;> (first | (simp [go_sem, *]; done) | (refine keep_drew (keep_set (keep_set ?_ ?_) ?_) <;> simp [go_sem, *]))) (fail)
      all_goals go_wp2
      all_goals (try (exfalso; omega))
      all_goals
        refine bodyPost_ret (v := .tuple #[.agg #[.int .i64 q, .slice none 0 0], .int .i64 D, .int .i64 0, .int .i64 (D + (n1 : Int))]) (by simp [results, Try.results95, go_sem, *]) rfl ⟨q, D.toNat, 0, ((D + (n1 : Int))).toNat, by simp <;> omega, by omega, by omega, by omega, by omega, (by repeat (first | exact hx3 | (refine Below.drew ?_) | (refine Below.alloc ?_ (by first | omega | (simp <;> omega)) _) | (refine Below.setCell ?_ (by first | omega | (simp <;> omega)) _) | exact Below.refl _ _))⟩
end Go.Proofs.Ytokgfeeaoioegaa
