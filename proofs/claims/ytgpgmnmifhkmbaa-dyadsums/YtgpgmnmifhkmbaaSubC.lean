/-
  What Sub of package dyad returns: a difference. Conditions: lists are short, places small.
-/
import Derived.Test.YtgpgmnmifhkmbaaAddD
namespace Go.Proofs.Ytgpgmnmifhkmbaa
open Go.RowKit
set_option linter.unusedVariables false
set_option linter.unusedSimpArgs false

theorem Tell.flip {w : World} {B : Nat} {nb : Bool} {s : Value} {q : Int} {k : Nat} {L Y : Int} (h : Tell w B (.agg #[.bool nb, s, .int .i64 q, .slice none 0 0]) k L Y) : Tell w B (.agg #[.bool (!nb), s, .int .i64 q, .slice none 0 0]) k L (-Y) := by
  obtain ⟨neg, ws, p, ⟨t, e, h1, h9⟩, h2, h3, h4, h5⟩ := h
  simp at e
  obtain ⟨rfl, rfl, rfl⟩ := e
  refine ⟨!nb, ws, q, ⟨s, rfl, h1, h9⟩, h2, h3, h4, ?_⟩
  rw [h5, sg_not, Int.neg_mul]
set_option maxHeartbeats 1000000 in
theorem dSub (a b : Value) (w : World) (B K : Nat) (L X Y : Int) (ha : Tell w B a K L X) (hb : Tell w B b K L Y) (hk : K ≤ 90000) (hL : L ≤ 90000) (hL0 : 0 ≤ L) :
    Calls Try.prog 16 #[a, b] w fun e w' => ∃ r, e = .returned r ∧ Tell w' w.heap.size r K (L + 1) (X - Y) ∧ Below w.heap.size w w' := by
  have HA : Hid (Tell w B a K L X) := ha
  have HB0 := hb
  obtain ⟨na, A1, n1, c1, p, rfl⟩ := ha.form
  obtain ⟨nb, A2, n2, c2, q, rfl⟩ := hb.form
  have HB : Hid (Tell w B _ K L (-Y)) := HB0.flip
  clear ha hb HB0
  go_enter Try.func16, Try.ntmps16
  go_wp2_with fail
  refine (dAdd _ _ _ B K L X (-Y) (HA.out.below (by repeat (first | (refine Below.drew ?_) | (refine Below.alloc ?_ (by first | omega | (simp <;> omega)) _) | (refine Below.setCell ?_ (by first | omega | (simp <;> omega)) _) | exact Below.refl _ _))) (HB.out.below (by repeat (first | (refine Below.drew ?_) | (refine Below.alloc ?_ (by first | omega | (simp <;> omega)) _) | (refine Below.setCell ?_ (by first | omega | (simp <;> omega)) _) | exact Below.refl _ _))) hk hL hL0).mono ?_
  rintro e w1 ⟨r, rfl, ht, hb1⟩
  rw [show X + -Y = X - Y by omega] at ht
  obtain ⟨neg', a', n', c', p', rfl⟩ := ht.form
  have T : Hid (Tell _ _ _ _ _ _) := ht
  have hx : Below w.heap.size w w1 := Below.trans (by repeat (first | (refine Below.drew ?_) | (refine Below.alloc ?_ (by first | omega | (simp <;> omega)) _) | (refine Below.setCell ?_ (by first | omega | (simp <;> omega)) _) | exact Below.refl _ _)) (hb1.mono (by first | omega | (simp <;> omega)))
  obtain ⟨hc, hf⟩ := bcell hb1
  have hz : w.heap.size + 1 + 1 < w1.heap.size := by have := hb1.size; simp at this; omega
  clear ht hb1
  go_wp2
  refine bodyPost_ret (v := .agg #[.bool neg', .slice a' n' c', .int .i64 p', .slice none 0 0]) (by simp [results, Try.results16, go_sem, *]) rfl ⟨_, rfl, ?_, (by repeat (first | exact hx | (refine Below.drew ?_) | (refine Below.alloc ?_ (by first | omega | (simp <;> omega)) _) | (refine Below.setCell ?_ (by first | omega | (simp <;> omega)) _) | exact Below.refl _ _))⟩
  refine Tell.base (b := w.heap.size + 3) ?_ (by omega)
  repeat (first | exact T.out.base (by simp) | (refine Tell.set ?_ (by simp) _))
end Go.Proofs.Ytgpgmnmifhkmbaa
