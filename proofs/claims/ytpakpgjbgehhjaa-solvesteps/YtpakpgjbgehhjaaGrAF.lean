/-
  Texts put together: WantM.
-/
import Derived.Test.YtpakpgjbgehhjaaProg
import Derived.Test.YtpakpgjbgehhjaaGrZ
import Derived.Test.YtpakpgjbgehhjaaGrAB
/-
  A slice of the call's own that is stored into; what a triangle's answer is, kept in a list that was copied. No conditions.
-/
namespace Go.Proofs.Ytpakpgjbgehhjaa
open Go.RowKit
set_option linter.unusedVariables false

/-- Block g, of the call's own: its first n numbers are Y. -/
def WRow (w : World) (g n : Nat) (Y : Nat → Int) : Prop :=
  ∃ cs : Array Value, w.heap[g]? = some (.cells cs 23 (0, 0)) ∧ n ≤ cs.size ∧ ∀ i, i < n → cs[i]? = some (.int .u64 (Y i))
theorem WRow.lt {w : World} {g n : Nat} {Y : Nat → Int} (h : WRow w g n Y) : g < w.heap.size := by
  obtain ⟨cs, h1, _⟩ := h
  exact (Array.getElem?_eq_some_iff.1 h1).1
theorem WRow.cell {w : World} {g n : Nat} {Y : Nat → Int} (h : WRow w g n Y) (i : Nat) (hi : i < n) : w.cell? ⟨g, i, none⟩ = some (.int .u64 (Y i)) := by
  obtain ⟨cs, h1, h2, h3⟩ := h
  unfold World.cell?
  rw [h1]
  simp [h3 i hi]
theorem WRow.cellE {w : World} {g n : Nat} {Y : Nat → Int} (h : WRow w g n Y) (i : Nat) (hi : i < n) {v : Int} (hv : Y i = v) : w.cell? ⟨g, i, none⟩ = some (.int .u64 v) := by rw [← hv]; exact h.cell i hi
theorem WRow.frozen {w : World} {g n : Nat} {Y : Nat → Int} (h : WRow w g n Y) (i : Nat) : w.frozen? ⟨g, i, none⟩ = false := by
  obtain ⟨cs, h1, h2, h3⟩ := h
  unfold World.frozen?
  rw [h1]
  simp
theorem WRow.put {w : World} {g n : Nat} {Y Y' : Nat → Int} (h : WRow w g n Y) (i : Nat) (y : Int) (hy : ∀ k, k < n → Y' k = if k = i then y else Y k) : WRow (w.setCell ⟨g, i, none⟩ (.int .u64 y)) g n Y' := by
  obtain ⟨cs, h1, h2, h3⟩ := h
  refine ⟨cs.setIfInBounds i (.int .u64 y), ?_, ?_, fun k hk => ?_⟩
  · simp [World.setCell, Array.getElem?_modify, h1]
  · simp; exact h2
  · rw [Array.getElem?_setIfInBounds, hy k hk]
    by_cases e : i = k
    · subst e
      rw [if_pos rfl, if_pos (by omega), if_pos rfl]
    · rw [if_neg e, if_neg (fun g => e g.symm)]
      exact h3 k hk
theorem WRow.congr {w : World} {g n : Nat} {Y Y' : Nat → Int} (h : WRow w g n Y) (hy : ∀ k, k < n → Y' k = Y k) : WRow w g n Y' := by
  obtain ⟨cs, h1, h2, h3⟩ := h
  exact ⟨cs, h1, h2, fun i hi => by rw [h3 i hi, hy i hi]⟩
theorem WRow.below {w w' : World} {g n : Nat} {Y : Nat → Int} (h : WRow w g n Y) (hb : Below w.heap.size w w') : WRow w' g n Y := by
  have hl := h.lt
  obtain ⟨cs, h1, h2, h3⟩ := h
  exact ⟨cs, by rw [hb.block g hl]; exact h1, h2, h3⟩
theorem WRow.bes {w w' : World} {c : Option Nat} {g n : Nat} {Y : Nat → Int} (h : WRow w g n Y) (hb : Bes c w w') (hc : c ≠ some g) : WRow w' g n Y := by
  have hl := h.lt
  obtain ⟨cs, h1, h2, h3⟩ := h
  exact ⟨cs, by rw [hb.block g hl hc]; exact h1, h2, h3⟩
theorem OwnU.wrow {w : World} {base g n cap : Nat} {Y : Nat → Int} (h : OwnU w base (.slice (some ⟨g, 0, none⟩) n cap) (lst Y n)) : WRow w g n Y := by
  obtain ⟨h, hne⟩ := h
  rcases h.2 with ⟨h0, _⟩ | ⟨g', cap', cur, e, hbg, hgg, hnc, hcm, hcs, htake⟩
  · exact absurd h0 hne
  · injection e with e1 e2 e3
    injection e1 with e1
    injection e1 with e1
    subst e1
    rw [Nat.mul_one, lst_len] at htake
    rw [Nat.mul_one] at hcs
    rw [lst_len] at hnc
    refine ⟨cur, hgg, by omega, fun i hi => ?_⟩
    have h2 : (List.take n cur.toList)[i]? = ((lst Y n).map (Value.int .u64))[i]? := by rw [htake]
    rw [List.getElem?_take, if_pos hi, Array.getElem?_toList] at h2
    rw [h2, List.getElem?_map]
    unfold lst
    simp [hi]
/-- Whether a row has been reached ahead of step s. -/
def donB (up : Bool) (C s k : Nat) : Bool := if up then decide (C - s ≤ k) else decide (k < s)
/-- What the list holds ahead of step s. -/
def wnV (up un : Bool) (Z : Nat → Int) (S C : Nat) (Bv : Nat → Int) (s k : Nat) : Int := if donB up C s k = true then svX up un Z S C Bv s k else Bv k
/-- What it holds within step s, behind j columns. -/
def wjV (up un : Bool) (Z : Nat → Int) (S C : Nat) (Bv : Nat → Int) (s j k : Nat) : Int := if k = svI up C s then gatV subS (Bv (svI up C s)) (fun k => Z (svI up C s * S + k)) (svX up un Z S C Bv s) (tb up (svI up C s)) (gp up (svI up C s) j) else wnV up un Z S C Bv s k
theorem wnV_zero (up un : Bool) (Z : Nat → Int) (S C : Nat) (Bv : Nat → Int) (k : Nat) (hk : k < C) : wnV up un Z S C Bv 0 k = Bv k := by
  unfold wnV donB
  cases up <;> simp <;> omega
theorem wjV_zero (up un : Bool) (Z : Nat → Int) (S C : Nat) (Bv : Nat → Int) (s k : Nat) (hs : s < C) (hk : k < C) : wjV up un Z S C Bv s 0 k = wnV up un Z S C Bv s k := by
  unfold wjV
  split
  · rename_i e
    rw [gp_zero, e]
    have : donB up C s (svI up C s) = false := by unfold donB svI; cases up <;> simp <;> omega
    unfold wnV
    rw [this, if_neg (by simp)]
    rfl
  · rfl
theorem wjV_in (up un : Bool) (Z : Nat → Int) (S C : Nat) (Bv : Nat → Int) (s j : Nat) (hs : s < C) (hj : j < C) (h : (if up then decide (svI up C s < j) else decide (j < svI up C s)) = true) : wjV up un Z S C Bv s j j = svX up un Z S C Bv s j := by
  have h1 : j ≠ svI up C s := by intro e; rw [← e] at h; cases up <;> simp at h
  have h2 : donB up C s j = true := by unfold donB; unfold svI at h; cases up <;> simp at h ⊢ <;> omega
  unfold wjV wnV
  rw [if_neg h1, if_pos h2]
theorem wjV_self (up un : Bool) (Z : Nat → Int) (S C : Nat) (Bv : Nat → Int) (s j : Nat) : wjV up un Z S C Bv s j (svI up C s) = gatV subS (Bv (svI up C s)) (fun k => Z (svI up C s * S + k)) (svX up un Z S C Bv s) (tb up (svI up C s)) (gp up (svI up C s) j) := by
  unfold wjV
  rw [if_pos rfl]
theorem wjV_other (up un : Bool) (Z : Nat → Int) (S C : Nat) (Bv : Nat → Int) (s j j' k : Nat) (h : k ≠ svI up C s) : wjV up un Z S C Bv s j k = wjV up un Z S C Bv s j' k := by
  unfold wjV
  rw [if_neg h, if_neg h]
theorem wnV_succ (up un : Bool) (Z : Nat → Int) (S C : Nat) (Bv : Nat → Int) (s k : Nat) (hs : s < C) (hk : k < C) : wnV up un Z S C Bv (s + 1) k = if k = svI up C s then svQ un (wjV up un Z S C Bv s C (svI up C s)) (Z (svI up C s * S + svI up C s)) else wjV up un Z S C Bv s C k := by
  have hiC : svI up C s < C := by unfold svI; cases up <;> simp <;> omega
  by_cases e : k = svI up C s
  · rw [if_pos e, wjV_self, gp_all up C _ hiC]
    have h2 : donB up C (s + 1) k = true := by rw [e]; unfold donB svI; cases up <;> simp <;> omega
    unfold wnV
    rw [if_pos h2]
    show (if k = svI up C s then _ else _) = _
    rw [if_pos e]
    rfl
  · rw [if_neg e]
    unfold wjV
    rw [if_neg e]
    unfold wnV
    have h2 : donB up C (s + 1) k = donB up C s k := by unfold donB; unfold svI at e; cases up <;> simp at e ⊢ <;> omega
    rw [h2]
    split
    · show (if k = svI up C s then _ else _) = _
      rw [if_neg e]
    · rfl
theorem wnV_end (up un : Bool) (Z : Nat → Int) (S C : Nat) (Bv : Nat → Int) (k : Nat) (hk : k < C) : wnV up un Z S C Bv C k = svX up un Z S C Bv C k := by
  have h2 : donB up C C k = true := by unfold donB; cases up <;> simp <;> omega
  unfold wnV
  rw [if_pos h2]
theorem svX_rng (up un : Bool) (Z : Nat → Int) (S C : Nat) (Bv : Nat → Int) (hB : ∀ i, 0 ≤ Bv i ∧ Bv i < 18446744073709551616) (hZ : ∀ i, 0 ≤ Z i ∧ Z i < 18446744073709551616) : ∀ s k, 0 ≤ svX up un Z S C Bv s k ∧ svX up un Z S C Bv s k < 18446744073709551616
  | 0, k => ⟨Int.le_refl _, by show (0 : Int) < _; decide⟩
  | s + 1, k => by
    show 0 ≤ (if k = svI up C s then _ else _) ∧ (if k = svI up C s then _ else _) < _
    split
    · obtain ⟨r0, r1⟩ := svR_rng up Z S C Bv (svX up un Z S C Bv s) (svI up C s) hB
      obtain ⟨d0, d1⟩ := hZ (svI up C s * S + svI up C s)
      exact svQ_rng un _ _ r0 r1 d0 d1
    · exact svX_rng up un Z S C Bv hB hZ s k
end Go.Proofs.Ytpakpgjbgehhjaa
