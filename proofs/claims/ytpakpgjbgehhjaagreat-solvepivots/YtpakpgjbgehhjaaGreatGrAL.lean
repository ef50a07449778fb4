/-
  Texts put together: SysM SysN.
-/
import Derived.Test.YtpakpgjbgehhjaaGreatProg
import Derived.Test.YtpakpgjbgehhjaaGreatGrZ
import Derived.Test.YtpakpgjbgehhjaaGreatGrK
import Derived.Test.YtpakpgjbgehhjaaGreatGrU
/-
  A small system of equations in memory (solve's own 'system'): its matrix, and which row and column stand where; what at and set do. Conditions: a square matrix that is right; places within it.
-/
namespace Go.Proofs.YtpakpgjbgehhjaaGreat
open Go.RowKit
set_option linter.unusedVariables false
set_option linter.unusedSimpArgs false

/-- Block g, of the call's own: its first n whole numbers are f. -/
def RowN (w : World) (g n : Nat) (f : Nat → Nat) : Prop :=
  ∃ cs : Array Value, w.heap[g]? = some (.cells cs 3 (0, 0)) ∧ n ≤ cs.size ∧ ∀ i, i < n → cs[i]? = some (.int .i64 (f i : Int))
theorem RowN.lt {w : World} {g n : Nat} {f : Nat → Nat} (h : RowN w g n f) : g < w.heap.size := by
  obtain ⟨cs, h1, _⟩ := h
  exact (Array.getElem?_eq_some_iff.1 h1).1
theorem RowN.cell {w : World} {g n : Nat} {f : Nat → Nat} (h : RowN w g n f) (i : Nat) (hi : i < n) : w.cell? ⟨g, i, none⟩ = some (.int .i64 (f i : Int)) := by
  obtain ⟨cs, h1, h2, h3⟩ := h
  unfold World.cell?
  rw [h1]
  simp [h3 i hi]
theorem RowN.cellE {w : World} {g n : Nat} {f : Nat → Nat} (h : RowN w g n f) (i : Nat) (hi : i < n) {v : Nat} (hv : f i = v) : w.cell? ⟨g, i, none⟩ = some (.int .i64 (v : Int)) := by rw [← hv]; exact h.cell i hi
theorem RowN.frozen {w : World} {g n : Nat} {f : Nat → Nat} (h : RowN w g n f) (i : Nat) : w.frozen? ⟨g, i, none⟩ = false := by
  obtain ⟨cs, h1, h2, h3⟩ := h
  unfold World.frozen?
  rw [h1]
  simp
theorem RowN.put {w : World} {g n : Nat} {f f' : Nat → Nat} (h : RowN w g n f) (i y : Nat) (hy : ∀ k, k < n → f' k = if k = i then y else f k) : RowN (w.setCell ⟨g, i, none⟩ (.int .i64 (y : Int))) g n f' := by
  obtain ⟨cs, h1, h2, h3⟩ := h
  refine ⟨cs.setIfInBounds i (.int .i64 (y : Int)), ?_, ?_, fun k hk => ?_⟩
  · simp [World.setCell, Array.getElem?_modify, h1]
  · simp; exact h2
  · rw [Array.getElem?_setIfInBounds, hy k hk]
    by_cases e : i = k
    · subst e
      rw [if_pos rfl, if_pos (by omega), if_pos rfl]
    · rw [if_neg e, if_neg (fun g => e g.symm)]
      exact h3 k hk
theorem RowN.congr {w : World} {g n : Nat} {f f' : Nat → Nat} (h : RowN w g n f) (hy : ∀ k, k < n → f' k = f k) : RowN w g n f' := by
  obtain ⟨cs, h1, h2, h3⟩ := h
  exact ⟨cs, h1, h2, fun i hi => by rw [h3 i hi, hy i hi]⟩
theorem RowN.below {w w' : World} {g n : Nat} {f : Nat → Nat} (h : RowN w g n f) (hb : Below w.heap.size w w') : RowN w' g n f := by
  have hl := h.lt
  obtain ⟨cs, h1, h2, h3⟩ := h
  exact ⟨cs, by rw [hb.block g hl]; exact h1, h2, h3⟩
theorem RowN.bes {w w' : World} {c : Option Nat} {g n : Nat} {f : Nat → Nat} (h : RowN w g n f) (hb : Bes c w w') (hc : c ≠ some g) : RowN w' g n f := by
  have hl := h.lt
  obtain ⟨cs, h1, h2, h3⟩ := h
  exact ⟨cs, by rw [hb.block g hl hc]; exact h1, h2, h3⟩
theorem TBox.madeS (w : World) (C S : Int) (s u v : Value) : TBox (w.alloc (.cells #[.int .i64 C, .int .i64 C, .int .i64 S, s, u, v] 82)) w.heap.size C S s u v := by
  refine ⟨?_, ?_, ?_, ?_, ?_, ?_, by simp⟩ <;> simp [go_sem]
theorem TBox.cells {w : World} {b : Nat} {C S : Int} {s u v : Value} (h : TBox w b C S s u v) : w.cell? ⟨b, 0, none⟩ = some (.int .i64 C) ∧ w.cell? ⟨b, 1, none⟩ = some (.int .i64 C) ∧ w.cell? ⟨b, 2, none⟩ = some (.int .i64 S) ∧ w.cell? ⟨b, 3, none⟩ = some s ∧ w.cell? ⟨b, 4, none⟩ = some u ∧ w.cell? ⟨b, 5, none⟩ = some v := ⟨h.1, h.2.1, h.2.2.1, h.2.2.2.1, h.2.2.2.2.1, h.2.2.2.2.2.1⟩
set_option maxHeartbeats 2000000 in
/-- What stands at (i, k) now. -/
theorem yAt (C D gm gr gc : Nat) (xs : List Int) (rs cs : Nat → Nat) (i k p q : Nat) (x : Int) (w : World) (h : Rgt (C : Int) (C : Int) (C : Int) D) (hx : RowU w gm xs) (hl : xs.length = D) (hD : D ≤ 1000000) (hw : InW xs) (hr : RowN w gr C rs) (hc : RowN w gc C cs) (hi : i < C) (hk : k < C) (hp : rs i = p) (hq : cs k = q) (hp2 : p < C) (hq2 : q < C) (hv : xs[p * C + q]?.getD 0 = x) :
    Calls Tryz.prog 81 #[.agg #[.int .i64 (C : Int), .int .i64 (C : Int), .int .i64 (C : Int), .slice (some ⟨gm, 0, none⟩) D D, .slice (some ⟨gr, 0, none⟩) C C, .slice (some ⟨gc, 0, none⟩) C C], .int .i64 (i : Int), .int .i64 (k : Int)] w fun e w' => e = .returned (.int .u64 x) ∧ Below w.heap.size w w' := by
  have HH : Hid (Rgt (C : Int) (C : Int) (C : Int) D) := h
  have UX : Hid (URow w (some ⟨gm, 0, none⟩) D D (fun j => xs[j]?.getD 0)) := hx.rowZ hl hD hw
  have r1 : Hid (w.cell? ⟨gr, i, none⟩ = some (.int .i64 (p : Int)) ∧ gr < w.heap.size) := ⟨hr.cellE i hi hp, hr.lt⟩
  have c1 : Hid (w.cell? ⟨gc, k, none⟩ = some (.int .i64 (q : Int)) ∧ gc < w.heap.size) := ⟨hc.cellE k hk hq, hc.lt⟩
  have HV : Hid (xs[p * C + q]?.getD 0 = x) := hv
  have hi2 : (i : Int) < (C : Int) := by omega
  have hk2 : (k : Int) < (C : Int) := by omega
  have hp3 : (p : Int) < (C : Int) := by omega
  have hq3 : (q : Int) < (C : Int) := by omega
  clear h hx hr hc hp hq hv hw
  go_enter Tryz.func81, Tryz.ntmps81
  go_wp2_with fail
  have mT := TBox.madeS w (C : Int) (C : Int) (.slice (some ⟨gm, 0, none⟩) D D) (.slice (some ⟨gr, 0, none⟩) C C) (.slice (some ⟨gc, 0, none⟩) C C)
  have b0 : Below w.heap.size w (w.alloc (.cells #[.int .i64 (C : Int), .int .i64 (C : Int), .int .i64 (C : Int), .slice (some ⟨gm, 0, none⟩) D D, .slice (some ⟨gr, 0, none⟩) C C, .slice (some ⟨gc, 0, none⟩) C C] 82)) := bmore (Below.refl _ _) _
  generalize (w.alloc (.cells #[.int .i64 (C : Int), .int .i64 (C : Int), .int .i64 (C : Int), .slice (some ⟨gm, 0, none⟩) D D, .slice (some ⟨gr, 0, none⟩) C C, .slice (some ⟨gc, 0, none⟩) C C] 82)) = W0 at mT b0 ⊢
  obtain ⟨kt, hkt⟩ : ∃ k, k = w.heap.size := ⟨_, rfl⟩
  rw [← hkt] at mT ⊢
  clear hkt
  obtain ⟨t0, t1, t2, t3, t4, t5⟩ := mT.cells
  have r2 := (Below.cell (p := ⟨gr, i, none⟩) b0 r1.out.2).trans r1.out.1
  have c2 := (Below.cell (p := ⟨gc, k, none⟩) b0 c1.out.2).trans c1.out.1
  have lr : gr < W0.heap.size := Nat.lt_of_lt_of_le r1.out.2 b0.size
  have lc : gc < W0.heap.size := Nat.lt_of_lt_of_le c1.out.2 b0.size
  have UY : Hid (URow W0 (some ⟨gm, 0, none⟩) D D (fun j => xs[j]?.getD 0)) := UX.out.below b0
  have B0 : Hid (Below w.heap.size w W0) := b0
  have MT : Hid (TBox _ _ _ _ _ _ _) := mT
  have HB : Hid (Below W0.heap.size W0 W0) := Below.refl _ _
  clear mT b0 r1 c1 UX
  go_region_held3 (fun w' => (w'.cell? ⟨kt, 0, none⟩ = some (.int .i64 (C : Int)) ∧ w'.cell? ⟨kt, 1, none⟩ = some (.int .i64 (C : Int)) ∧ w'.cell? ⟨kt, 2, none⟩ = some (.int .i64 (C : Int)) ∧ w'.cell? ⟨kt, 3, none⟩ = some (.slice (some ⟨gm, 0, none⟩) D D) ∧ w'.cell? ⟨kt, 4, none⟩ = some (.slice (some ⟨gr, 0, none⟩) C C) ∧ w'.cell? ⟨kt, 5, none⟩ = some (.slice (some ⟨gc, 0, none⟩) C C)) ∧ w'.cell? ⟨gr, i, none⟩ = some (.int .i64 (p : Int)) ∧ w'.cell? ⟨gc, k, none⟩ = some (.int .i64 (q : Int))) (exact ⟨(MT.out.below (by with_reducible repeat (first | (refine Below.drew ?_) | exact HB.out | exact Below.refl _ _))).cells, ((Below.cell (by with_reducible repeat (first | (refine Below.drew ?_) | exact HB.out | exact Below.refl _ _)) lr).trans r2), ((Below.cell (by with_reducible repeat (first | (refine Below.drew ?_) | exact HB.out | exact Below.refl _ _)) lc).trans c2)⟩) (first | (go_at_call 13; refine (mAtN C C C _ D D _ p q _ HH.out (UY.out.below (by first | exact (Below.refl _ _).drew | exact Below.refl _ _)) hp2 hq2).mono ?_; rintro e w3 ⟨rfl, hb3⟩; rw [HV.out]; replace HB : Hid (Below W0.heap.size W0 w3) := (by first | exact hb3 | exact ((Below.refl _ _).drew).trans hb3); clear hb3))
  go_wp2
  go_ret
  exact ⟨ret_eq rfl, bstep B0.out HB.out⟩
set_option maxHeartbeats 2000000 in
/-- A number put at (i, k). -/
theorem ySet (C D gm gr gc : Nat) (xs : List Int) (rs cs : Nat → Nat) (i k p q : Nat) (x : Int) (w : World) (h : Rgt (C : Int) (C : Int) (C : Int) D) (hx : RowU w gm xs) (hl : xs.length = D) (hD : D ≤ 1000000) (hr : RowN w gr C rs) (hc : RowN w gc C cs) (hi : i < C) (hk : k < C) (hp : rs i = p) (hq : cs k = q) (hp2 : p < C) (hq2 : q < C) (ngr : gm ≠ gr) (ngc : gm ≠ gc) :
    Calls Tryz.prog 82 #[.agg #[.int .i64 (C : Int), .int .i64 (C : Int), .int .i64 (C : Int), .slice (some ⟨gm, 0, none⟩) D D, .slice (some ⟨gr, 0, none⟩) C C, .slice (some ⟨gc, 0, none⟩) C C], .int .i64 (i : Int), .int .i64 (k : Int), .int .u64 x] w fun e w' => e = .returned (.tuple #[]) ∧ RowU w' gm (xs.set (p * C + q) x) ∧ Bes (some gm) w w' := by
  have HH : Hid (Rgt (C : Int) (C : Int) (C : Int) D) := h
  have RX : Hid (RowU w gm xs) := hx
  have r1 : Hid (w.cell? ⟨gr, i, none⟩ = some (.int .i64 (p : Int)) ∧ gr < w.heap.size) := ⟨hr.cellE i hi hp, hr.lt⟩
  have c1 : Hid (w.cell? ⟨gc, k, none⟩ = some (.int .i64 (q : Int)) ∧ gc < w.heap.size) := ⟨hc.cellE k hk hq, hc.lt⟩
  have NR : Hid (gm ≠ gr) := ngr
  have NC : Hid (gm ≠ gc) := ngc
  have hi2 : (i : Int) < (C : Int) := by omega
  have hk2 : (k : Int) < (C : Int) := by omega
  have hp3 : (p : Int) < (C : Int) := by omega
  have hq3 : (q : Int) < (C : Int) := by omega
  have hpq : ((p : Int) * (C : Int) + (q : Int)).toNat = p * C + q := by rw [show (p : Int) * (C : Int) + (q : Int) = ((p * C + q : Nat) : Int) by push_cast; rfl]; exact Int.toNat_natCast _
  have HPQ : Hid (_ = _) := hpq
  clear h hx hr hc hp hq ngr ngc hpq
  go_enter Tryz.func82, Tryz.ntmps82
  go_wp2_with fail
  have mT := TBox.madeS w (C : Int) (C : Int) (.slice (some ⟨gm, 0, none⟩) D D) (.slice (some ⟨gr, 0, none⟩) C C) (.slice (some ⟨gc, 0, none⟩) C C)
  have b0 : Below w.heap.size w (w.alloc (.cells #[.int .i64 (C : Int), .int .i64 (C : Int), .int .i64 (C : Int), .slice (some ⟨gm, 0, none⟩) D D, .slice (some ⟨gr, 0, none⟩) C C, .slice (some ⟨gc, 0, none⟩) C C] 82)) := bmore (Below.refl _ _) _
  generalize (w.alloc (.cells #[.int .i64 (C : Int), .int .i64 (C : Int), .int .i64 (C : Int), .slice (some ⟨gm, 0, none⟩) D D, .slice (some ⟨gr, 0, none⟩) C C, .slice (some ⟨gc, 0, none⟩) C C] 82)) = W0 at mT b0 ⊢
  obtain ⟨kt, hkt⟩ : ∃ k, k = w.heap.size := ⟨_, rfl⟩
  rw [← hkt] at mT ⊢
  have NK : Hid (gm ≠ kt) := by have := RX.out.lt; show _ ≠ _; omega
  clear hkt
  obtain ⟨t0, t1, t2, t3, t4, t5⟩ := mT.cells
  have r2 := (Below.cell (p := ⟨gr, i, none⟩) b0 r1.out.2).trans r1.out.1
  have c2 := (Below.cell (p := ⟨gc, k, none⟩) b0 c1.out.2).trans c1.out.1
  have lr : gr < W0.heap.size := Nat.lt_of_lt_of_le r1.out.2 b0.size
  have lc : gc < W0.heap.size := Nat.lt_of_lt_of_le c1.out.2 b0.size
  have RY : Hid (RowU W0 gm xs) := RX.out.below b0
  have B0 : Hid (Below w.heap.size w W0) := b0
  have MT : Hid (TBox _ _ _ _ _ _ _) := mT
  have HB : Hid (Bes (some gm) W0 W0) := Bes.refl _ _
  clear mT b0 r1 c1 RX
  go_region_held3 (fun w' => (w'.cell? ⟨kt, 0, none⟩ = some (.int .i64 (C : Int)) ∧ w'.cell? ⟨kt, 1, none⟩ = some (.int .i64 (C : Int)) ∧ w'.cell? ⟨kt, 2, none⟩ = some (.int .i64 (C : Int)) ∧ w'.cell? ⟨kt, 3, none⟩ = some (.slice (some ⟨gm, 0, none⟩) D D) ∧ w'.cell? ⟨kt, 4, none⟩ = some (.slice (some ⟨gr, 0, none⟩) C C) ∧ w'.cell? ⟨kt, 5, none⟩ = some (.slice (some ⟨gc, 0, none⟩) C C)) ∧ w'.cell? ⟨gr, i, none⟩ = some (.int .i64 (p : Int)) ∧ w'.cell? ⟨gc, k, none⟩ = some (.int .i64 (q : Int))) (exact ⟨(MT.out.bes (by with_reducible repeat (first | (refine Bes.drew ?_) | exact HB.out | exact Bes.refl _ _)) (ne_some NK.out)).cells, ((Bes.cell (by with_reducible repeat (first | (refine Bes.drew ?_) | exact HB.out | exact Bes.refl _ _)) lr (ne_some NR.out)).trans r2), ((Bes.cell (by with_reducible repeat (first | (refine Bes.drew ?_) | exact HB.out | exact Bes.refl _ _)) lc (ne_some NC.out)).trans c2)⟩) (first | (go_at_call 27; refine (mSet (C : Int) (C : Int) (C : Int) gm D D xs (p : Int) (q : Int) x _ HH.out (RY.out.below (by first | exact (Below.refl _ _).drew | exact Below.refl _ _)) hl (Nat.le_refl _) (by omega) (by omega)).mono ?_; rintro e w3 ⟨rfl, hR, hb3⟩; rw [HPQ.out] at hR; have RZ : Hid (RowU w3 gm (xs.set (p * C + q) x)) := hR; replace HB : Hid (Bes (some gm) W0 w3) := (by first | exact hb3 | exact ((Bes.refl _ _).drew).trans hb3); clear hb3 hR))
  go_wp2
  refine bodyPost_end (results_none rfl _ _ _) rfl ?_
  exact ⟨rfl, RZ.out, (Bes.of B0.out).trans HB.out⟩
end Go.Proofs.YtpakpgjbgehhjaaGreat

/-
  What solve's own laid and back do with a list: in the order in which the rows stand; back in the order in which the columns stood. Conditions: as many numbers as rows.
-/
namespace Go.Proofs.YtpakpgjbgehhjaaGreat
open Go.RowKit
set_option linter.unusedVariables false
set_option linter.unusedSimpArgs false

set_option maxHeartbeats 4000000 in
set_option maxRecDepth 100000 in
theorem yLaid (C D gm gr gc : Nat) (rs : Nat → Nat) (ab : Option Addr) (cb : Nat) (B : Nat → Int) (w : World) (hC : C ≤ 1000) (hr : RowN w gr C rs) (hrs : ∀ i, i < C → rs i < C) (hb : URow w ab C cb B) :
    Calls Tryz.prog 53 #[.agg #[.int .i64 (C : Int), .int .i64 (C : Int), .int .i64 (C : Int), .slice (some ⟨gm, 0, none⟩) D D, .slice (some ⟨gr, 0, none⟩) C C, .slice (some ⟨gc, 0, none⟩) C C], .slice ab C cb] w fun e w' => ∃ g, e = .returned (.slice (some ⟨g, 0, none⟩) C C) ∧ w.heap.size ≤ g ∧ URow w' (some ⟨g, 0, none⟩) C C (fun i => B (rs i)) ∧ Below w.heap.size w w' := by
  have HR : Hid (RowN w gr C rs) := hr
  have HRS : Hid (∀ i, i < C → rs i < C) := hrs
  have HB : Hid (URow w ab C cb B) := hb
  obtain ⟨lb, cb2⟩ := hb.lenB
  have BR : Hid (∀ i, 0 ≤ B i ∧ B i < 18446744073709551616) := hb.2.2.1
  have mk := mk_run C (by omega)
  obtain ⟨O, hO⟩ : ∃ O, O = ((List.replicate C (0 : Int)).map (Value.int .u64)).toArray := ⟨_, rfl⟩
  have HO : Hid (∀ (W : World), RowU (W.alloc (.cells O 36)) W.heap.size (List.replicate C 0)) := by
    rw [hO]
    intro W
    unfold RowU
    exact heap_alloc_new W _
  rw [← hO] at mk
  clear hr hrs hb hO
  go_enter Tryz.func53, Tryz.ntmps53
  go_upto_region 1 with fail
  have mT := TBox.madeS w (C : Int) (C : Int) (.slice (some ⟨gm, 0, none⟩) D D) (.slice (some ⟨gr, 0, none⟩) C C) (.slice (some ⟨gc, 0, none⟩) C C)
  have b0 : Below w.heap.size w (w.alloc (.cells #[.int .i64 (C : Int), .int .i64 (C : Int), .int .i64 (C : Int), .slice (some ⟨gm, 0, none⟩) D D, .slice (some ⟨gr, 0, none⟩) C C, .slice (some ⟨gc, 0, none⟩) C C] 82)) := bmore (Below.refl _ _) _
  generalize (w.alloc (.cells #[.int .i64 (C : Int), .int .i64 (C : Int), .int .i64 (C : Int), .slice (some ⟨gm, 0, none⟩) D D, .slice (some ⟨gr, 0, none⟩) C C, .slice (some ⟨gc, 0, none⟩) C C] 82)) = W0 at mT b0 ⊢
  obtain ⟨kt, hkt⟩ : ∃ k, k = w.heap.size := ⟨_, rfl⟩
  rw [← hkt] at mT ⊢
  have MT : Hid (TBox _ _ _ _ _ _ _) := mT
  have B0 : Hid (Below w.heap.size w W0) := b0
  clear mT b0 hkt
  go_upto_region 2 with fail
  have bA : Below W0.heap.size W0 (W0.alloc (.cells O 36)) := bmore (Below.refl _ _) _
  have RW := HO.out W0
  obtain ⟨g1, hg1⟩ : ∃ g, g = W0.heap.size := ⟨_, rfl⟩
  have HG1 : Hid (w.heap.size ≤ g1) := by show _ ≤ _; have := Below.size B0.out; omega
  rw [← hg1] at RW ⊢
  generalize (W0.alloc (.cells O 36)) = V at RW bA ⊢
  replace MT : Hid (TBox _ _ _ _ _ _ _) := MT.out.below bA
  replace B0 : Hid (Below _ _ _) := bstep B0.out bA
  have R0 : Hid (RowU V g1 (List.replicate C 0)) := RW
  have I0 : Hid (MkI (List.replicate C 0) (fun i => B (rs i)) C 0) := MkI.new _ _
  clear bA RW hg1 HO mk
  obtain ⟨t0, t1, t2, t3, t4, t5⟩ := MT.out.cells
  go_wp2
  clear t0 t1 t2 t3 t4 t5 MT
  go_loopw [14] (fun i wr => ∃ (k : Nat) (xs : List Int), i = .int .i64 (k : Int) ∧ k ≤ C ∧ Hid (RowU wr g1 xs) ∧ Hid (MkI xs (fun i => B (rs i)) C k) ∧ Hid (Below w.heap.size w wr)) (fun i _ => C - (intOf i).toNat)
  case atStart => exact ⟨0, _, rfl, Nat.zero_le _, R0, I0, B0⟩
  case round =>
    clear R0 I0 B0
    obtain ⟨k, xs, rfl, hk, R, I, BB⟩ := hrel
    by_cases hlt : (k : Int) < (C : Int)
    · obtain ⟨p, hp⟩ : ∃ p, rs k = p := ⟨_, rfl⟩
      have hpC := HRS.out k (by omega)
      rw [hp] at hpC
      have hp2 : (p : Int) < (C : Int) := by omega
      have r1 := (Below.cell (p := ⟨gr, k, none⟩) BB.out HR.out.lt).trans (HR.out.cellE k (by omega) hp)
      obtain ⟨b, o, rfl, hb, hcell⟩ := HB.out.2.2.2 (by omega)
      have u1 := (Below.cell (p := ⟨b, o + p, none⟩) BB.out hb).trans (hcell p hpC)
      obtain ⟨u, hu⟩ : ∃ u, B p = u := ⟨_, rfl⟩
      rw [hu] at u1
      have UD : Hid ((fun i => B (rs i)) k = u) := by show B (rs k) = u; rw [hp]; exact hu
      have x1 := R.out.cell k (by have := I.out.1; omega)
      have x2 := R.out.frozen k
      clear hcell hu hp
      go_wp2
      go_roundw
      case rel => exact ⟨k + 1, _, by go_num, by omega, R.out.set k _, I.out.set (by omega) _ UD.out.symm, Bes.old BB.out (bes_put _ g1 k _) HG1.out⟩
      case measure => simp [intOf]; omega
    · obtain rfl : k = C := by omega
      go_wp2
      go_ret
      exact ⟨g1, ret_eq rfl, HG1.out, I.out.row R.out (by omega) (fun i => BR.out _), BB.out⟩
/-- The first k numbers stand where their columns stood. -/
def BkI (xs : List Int) (cs : Nat → Nat) (B : Nat → Int) (C k : Nat) : Prop := xs.length = C ∧ InW xs ∧ ∀ q, q < k → xs[cs q]?.getD 0 = B q
theorem BkI.new (cs : Nat → Nat) (B : Nat → Int) (C : Nat) : BkI (List.replicate C 0) cs B C 0 := ⟨List.length_replicate, InW.zeros _, fun q hq => absurd hq (Nat.not_lt_zero _)⟩
theorem BkI.set {xs : List Int} {cs : Nat → Nat} {B : Nat → Int} {C k p : Nat} {u : Int} (h : BkI xs cs B C k) (hin : ∀ i k, i < C → k < C → cs i = cs k → i = k) (hk : k < C) (hp : cs k = p) (hu : B k = u) (hpC : p < C) (u0 : 0 ≤ u) (u1 : u < 18446744073709551616) : BkI (xs.set p u) cs B C (k + 1) := by
  obtain ⟨h1, h2, h3⟩ := h
  refine ⟨by rw [List.length_set]; exact h1, h2.set _ _ u0 u1, fun q hq => ?_⟩
  rw [List.getElem?_set]
  by_cases e : p = cs q
  · have : q = k := hin q k (by omega) hk (by rw [← e, hp])
    subst this
    rw [if_pos e, if_pos (by omega)]
    exact hu.symm
  · rw [if_neg e]
    have : q ≠ k := fun g => e (by rw [g, hp])
    exact h3 q (by omega)
set_option maxHeartbeats 4000000 in
set_option maxRecDepth 100000 in
theorem yBack (C D gm gr gc : Nat) (cs : Nat → Nat) (ab : Option Addr) (cb : Nat) (B : Nat → Int) (w : World) (hC : C ≤ 1000) (hr : RowN w gc C cs) (hrs : ∀ i, i < C → cs i < C) (hin : ∀ i k, i < C → k < C → cs i = cs k → i = k) (hb : URow w ab C cb B) :
    Calls Tryz.prog 54 #[.agg #[.int .i64 (C : Int), .int .i64 (C : Int), .int .i64 (C : Int), .slice (some ⟨gm, 0, none⟩) D D, .slice (some ⟨gr, 0, none⟩) C C, .slice (some ⟨gc, 0, none⟩) C C], .slice ab C cb] w fun e w' => ∃ g, e = .returned (.slice (some ⟨g, 0, none⟩) C C) ∧ w.heap.size ≤ g ∧ (∃ Y, URow w' (some ⟨g, 0, none⟩) C C Y ∧ ∀ k, k < C → Y (cs k) = B k) ∧ Below w.heap.size w w' := by
  have HR : Hid (RowN w gc C cs) := hr
  have HRS : Hid (∀ i, i < C → cs i < C) := hrs
  have HIN : Hid (∀ i k, i < C → k < C → cs i = cs k → i = k) := hin
  have HB : Hid (URow w ab C cb B) := hb
  obtain ⟨lb, cb2⟩ := hb.lenB
  have BR : Hid (∀ i, 0 ≤ B i ∧ B i < 18446744073709551616) := hb.2.2.1
  have mk := mk_run C (by omega)
  obtain ⟨O, hO⟩ : ∃ O, O = ((List.replicate C (0 : Int)).map (Value.int .u64)).toArray := ⟨_, rfl⟩
  have HO : Hid (∀ (W : World), RowU (W.alloc (.cells O 36)) W.heap.size (List.replicate C 0)) := by
    rw [hO]
    intro W
    unfold RowU
    exact heap_alloc_new W _
  rw [← hO] at mk
  clear hr hrs hb hO hin
  go_enter Tryz.func54, Tryz.ntmps54
  go_upto_region 1 with fail
  have mT := TBox.madeS w (C : Int) (C : Int) (.slice (some ⟨gm, 0, none⟩) D D) (.slice (some ⟨gr, 0, none⟩) C C) (.slice (some ⟨gc, 0, none⟩) C C)
  have b0 : Below w.heap.size w (w.alloc (.cells #[.int .i64 (C : Int), .int .i64 (C : Int), .int .i64 (C : Int), .slice (some ⟨gm, 0, none⟩) D D, .slice (some ⟨gr, 0, none⟩) C C, .slice (some ⟨gc, 0, none⟩) C C] 82)) := bmore (Below.refl _ _) _
  generalize (w.alloc (.cells #[.int .i64 (C : Int), .int .i64 (C : Int), .int .i64 (C : Int), .slice (some ⟨gm, 0, none⟩) D D, .slice (some ⟨gr, 0, none⟩) C C, .slice (some ⟨gc, 0, none⟩) C C] 82)) = W0 at mT b0 ⊢
  obtain ⟨kt, hkt⟩ : ∃ k, k = w.heap.size := ⟨_, rfl⟩
  rw [← hkt] at mT ⊢
  have MT : Hid (TBox _ _ _ _ _ _ _) := mT
  have B0 : Hid (Below w.heap.size w W0) := b0
  clear mT b0 hkt
  go_upto_region 2 with fail
  have bA : Below W0.heap.size W0 (W0.alloc (.cells O 36)) := bmore (Below.refl _ _) _
  have RW := HO.out W0
  obtain ⟨g1, hg1⟩ : ∃ g, g = W0.heap.size := ⟨_, rfl⟩
  have HG1 : Hid (w.heap.size ≤ g1) := by show _ ≤ _; have := Below.size B0.out; omega
  rw [← hg1] at RW ⊢
  generalize (W0.alloc (.cells O 36)) = V at RW bA ⊢
  replace MT : Hid (TBox _ _ _ _ _ _ _) := MT.out.below bA
  replace B0 : Hid (Below _ _ _) := bstep B0.out bA
  have R0 : Hid (RowU V g1 (List.replicate C 0)) := RW
  have I0 : Hid (BkI (List.replicate C 0) cs B C 0) := BkI.new _ _ _
  clear bA RW hg1 HO mk
  obtain ⟨t0, t1, t2, t3, t4, t5⟩ := MT.out.cells
  go_wp2
  clear t0 t1 t2 t3 t4 t5 MT
  go_loopw [14] (fun i wr => ∃ (k : Nat) (xs : List Int), i = .int .i64 (k : Int) ∧ k ≤ C ∧ Hid (RowU wr g1 xs) ∧ Hid (BkI xs cs B C k) ∧ Hid (Below w.heap.size w wr)) (fun i _ => C - (intOf i).toNat)
  case atStart => exact ⟨0, _, rfl, Nat.zero_le _, R0, I0, B0⟩
  case round =>
    clear R0 I0 B0
    obtain ⟨k, xs, rfl, hk, R, I, BB⟩ := hrel
    by_cases hlt : (k : Int) < (C : Int)
    · obtain ⟨p, hp⟩ : ∃ p, cs k = p := ⟨_, rfl⟩
      have hpC := HRS.out k (by omega)
      rw [hp] at hpC
      have hp2 : (p : Int) < (C : Int) := by omega
      have r1 := (Below.cell (p := ⟨gc, k, none⟩) BB.out HR.out.lt).trans (HR.out.cellE k (by omega) hp)
      obtain ⟨b, o, rfl, hb, hcell⟩ := HB.out.2.2.2 (by omega)
      have u1 := (Below.cell (p := ⟨b, o + k, none⟩) BB.out hb).trans (hcell k (by omega))
      obtain ⟨u, hu⟩ : ∃ u, B k = u := ⟨_, rfl⟩
      rw [hu] at u1
      obtain ⟨b0, b1⟩ := BR.out k
      rw [hu] at b0 b1
      have I2 : Hid (BkI (xs.set p u) cs B C (k + 1)) := I.out.set HIN.out (by omega) hp hu hpC b0 b1
      have x1 := R.out.cell p (by have := I.out.1; omega)
      have x2 := R.out.frozen p
      clear hcell hu hp
      go_wp2
      go_roundw
      case rel => exact ⟨k + 1, _, by go_num, by omega, R.out.set p _, I2, Bes.old BB.out (bes_put _ g1 p _) HG1.out⟩
      case measure => simp [intOf]; omega
    · obtain rfl : k = C := by omega
      go_wp2
      go_ret
      exact ⟨g1, ret_eq rfl, HG1.out, ⟨_, R.out.rowZ I.out.1 (by omega) I.out.2.1, fun q hq => I.out.2.2 q hq⟩, BB.out⟩
end Go.Proofs.YtpakpgjbgehhjaaGreat
