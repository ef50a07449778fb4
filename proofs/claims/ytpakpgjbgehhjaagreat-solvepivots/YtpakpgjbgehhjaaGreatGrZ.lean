/-
  Texts put together: SolD SolE.
-/
import Derived.Test.YtpakpgjbgehhjaaGreatProg
import Derived.Test.YtpakpgjbgehhjaaGreatGrY
import Derived.Test.YtpakpgjbgehhjaaGreatGrK
/-
  What solve's Trmv, Trsv and Pivot return of what doesn't fit; the laws' own 'in'; the document's example of layer 12 holds. No conditions but that sizes fit a machine.
-/
namespace Go.Proofs.YtpakpgjbgehhjaaGreat
open Go.RowKit
set_option linter.unusedVariables false
set_option linter.unusedSimpArgs false

def aHd : Nat → Int := fun i => ([4611686018427387904, 4607182418800017408, 0, 4616189618054758400] : List Int)[i]?.getD 0
def bHd : Nat → Int := fun i => ([4616189618054758400, 4620693217682128896] : List Int)[i]?.getD 0
theorem aHd_rng (i : Nat) : 0 ≤ aHd i ∧ aHd i < 18446744073709551616 := by
  unfold aHd
  match i with
  | 0 => decide
  | 1 => decide
  | 2 => decide
  | 3 => decide
  | n + 4 => simp
theorem bHd_rng (i : Nat) : 0 ≤ bHd i ∧ bHd i < 18446744073709551616 := by
  unfold bHd
  match i with
  | 0 => decide
  | 1 => decide
  | n + 2 => simp
theorem xHd0 : svX true false aHd 2 2 bHd 2 0 = 4607182418800017408 := by decide +kernel
theorem xHd1 : svX true false aHd 2 2 bHd 2 1 = 4611686018427387904 := by decide +kernel
theorem dHd : ∀ i, i < 2 → aHd (i * 2 + i) % 9223372036854775808 ≠ 0 := by
  intro i hi
  match i, hi with
  | 0, _ => decide
  | 1, _ => decide
set_option maxHeartbeats 4000000 in
theorem lHead12 (w : World) : Calls Tryz.prog 5 #[] w fun e w' => e = .returned (.bool true) ∧ Below w.heap.size w w' := by
  go_enter Tryz.func5, Tryz.ntmps5
  go_wp2_with fail
  refine (mNew 2 2 _ (by decide) (by decide) (by decide)).mono ?_
  rintro e w1 ⟨rfl, _, hR, hb1⟩
  obtain ⟨g, hg⟩ : ∃ g, g = w.heap.size + 1 := ⟨_, rfl⟩
  rw [← hg] at hR ⊢
  have HGg : Hid (w.heap.size ≤ g) := by show _ ≤ _; omega
  have hgl := hR.lt
  have T : Hid (Rgt 2 2 2 4) := tight 2 2 (by decide) (by decide)
  have R1 : Hid (RowU w1 g [0, 0, 0, 0]) := hR
  have B1 : Hid (Below _ _ _) := hb1
  have z1 := hb1.size
  clear hR hb1 hg
  go_wp2_with fail
  have mW := MBox.made w1 2 2 2 (.slice (some ⟨g, 0, none⟩) 4 4)
  have bW : Below w1.heap.size w1 (w1.alloc (.cells #[.int .i64 2, .int .i64 2, .int .i64 2, .slice (some ⟨g, 0, none⟩) 4 4] 25)) := (Below.refl _ _).alloc (Nat.le_refl _) _
  generalize (w1.alloc (.cells #[.int .i64 2, .int .i64 2, .int .i64 2, .slice (some ⟨g, 0, none⟩) 4 4] 25)) = W at mW bW ⊢
  refine (mSet 2 2 2 g 4 4 [0, 0, 0, 0] 0 0 4611686018427387904 W T.out (R1.out.below bW) rfl (Nat.le_refl _) (by decide) (by decide)).mono ?_
  rintro e w2 ⟨rfl, hR2, hB2⟩
  have M2 : Hid (MBox w2 _ _ _ _ _) := mW.bes hB2 (ne_some (by omega))
  have R2 : Hid (RowU w2 g [4611686018427387904, 0, 0, 0]) := hR2
  have B2 : Hid (Below w.heap.size w w2) := Bes.old (bstep B1.out bW) hB2 HGg.out
  obtain ⟨q0, q1, q2, q3, q4⟩ := M2.out
  clear hR2 hB2 mW bW
  go_wp2_with fail
  refine (mSet 2 2 2 g 4 4 _ 0 1 4607182418800017408 w2 T.out R2.out rfl (Nat.le_refl _) (by decide) (by decide)).mono ?_
  rintro e w3 ⟨rfl, hR3, hB3⟩
  have M3 : Hid (MBox w3 _ _ _ _ _) := M2.out.bes hB3 (ne_some (by omega))
  have R3 : Hid (RowU w3 g [4611686018427387904, 4607182418800017408, 0, 0]) := hR3
  have B3 : Hid (Below w.heap.size w w3) := Bes.old B2.out hB3 HGg.out
  obtain ⟨p0, p1, p2, p3, p4⟩ := M3.out
  clear hR3 hB3 q0 q1 q2 q3 q4
  go_wp2_with fail
  refine (mSet 2 2 2 g 4 4 _ 1 1 4616189618054758400 w3 T.out R3.out rfl (Nat.le_refl _) (by decide) (by decide)).mono ?_
  rintro e w4 ⟨rfl, hR4, hB4⟩
  have M4 : Hid (MBox w4 _ _ _ _ _) := M3.out.bes hB4 (ne_some (by omega))
  have R4 : Hid (RowU w4 g [4611686018427387904, 4607182418800017408, 0, 4616189618054758400]) := hR4
  have B4 : Hid (Below w.heap.size w w4) := Bes.old B3.out hB4 HGg.out
  clear hR4 hB4 p0 p1 p2 p3 p4
  obtain ⟨p0, p1, p2, p3, p4⟩ := M4.out
  go_wp2_with fail
  have hb5 : Below w4.heap.size w4 (w4.alloc (.cells #[.int .u64 4616189618054758400, .int .u64 4620693217682128896] 36)) := bmore (Below.refl _ _) _
  have hU5 : URow (w4.alloc (.cells #[.int .u64 4616189618054758400, .int .u64 4620693217682128896] 36)) (some ⟨w4.heap.size, 0, none⟩) 2 2 bHd := by
    have h : RowU (w4.alloc (.cells #[.int .u64 4616189618054758400, .int .u64 4620693217682128896] 36)) w4.heap.size [4616189618054758400, 4620693217682128896] := by
      unfold RowU
      exact heap_alloc_new w4 _
    exact h.row (by decide) bHd_rng
  generalize (w4.alloc (.cells #[.int .u64 4616189618054758400, .int .u64 4620693217682128896] 36)) = W5 at hb5 hU5 ⊢
  have hA : URow W5 (some ⟨g, 0, none⟩) 4 4 aHd := (R4.out.below hb5).row (by decide) aHd_rng
  have B5 : Hid (Below w.heap.size w W5) := bstep B4.out hb5
  clear p0 p1 p2 p3 p4
  refine (sTrsvUF (.pointer none) none 0 2 2 _ 4 4 aHd _ 2 bHd W5 (IsCalc.nil _ _) T.out hA (Apt.nil _ _) hU5 (Apt.nil _ _) dHd).mono ?_
  rintro e w6 ⟨g6, rfl, _, hU, _, hB⟩
  have B6 : Hid (Below w.heap.size w w6) := bstep B5.out hB.nil
  obtain ⟨l0, q0⟩ := hU.cellg 0 (by decide)
  obtain ⟨_, q1⟩ := hU.cellg 1 (by decide)
  rw [xHd0] at q0
  rw [xHd1] at q1
  clear hU hB hA hU5 hb5
  go_wp2
  go_ret
  exact ⟨ret_eq rfl, B6.out⟩
end Go.Proofs.YtpakpgjbgehhjaaGreat

/-
  Trmv and Trsv of either kind; the columns beside the diagonal, counted from the left. Conditions: as theirs.
-/
namespace Go.Proofs.YtpakpgjbgehhjaaGreat
open Go.RowKit
set_option linter.unusedVariables false

end Go.Proofs.YtpakpgjbgehhjaaGreat
