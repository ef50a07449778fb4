/-
  Texts put together: MatH MatI MatJ MatK.
-/
import Derived.Test.YtokgfeeaoioegaaProg
import Derived.Test.YtokgfeeaoioegaaGrJ
import Derived.Test.YtokgfeeaoioegaaGrI
/-
  What mat's Scale and Unit return; the document's example. Conditions: a matrix that is right, of at most a million numbers; finite, for Unit.
-/
namespace Go.Proofs.Ytokgfeeaoioegaa
open Go.RowKit
set_option linter.unusedVariables false

theorem flag_new (w : World) : IsCalc (w.alloc (.cells #[.int .u8 0] 55)) (.pointer (some ⟨w.heap.size, 0, none⟩)) (some w.heap.size) 0 := by
  refine .inr ⟨_, rfl, rfl, by simp, ?_, ?_⟩
  · simp [go_sem]
  · simp [go_sem]
set_option maxHeartbeats 2000000 in
theorem mScaleM (R C S : Nat) (a : Option Addr) (len cap : Nat) (Z : Nat → Int) (N : Int) (w : World) (h : Rgt (R : Int) (C : Int) (S : Int) len) (hx : URow w a len cap Z) (hRC : R * C ≤ 1000000) (n0 : -9223372036854775808 ≤ N) (n1 : N ≤ 9223372036854775807) :
    Calls Try.prog 39 #[.agg #[.int .i64 (R : Int), .int .i64 (C : Int), .int .i64 (S : Int), .slice a len cap], .int .i64 N] w fun e w' => ∃ g, e = .returned (.tuple #[.agg #[.int .i64 (R : Int), .int .i64 (C : Int), .int .i64 (C : Int), .slice (some ⟨g, 0, none⟩) (R * C) (R * C)], .int .u8 (scF 0 (flat Z C S) N (R * C))]) ∧ w.heap.size ≤ g ∧ URow w' (some ⟨g, 0, none⟩) (R * C) (R * C) (scV (flat Z C S) N) ∧ Below w.heap.size w w' := by
  have HX : Hid (URow w a len cap Z) := hx
  have HH : Hid (Rgt (R : Int) (C : Int) (S : Int) len) := h
  clear hx h
  go_enter Try.func39, Try.ntmps39
  go_wp2_with fail
  obtain ⟨o1, ho1⟩ : ∃ o, o = Obj.cells #[.int .i64 (R : Int), .int .i64 (C : Int), .int .i64 (S : Int), .slice a len cap] 25 := ⟨_, rfl⟩
  have bW : Below w.heap.size w ((((w.alloc o1).alloc (.cells #[.int .i64 N] 3)).alloc (.cells #[.int .i64 0, .int .i64 0, .int .i64 0, .slice none 0 0] 25)).alloc (.cells #[.int .u8 0] 55)) := (((Below.refl _ _).alloc (Nat.le_refl _) _).alloc (by simp) _).alloc (by simp; omega) _ |>.alloc (by simp; omega) _
  have cN : ((((w.alloc o1).alloc (.cells #[.int .i64 N] 3)).alloc (.cells #[.int .i64 0, .int .i64 0, .int .i64 0, .slice none 0 0] 25)).alloc (.cells #[.int .u8 0] 55)).cell? ⟨w.heap.size + 1, 0, none⟩ = some (.int .i64 N) := by simp [go_sem]
  have wW : WBox ((((w.alloc o1).alloc (.cells #[.int .i64 N] 3)).alloc (.cells #[.int .i64 0, .int .i64 0, .int .i64 0, .slice none 0 0] 25)).alloc (.cells #[.int .u8 0] 55)) (w.heap.size + 1 + 1) 0 0 0 (.slice none 0 0) := by
    have := (WBox.made ((w.alloc o1).alloc (.cells #[.int .i64 N] 3)) 0 0 0 (.slice none 0 0)).below ((Below.refl _ _).alloc (Nat.le_refl _) (.cells #[.int .u8 0] 55))
    simp only [World.size_alloc] at this
    exact this
  have iW : IsCalc ((((w.alloc o1).alloc (.cells #[.int .i64 N] 3)).alloc (.cells #[.int .i64 0, .int .i64 0, .int .i64 0, .slice none 0 0] 25)).alloc (.cells #[.int .u8 0] 55)) (.pointer (some ⟨w.heap.size + 1 + 1 + 1, 0, none⟩)) (some (w.heap.size + 1 + 1 + 1)) 0 := by
    have := flag_new (((w.alloc o1).alloc (.cells #[.int .i64 N] 3)).alloc (.cells #[.int .i64 0, .int .i64 0, .int .i64 0, .slice none 0 0] 25))
    simp only [World.size_alloc] at this
    exact this
  have zW : ((((w.alloc o1).alloc (.cells #[.int .i64 N] 3)).alloc (.cells #[.int .i64 0, .int .i64 0, .int .i64 0, .slice none 0 0] 25)).alloc (.cells #[.int .u8 0] 55)).heap.size = w.heap.size + 1 + 1 + 1 + 1 := by simp only [World.size_alloc]
  rw [← ho1]
  clear ho1
  generalize ((((w.alloc o1).alloc (.cells #[.int .i64 N] 3)).alloc (.cells #[.int .i64 0, .int .i64 0, .int .i64 0, .slice none 0 0] 25)).alloc (.cells #[.int .u8 0] 55)) = W at bW cN wW iW zW ⊢
  obtain ⟨X, hX⟩ : ∃ X, X = flat Z C S := ⟨_, rfl⟩
  refine (mEach R C S a len cap Z N 0 (w.heap.size + 1) (w.heap.size + 1 + 1 + 1) W HH.out (HX.out.below bW) hRC n0 n1 cN iW (by omega) (by omega) (HX.out.apt (fun k e => by injection e with e; omega))).mono ?_
  rintro e w2 ⟨g, rfl, hg, hU, hI, hB⟩
  have U2 : Hid (URow _ _ _ _ _) := hU
  have W2 : Hid (WBox w2 (w.heap.size + 1 + 1) 0 0 0 (.slice none 0 0)) := wW.bes hB (ne_some (by omega))
  have B2 : Hid (Below w.heap.size w w2) := bW.trans (hB.below _ (by omega) (fun k e => by injection e with e; omega))
  obtain ⟨cF, zF, lF⟩ := calc_cell hI
  obtain ⟨FF, hFF⟩ : ∃ F, scF 0 (flat Z C S) N (R * C) = F := ⟨_, rfl⟩
  rw [hFF] at cF
  have HFF : Hid (_ = _) := hFF
  obtain ⟨⟨v0, v1, v2, v3, v4⟩, v5⟩ := W2.out
  have y0 := v5 0
  have y1 := v5 1
  have y2 := v5 2
  have y3 := v5 3
  have hz2 : w.heap.size + 1 + 1 + 1 + 1 ≤ w2.heap.size := by rw [← zW]; exact hB.size
  have HG : Hid (W.heap.size ≤ g) := hg
  have ZW : Hid (_ = _) := zW
  clear hU hI hB bW cN wW iW zW hFF hg v5 hX
  go_wp2
  go_region
  all_goals
    go_wp2
    refine bodyPost_ret (v := .tuple #[.agg #[.int .i64 (R : Int), .int .i64 (C : Int), .int .i64 (C : Int), .slice (some ⟨g, 0, none⟩) (R * C) (R * C)], .int .u8 FF]) (by simp [results, Try.results39, go_sem, *]) rfl ?_
    have hg := HG.out
    have hw := ZW.out
    have BP : ∀ u0 u1 u2 u3, Bes (some (w.heap.size + 1 + 1)) w2 ((((w2.setCell ⟨w.heap.size + 1 + 1, 0, none⟩ u0).setCell ⟨w.heap.size + 1 + 1, 1, none⟩ u1).setCell ⟨w.heap.size + 1 + 1, 2, none⟩ u2).setCell ⟨w.heap.size + 1 + 1, 3, none⟩ u3) := fun u0 u1 u2 u3 => (((Bes.put w2 _ 0 u0).set (p := ⟨w.heap.size + 1 + 1, 1, none⟩) (.inr rfl) u1).set (p := ⟨w.heap.size + 1 + 1, 2, none⟩) (.inr rfl) u2).set (p := ⟨w.heap.size + 1 + 1, 3, none⟩) (.inr rfl) u3
    refine ⟨g, by rw [HFF.out], by omega, U2.out.bes (((BP _ _ _ _).alloc _).drew) (fun _ b o s e => by injection e with e; injection e with e1 e2 e3; subst e1; exact ne_some (by omega)), ?_⟩
    exact B2.out.trans ((((BP _ _ _ _).alloc _).drew).below _ (by omega) (fun k e => by injection e with e; omega))
/-- The power of two beneath the greatest of a matrix; of zeros 0. -/
def upw (B : Int) : Int := if wMant B = 0 then 0 else wPow B + ((bl (wMant B).toNat).length : Int) - 1
theorem upw_bd (B : Int) : -1074 ≤ upw B ∧ upw B ≤ 1023 := by
  obtain ⟨p0, p1, p2, p3⟩ := parts_bd B
  unfold upw
  split
  · decide
  · have h0 := bl_span (wMant B).toNat (by omega)
    have hl : (bl (wMant B).toNat).length ≤ 53 := (bl_length_le _ _).2 (by omega)
    omega
set_option maxHeartbeats 2000000 in
theorem mUnit (R C S : Nat) (a : Option Addr) (len cap : Nat) (Z : Nat → Int) (w : World) (h : Rgt (R : Int) (C : Int) (S : Int) len) (hx : URow w a len cap Z) (hRC : R * C ≤ 1000000) (hf : AllF Z R C S) :
    Calls Try.prog 33 #[.agg #[.int .i64 (R : Int), .int .i64 (C : Int), .int .i64 (S : Int), .slice a len cap]] w fun e w' => ∃ g B, e = .returned (.tuple #[.agg #[.int .i64 (R : Int), .int .i64 (C : Int), .int .i64 (C : Int), .slice (some ⟨g, 0, none⟩) (R * C) (R * C)], .int .i64 (upw B)]) ∧ GrM Z C S R 0 B ∧ w.heap.size ≤ g ∧ URow w' (some ⟨g, 0, none⟩) (R * C) (R * C) (scV (flat Z C S) (-upw B)) ∧ Below w.heap.size w w' := by
  have HX : Hid (URow w a len cap Z) := hx
  have HH : Hid (Rgt (R : Int) (C : Int) (S : Int) len) := h
  have HF : Hid (AllF Z R C S) := hf
  clear hx h hf
  go_enter Try.func33, Try.ntmps33
  go_wp2_with fail
  obtain ⟨o1, ho1⟩ : ∃ o, o = Obj.cells #[.int .i64 (R : Int), .int .i64 (C : Int), .int .i64 (S : Int), .slice a len cap] 25 := ⟨_, rfl⟩
  have mW : MBox ((w.alloc o1).alloc (.cells #[.int .i64 0, .int .i64 0, .int .i64 0, .slice none 0 0] 25)) w.heap.size (R : Int) (C : Int) (S : Int) (.slice a len cap) := by
    rw [ho1]
    exact (MBox.made w _ _ _ _).below ((Below.refl _ _).alloc (Nat.le_refl _) _)
  have bW : Below w.heap.size w ((w.alloc o1).alloc (.cells #[.int .i64 0, .int .i64 0, .int .i64 0, .slice none 0 0] 25)) := ((Below.refl _ _).alloc (Nat.le_refl _) _).alloc (by simp) _
  have wW : WBox ((w.alloc o1).alloc (.cells #[.int .i64 0, .int .i64 0, .int .i64 0, .slice none 0 0] 25)) (w.heap.size + 1) 0 0 0 (.slice none 0 0) := by
    have := WBox.made (w.alloc o1) 0 0 0 (.slice none 0 0)
    simp only [World.size_alloc] at this
    exact this
  rw [← ho1]
  clear ho1
  generalize ((w.alloc o1).alloc (.cells #[.int .i64 0, .int .i64 0, .int .i64 0, .slice none 0 0] 25)) = W at mW bW wW ⊢
  refine (mFin R C S a len cap Z _ HH.out (HX.out.below bW)).mono ?_
  rintro e w1 ⟨⟨rfl, _⟩ | ⟨rfl, hN⟩, hb1⟩
  · have M1 : Hid (MBox _ _ _ _ _ _) := mW.below hb1
    have W1 : Hid (WBox _ _ _ _ _ _) := wW.below hb1
    have B1 : Hid (Below w.heap.size w w1) := bstep bW hb1
    obtain ⟨q0, q1, q2, q3, q4⟩ := M1.out
    clear hb1 mW bW wW
    go_wp2_with fail
    refine (mGreat R C S a len cap Z _ HH.out (HX.out.below B1.out)).mono ?_
    rintro e w2 ⟨⟨B, rfl, hG⟩, hb2⟩
    have M2 : Hid (MBox _ _ _ _ _ _) := M1.out.below hb2
    have W2 : Hid (WBox _ _ _ _ _ _) := W1.out.below hb2
    have B2 : Hid (Below w.heap.size w w2) := bstep B1.out hb2
    have G : Hid (GrM Z C S R 0 B) := hG
    obtain ⟨g0, g1⟩ : 0 ≤ B ∧ B < 9223372036854775808 := ⟨hG.1, hG.2.1⟩
    obtain ⟨p0, p1, p2, p3, p4⟩ := M2.out
    clear hb2 hG q0 q1 q2 q3 q4 M1 W1 B1
    obtain ⟨e0, e1⟩ := upw_bd B
    have HPW : Hid (Calls Try.prog 73 #[.int .u64 B] w2 fun e w' => e = .returned (.int .i64 (upw B)) ∧ w' = w2) := mPower B w2 g0 (by omega)
    obtain ⟨E, hE⟩ : ∃ E, upw B = E := ⟨_, rfl⟩
    rw [hE] at HPW e0 e1
    have HE : Hid (upw B = E) := hE
    clear hE
    go_wp2_with fail
    refine HPW.out.mono ?_
    rintro e w3 ⟨rfl, hw⟩
    have hw2 := hw.symm
    clear hw
    subst hw2
    go_wp2_with fail
    refine (mScaleM R C S a len cap Z (-E) _ HH.out (HX.out.below B2.out) hRC (by omega) (by omega)).mono ?_
    rintro e w4 ⟨g, rfl, hg, hU, hb4⟩
    have U4 : Hid (URow _ _ _ _ _) := hU
    have W4 : Hid (WBox _ _ _ _ _ _) := W2.out.below hb4
    have B4 : Hid (Below w.heap.size w w4) := bstep B2.out hb4
    have hz2 := B2.out.size
    have hz4 := hb4.size
    have lW := W2.out.1.2.2.2.2
    obtain ⟨⟨v0, v1, v2, v3, v4⟩, v5⟩ := W4.out
    have y0 := v5 0
    have y1 := v5 1
    have y2 := v5 2
    have y3 := v5 3
    obtain ⟨FF, hFF⟩ : ∃ F, scF 0 (flat Z C S) (-E) (R * C) = F := ⟨_, rfl⟩
    rw [hFF]
    clear hU hb4 v5 hFF HPW p0 p1 p2 p3 p4 W2 M2
    go_wp2
    refine bodyPost_ret (v := .tuple #[.agg #[.int .i64 (R : Int), .int .i64 (C : Int), .int .i64 (C : Int), .slice (some ⟨g, 0, none⟩) (R * C) (R * C)], .int .i64 E]) (by simp [results, Try.results33, go_sem, *]) rfl ?_
    have BP : ∀ u0 u1 u2 u3, Bes (some (w.heap.size + 1)) w4 ((((w4.setCell ⟨w.heap.size + 1, 0, none⟩ u0).setCell ⟨w.heap.size + 1, 1, none⟩ u1).setCell ⟨w.heap.size + 1, 2, none⟩ u2).setCell ⟨w.heap.size + 1, 3, none⟩ u3) := fun u0 u1 u2 u3 => (((Bes.put w4 _ 0 u0).set (p := ⟨w.heap.size + 1, 1, none⟩) (.inr rfl) u1).set (p := ⟨w.heap.size + 1, 2, none⟩) (.inr rfl) u2).set (p := ⟨w.heap.size + 1, 3, none⟩) (.inr rfl) u3
    refine ⟨g, B, by rw [HE.out], G.out, by omega, ?_, ?_⟩
    · rw [HE.out]
      exact U4.out.bes ((BP _ _ _ _).alloc _) (fun _ b o s e => by injection e with e; injection e with e1 e2 e3; subst e1; exact ne_some (by omega))
    · exact B4.out.trans (((BP _ _ _ _).alloc _).below _ (by omega) (fun k e => by injection e with e; omega))
  · exact absurd HF.out hN
end Go.Proofs.Ytokgfeeaoioegaa

/-
  The document's example of layer 9 holds.
-/
namespace Go.Proofs.Ytokgfeeaoioegaa
open Go.RowKit
set_option linter.unusedVariables false

/-- A block's numbers as a slice. -/
theorem RowU.row {w : World} {g : Nat} {xs : List Int} (h : RowU w g xs) (hn : xs.length ≤ 1000000) (hx : ∀ i : Nat, 0 ≤ xs[i]?.getD 0 ∧ xs[i]?.getD 0 < 18446744073709551616) : URow w (some ⟨g, 0, none⟩) xs.length xs.length (fun i : Nat => xs[i]?.getD 0) :=
  ⟨Nat.le_refl _, by unfold maxLen; omega, hx, fun _ => ⟨g, 0, rfl, h.lt, fun i hi => by rw [Nat.zero_add]; exact h.cell i hi⟩⟩
def zHead : Nat → Int := fun i => ([4613937818241073152, 13840687554816376832] : List Int)[i]?.getD 0
theorem zHead_rng (i : Nat) : 0 ≤ zHead i ∧ zHead i < 18446744073709551616 := by
  unfold zHead
  match i with
  | 0 => decide
  | 1 => decide
  | n + 2 => simp
theorem aHead : AllF zHead 1 2 2 := by
  intro i k hi hk
  obtain rfl : i = 0 := by omega
  match k, hk with
  | 0, _ => decide
  | 1, _ => decide
theorem gHead {B : Int} (h : GrM zHead 2 2 1 0 B) : B = 4617315517961601024 := by
  obtain ⟨_, _, h2, h3⟩ := h
  have a := h2 0 1 (.inl ⟨by decide, by decide⟩)
  have e0 : zHead (0 * 2 + 1) % 9223372036854775808 = 4617315517961601024 := by decide
  have e1 : zHead (0 * 2 + 0) % 9223372036854775808 = 4613937818241073152 := by decide
  rw [e0] at a
  rcases h3 with g | ⟨i, k, hi, e⟩
  · omega
  · have hi0 : i = 0 := by omega
    have hk : k = 0 ∨ k = 1 := by omega
    subst hi0
    rcases hk with rfl | rfl
    · rw [e1] at e; omega
    · rw [e0] at e; exact e
theorem uHead : upw 4617315517961601024 = 2 := by decide +kernel
theorem vHead0 : scV (flat zHead 2 2) (-2) 0 = 4604930618986332160 := by decide +kernel
theorem vHead1 : scV (flat zHead 2 2) (-2) 1 = 13831680355561635840 := by decide +kernel
set_option maxHeartbeats 2000000 in
theorem lHead9 (w : World) : Calls Try.prog 15 #[] w fun e w' => e = .returned (.bool true) ∧ Below w.heap.size w w' := by
  go_enter Try.func15, Try.ntmps15
  go_wp2_with fail
  refine (mNew 1 2 _ (by decide) (by decide) (by decide)).mono ?_
  rintro e w1 ⟨rfl, _, hR, hb1⟩
  obtain ⟨g, hg⟩ : ∃ g, g = w.heap.size + 1 := ⟨_, rfl⟩
  rw [← hg] at hR ⊢
  have HGg : Hid (w.heap.size ≤ g) := by show _ ≤ _; omega
  have hgl := hR.lt
  have T : Hid (Rgt 1 2 2 2) := tight 1 2 (by decide) (by decide)
  have R1 : Hid (RowU w1 g [0, 0]) := hR
  have B1 : Hid (Below _ _ _) := hb1
  have z1 := hb1.size
  clear hR hb1 hg
  go_wp2_with fail
  have mW := MBox.made w1 1 2 2 (.slice (some ⟨g, 0, none⟩) 2 2)
  have bW : Below w1.heap.size w1 (w1.alloc (.cells #[.int .i64 1, .int .i64 2, .int .i64 2, .slice (some ⟨g, 0, none⟩) 2 2] 25)) := (Below.refl _ _).alloc (Nat.le_refl _) _
  generalize (w1.alloc (.cells #[.int .i64 1, .int .i64 2, .int .i64 2, .slice (some ⟨g, 0, none⟩) 2 2] 25)) = W at mW bW ⊢
  refine (mSet 1 2 2 g 2 2 [0, 0] 0 0 4613937818241073152 W T.out (R1.out.below bW) rfl (Nat.le_refl _) (by decide) (by decide)).mono ?_
  rintro e w2 ⟨rfl, hR2, hB2⟩
  have M2 : Hid (MBox w2 _ _ _ _ _) := mW.bes hB2 (ne_some (by omega))
  have R2 : Hid (RowU w2 g [4613937818241073152, 0]) := hR2
  have B2 : Hid (Below w.heap.size w w2) := (bstep B1.out bW).trans (hB2.below _ (by have := bW.size; omega) (fun k e => by have := HGg.out; injection e with e; omega))
  obtain ⟨q0, q1, q2, q3, q4⟩ := M2.out
  clear hR2 hB2 mW bW
  go_wp2_with fail
  refine (mSet 1 2 2 g 2 2 _ 0 1 13840687554816376832 w2 T.out R2.out rfl (Nat.le_refl _) (by decide) (by decide)).mono ?_
  rintro e w3 ⟨rfl, hR3, hB3⟩
  have M3 : Hid (MBox w3 _ _ _ _ _) := M2.out.bes hB3 (ne_some (by omega))
  have R3 : Hid (RowU w3 g [4613937818241073152, 13840687554816376832]) := hR3
  have B3 : Hid (Below w.heap.size w w3) := B2.out.trans (hB3.below _ B2.out.size (fun k e => by have := HGg.out; injection e with e; omega))
  obtain ⟨p0, p1, p2, p3, p4⟩ := M3.out
  clear hR3 hB3 q0 q1 q2 q3 q4
  go_wp2_with fail
  refine (mUnit 1 2 2 _ 2 2 zHead w3 T.out (R3.out.row (by decide) zHead_rng) (by decide) aHead).mono ?_
  rintro e w4 ⟨g4, B, rfl, hG, hg4, hU, hb4⟩
  obtain rfl := gHead hG
  rw [uHead] at hU ⊢
  have U4 : Hid (URow w4 (some ⟨g4, 0, none⟩) 2 2 (scV (flat zHead 2 2) (-2))) := hU
  have B4 : Hid (Below w.heap.size w w4) := bstep B3.out hb4
  clear hU hb4 hG p0 p1 p2 p3 p4
  go_wp2_with fail
  have mX := MBox.made w4 1 2 2 (.slice (some ⟨g4, 0, none⟩) 2 2)
  have bX : Below w4.heap.size w4 (w4.alloc (.cells #[.int .i64 1, .int .i64 2, .int .i64 2, .slice (some ⟨g4, 0, none⟩) 2 2] 25)) := (Below.refl _ _).alloc (Nat.le_refl _) _
  generalize (w4.alloc (.cells #[.int .i64 1, .int .i64 2, .int .i64 2, .slice (some ⟨g4, 0, none⟩) 2 2] 25)) = X at mX bX ⊢
  refine (mAt 1 2 2 _ 2 2 (scV (flat zHead 2 2) (-2)) 0 1 X T.out (U4.out.below bX) (by decide)).mono ?_
  rintro e w5 ⟨rfl, hb5⟩
  rw [show ((0 : Int) * 2 + 1).toNat = 1 from rfl, vHead1]
  have M5 : Hid (MBox w5 _ _ _ _ _) := mX.below hb5
  have U5 : Hid (URow _ _ _ _ _) := U4.out.below (bstep bX hb5)
  have B5 : Hid (Below w.heap.size w w5) := bstep B4.out (bstep bX hb5)
  obtain ⟨q0, q1, q2, q3, q4⟩ := M5.out
  clear hb5 mX bX
  go_wp2_with fail
  refine (mAt 1 2 2 _ 2 2 (scV (flat zHead 2 2) (-2)) 0 0 w5 T.out U5.out (by decide)).mono ?_
  rintro e w6 ⟨rfl, hb6⟩
  rw [show ((0 : Int) * 2 + 0).toNat = 0 from rfl, vHead0]
  have B6 : Hid (Below w.heap.size w w6) := bstep B5.out hb6
  clear hb6
  go_wp2
  go_ret
  exact ⟨ret_eq rfl, B6.out⟩
end Go.Proofs.Ytokgfeeaoioegaa

/-
  What the laws' own Made returns: a matrix of numbers again and again, with something between its rows. Conditions: at most 100 numbers.
-/
namespace Go.Proofs.Ytokgfeeaoioegaa
open Go.RowKit
set_option linter.unusedVariables false

theorem and_7_i (n : Int) : bits .and .i64 n 7 = n % 8 := by
  have h127 : (BitVec.ofInt 64 7).toNat = 2 ^ 3 - 1 := by decide
  have key : (BitVec.ofInt 64 n &&& BitVec.ofInt 64 7).toNat = (n % ((2 ^ 64 : Nat) : Int)).toNat % 2 ^ 3 := by
    rw [BitVec.toNat_and, BitVec.toNat_ofInt, h127, Nat.and_two_pow_sub_one_eq_mod]
  show IntKind.i64.wrap ((BitVec.ofInt 64 n &&& BitVec.ofInt 64 7).toNat : Nat) = n % 8
  rw [key, IntKind.wrap_i64]
  omega
theorem and_3_i (n : Int) : bits .and .i64 n 3 = n % 4 := by
  have h127 : (BitVec.ofInt 64 3).toNat = 2 ^ 2 - 1 := by decide
  have key : (BitVec.ofInt 64 n &&& BitVec.ofInt 64 3).toNat = (n % ((2 ^ 64 : Nat) : Int)).toNat % 2 ^ 2 := by
    rw [BitVec.toNat_and, BitVec.toNat_ofInt, h127, Nat.and_two_pow_sub_one_eq_mod]
  show IntKind.i64.wrap ((BitVec.ofInt 64 n &&& BitVec.ofInt 64 3).toNat : Nat) = n % 4
  rw [key, IntKind.wrap_i64]
  omega
theorem rem_run (x y q : Int) (hx : 0 ≤ x) (hy : 0 < y) (hq : x % y = q) (W : World) : (binOp .rem 3 (.int .i64 x) (.int .i64 y)).run Try.prog W = .ok (.int .i64 q) W := by
  have h0 : ¬ y = 0 := by omega
  have h1 : x.tmod y = q := by rw [Int.tmod_eq_emod_of_nonneg hx]; exact hq
  simp [go_sem, binOp, h0, h1]
/-- What stands in row i and column k. -/
def mD (U : Nat → Int) (len C : Nat) (i k : Nat) : Int := if 0 < len then U ((i * C + k) % len) else 0
/-- The numbers of the first n rows, and m of row n, stand in xs. -/
def MadeI (xs : List Int) (U : Nat → Int) (len R C S n m : Nat) : Prop := xs.length = R * S ∧ InW xs ∧ ∀ i k, k < C → i < R → (i < n ∨ (i = n ∧ k < m)) → xs[i * S + k]?.getD 0 = mD U len C i k
theorem place_ne (S C i k n m : Nat) (hC : C ≤ S) (hk : k < C) (hm : m < C) (h : i < n ∨ (i = n ∧ k < m)) : i * S + k ≠ n * S + m := by
  rcases h with h | ⟨rfl, h⟩
  · have : (i + 1) * S ≤ n * S := Nat.mul_le_mul_right _ h
    rw [Nat.succ_mul] at this
    omega
  · omega
theorem MadeI.set {xs : List Int} {U : Nat → Int} {len R C S n m : Nat} (h : MadeI xs U len R C S n m) (hC : C ≤ S) (hn : n < R) (hm : m < C) (x : Int) (hx : x = mD U len C n m) (x0 : 0 ≤ x) (x1 : x < 18446744073709551616) : MadeI (xs.set (n * S + m) x) U len R C S n (m + 1) := by
  obtain ⟨h1, h2, h3⟩ := h
  refine ⟨by rw [List.length_set]; exact h1, h2.set _ _ x0 x1, fun i k hk hi hik => ?_⟩
  rw [List.getElem?_set]
  by_cases e : i = n ∧ k = m
  · rw [e.1, e.2, if_pos rfl, if_pos ?_]
    · exact hx
    · rw [h1]
      have : (n + 1) * S ≤ R * S := Nat.mul_le_mul_right _ hn
      rw [Nat.succ_mul] at this
      omega
  · have hlt : i < n ∨ (i = n ∧ k < m) := by omega
    rw [if_neg (Ne.symm (place_ne S C i k n m hC hk hm hlt))]
    exact h3 i k hk hi hlt
theorem MadeI.next {xs : List Int} {U : Nat → Int} {len R C S n : Nat} (h : MadeI xs U len R C S n C) : MadeI xs U len R C S (n + 1) 0 := by
  obtain ⟨h1, h2, h3⟩ := h
  exact ⟨h1, h2, fun i k hk hi hik => h3 i k hk hi (by omega)⟩
theorem loose (R C S : Nat) (hR : R ≤ 4096) (hC : C ≤ S) (hS : S ≤ 4096) : Rgt (R : Int) (C : Int) (S : Int) (R * S) := by
  refine ⟨by omega, by omega, by omega, by omega, by omega, by omega, ?_⟩
  rcases Nat.eq_zero_or_pos R with h | h
  · exact .inl (by omega)
  · refine .inr (.inr ?_)
    obtain ⟨r, rfl⟩ : ∃ r, R = r + 1 := ⟨R - 1, by omega⟩
    have : (r + 1) * S = r * S + S := Nat.succ_mul r S
    rw [this, show ((r + 1 : Nat) : Int) - 1 = (r : Int) by omega, ← Int.natCast_mul]
    omega
/-- The world while Made runs. -/
structure MadeW (w wr : World) (R C S n : Nat) (xs : List Int) : Prop where
  ans : WBox wr w.heap.size 0 0 0 (.slice none 0 0)
  m : MBox wr (w.heap.size + 1 + 1) (R : Int) (C : Int) (S : Int) (.slice (some ⟨w.heap.size + 1, 0, none⟩) n n)
  row : RowU wr (w.heap.size + 1) xs
  bel : Below w.heap.size w wr
theorem MadeW.bes {w wr wr' : World} {R C S n : Nat} {xs ys : List Int} (h : MadeW w wr R C S n xs) (hb : Bes (some (w.heap.size + 1)) wr wr') (hr : RowU wr' (w.heap.size + 1) ys) : MadeW w wr' R C S n ys :=
  ⟨h.ans.bes hb (ne_some (by omega)), h.m.bes hb (ne_some (by omega)), hr, h.bel.trans (hb.below _ h.bel.size (fun k e => by injection e with e; omega))⟩
set_option maxHeartbeats 4000000 in
set_option maxRecDepth 100000 in
theorem lMade (r c gp : Int) (a : Option Addr) (len cap : Nat) (U : Nat → Int) (R C S : Nat) (w : World) (hR : (R : Int) = r % 8) (hC : (C : Int) = c % 8) (hS : (S : Int) = c % 8 + gp % 4) (hx : URow w a len cap U) (hl : len ≤ 100) :
    Calls Try.prog 20 #[.int .i64 r, .int .i64 c, .int .i64 gp, .slice a len cap] w fun e w' => ∃ g xs, e = .returned (.agg #[.int .i64 (R : Int), .int .i64 (C : Int), .int .i64 (S : Int), .slice (some ⟨g, 0, none⟩) (R * S) (R * S)]) ∧ w.heap.size ≤ g ∧ RowU w' g xs ∧ MadeI xs U len R C S R 0 ∧ Below w.heap.size w w' := by
  have HX : Hid (URow w a len cap U) := hx
  have a1 := and_7_i r
  have a2 := and_7_i c
  have a3 := and_3_i gp
  rw [← hR] at a1
  rw [← hC] at a2
  obtain ⟨D, hD⟩ : ∃ D : Nat, gp % 4 = (D : Int) := ⟨(gp % 4).toNat, by omega⟩
  rw [hD] at a3 hS
  have hR7 : R ≤ 7 := by omega
  have hC7 : C ≤ 7 := by omega
  have hS7 : S ≤ 10 := by omega
  have hCS : C ≤ S := by omega
  have hSD : (C : Int) + (D : Int) = (S : Int) := by omega
  have hRS : R * S ≤ 70 := Nat.mul_le_mul hR7 hS7
  have hw : IntKind.i64.wrap ((R : Int) * (S : Int)) = ((R * S : Nat) : Int) := by rw [IntKind.wrap_i64, ← Int.natCast_mul]; omega
  obtain ⟨n, hN⟩ : ∃ n, n = R * S := ⟨_, rfl⟩
  have mk := mk_run n (by omega)
  obtain ⟨O, hO⟩ : ∃ O, O = ((List.replicate n (0 : Int)).map (Value.int .u64)).toArray := ⟨_, rfl⟩
  rw [← hO] at mk
  rw [← hN] at hw hRS ⊢
  have HO : Hid (_ = _) := hO
  have HN : Hid (n = R * S) := hN
  clear hx hR hC hS hD hN hO
  go_enter Try.func20, Try.ntmps20
  have W0 : MadeW w (((w.alloc (.cells #[.int .i64 0, .int .i64 0, .int .i64 0, .slice none 0 0] 25)).alloc (.cells O 26)).alloc (.cells #[.int .i64 (R : Int), .int .i64 (C : Int), .int .i64 (S : Int), .slice (some ⟨w.heap.size + 1, 0, none⟩) n n] 25)) R C S n (List.replicate n 0) := by
    refine ⟨((WBox.made w 0 0 0 (.slice none 0 0)).below ((Below.refl _ _).alloc (Nat.le_refl _) _)).below ((Below.refl _ _).alloc (Nat.le_refl _) _), ?_, ?_, (((Below.refl _ _).alloc (Nat.le_refl _) _).alloc (by simp) _).alloc (by simp; omega) _⟩
    · have := MBox.made ((w.alloc (.cells #[.int .i64 0, .int .i64 0, .int .i64 0, .slice none 0 0] 25)).alloc (.cells O 26)) (R : Int) (C : Int) (S : Int) (.slice (some ⟨w.heap.size + 1, 0, none⟩) n n)
      simp only [World.size_alloc] at this
      exact this
    · have := heap_alloc_new (w.alloc (.cells #[.int .i64 0, .int .i64 0, .int .i64 0, .slice none 0 0] 25)) (.cells O 26)
      simp only [World.size_alloc] at this
      have hr : RowU ((w.alloc (.cells #[.int .i64 0, .int .i64 0, .int .i64 0, .slice none 0 0] 25)).alloc (.cells O 26)) (w.heap.size + 1) (List.replicate n 0) := by
        unfold RowU
        rw [this, HO.out]
      exact hr.below ((Below.refl _ _).alloc (Nat.le_refl _) _)
  have HW0 : Hid (MadeW _ _ _ _ _ _ _) := W0
  clear W0
  go_wp2
  generalize (((w.alloc (.cells #[.int .i64 0, .int .i64 0, .int .i64 0, .slice none 0 0] 25)).alloc (.cells O 26)).alloc (.cells #[.int .i64 (R : Int), .int .i64 (C : Int), .int .i64 (S : Int), .slice (some ⟨w.heap.size + 1, 0, none⟩) n n] 25)) = W at HW0 ⊢
  go_loopw [33] (fun i wr => ∃ (k : Nat) (xs : List Int), i = .int .i64 (k : Int) ∧ k ≤ n ∧ Hid (MadeW w wr R C S n xs) ∧ Hid (xs.length = n) ∧ Hid (InW xs)) (fun i _ => n - (intOf i).toNat)
  case atStart => exact ⟨0, _, rfl, Nat.zero_le _, HW0, List.length_replicate, InW.zeros _⟩
  case round =>
    clear HW0
    obtain ⟨k, xs, rfl, hk, M, L, I⟩ := hrel
    obtain ⟨q0, q1, q2, q3, q4⟩ := M.out.m
    by_cases hlt : (k : Int) < (n : Int)
    · have x1 := M.out.row.cell k (by have := L.out; omega)
      have x2 := M.out.row.frozen k
      go_wp2
      go_roundw
      case rel => exact ⟨k + 1, xs.set k 9221120237041090560, by go_num, by omega, M.out.bes (Bes.put wr _ k _) (M.out.row.set k _), by show _ = _; rw [List.length_set]; exact L.out, I.out.set _ _ (by decide) (by decide)⟩
      case measure => simp [intOf]; omega
    · obtain rfl : k = n := by omega
      have I0 : Hid (MadeI xs U len R C S 0 0) := ⟨L.out.trans HN.out, I.out, fun i k _ _ h => by omega⟩
      clear L I
      go_wp2
      obtain ⟨W1, hW1⟩ : ∃ x, x = wr := ⟨wr, rfl⟩
      rw [← hW1] at M ⊢
      clear hW1 q0 q1 q2 q3 q4
      go_loopw [12] (fun i wr => ∃ (n' : Nat) (xs : List Int), i = .int .i64 (n' : Int) ∧ n' ≤ R ∧ Hid (MadeW w wr R C S k xs) ∧ Hid (MadeI xs U len R C S n' 0)) (fun i _ => R - (intOf i).toNat)
      case atStart => exact ⟨0, xs, rfl, Nat.zero_le _, M, I0⟩
      case round =>
        clear M I0
        obtain ⟨n', xs, rfl, hn', M, I⟩ := hrel
        by_cases hlt : (n' : Int) < (R : Int)
        · go_wp2
          obtain ⟨W2, hW2⟩ : ∃ x, x = wr := ⟨wr, rfl⟩
          rw [← hW2] at M ⊢
          clear hW2
          go_loopw [13] (fun i wr => ∃ (m : Nat) (xs : List Int), i = .int .i64 (m : Int) ∧ m ≤ C ∧ Hid (MadeW w wr R C S k xs) ∧ Hid (MadeI xs U len R C S n' m)) (fun i _ => C - (intOf i).toNat)
          case atStart => exact ⟨0, xs, rfl, Nat.zero_le _, M, I⟩
          case round =>
            clear M I
            obtain ⟨m, xs, rfl, hm, M, I⟩ := hrel
            by_cases hlt2 : (m : Int) < (C : Int)
            · have hLo : Hid (Rgt (R : Int) (C : Int) (S : Int) k) := by rw [HN.out]; exact loose R C S (by omega) hCS (by omega)
              have hx2 : Hid (((n' : Int) * (S : Int) + (m : Int)).toNat = n' * S + m) := by show _ = _; rw [← Int.natCast_mul]; omega
              obtain ⟨q0, q1, q2, q3, q4⟩ := M.out.m
              by_cases hp : 0 < len
              · obtain ⟨b, o, rfl, hb, hcell⟩ := HX.out.2.2.2 hp
                obtain ⟨P, hP⟩ : ∃ P, P = n' * C := ⟨_, rfl⟩
                have hP7 : P ≤ 49 := by rw [hP]; exact Nat.mul_le_mul (show n' ≤ 7 by omega) hC7
                have hw1 : IntKind.i64.wrap ((n' : Int) * (C : Int)) = (P : Int) := by rw [IntKind.wrap_i64, ← Int.natCast_mul, ← hP]; omega
                obtain ⟨Q, hQ⟩ : ∃ Q, Q = (P + m) % len := ⟨_, rfl⟩
                have hQl : Q < len := by rw [hQ]; exact Nat.mod_lt _ hp
                obtain ⟨PM, hPM⟩ : ∃ PM, P + m = PM := ⟨_, rfl⟩
                have hw6 : IntKind.i64.wrap ((P : Int) + (m : Int)) = (PM : Int) := by rw [IntKind.wrap_i64]; omega
                have hw2 : (PM : Int).tmod (len : Int) = (Q : Int) := by rw [hQ, hPM, Int.tmod_eq_emod_of_nonneg (by omega), ← Int.natCast_emod]
                have hw7 : (PM : Int) % (len : Int) = (Q : Int) := by rw [hQ, hPM, ← Int.natCast_emod]
                have hw8 : PM % len = Q := by rw [hQ, hPM]
                have hw9 : ¬ len = 0 := by omega
                have hw3 : (0 : Int) < (len : Int) := by omega
                have hw5 := rem_run (PM : Int) (len : Int) (Q : Int) (by omega) hw3 (by rw [hQ, hPM, ← Int.natCast_emod])
                have hw4 : ¬ (len : Int) = 0 := by omega
                have hQi : (Q : Int) < (len : Int) := by omega
                have hl0 : ((len : Int) == 0) = false := by rw [beq_eq_false_iff_ne]; omega
                have u1 := (M.out.bel.cell (p := ⟨b, o + Q, none⟩) hb).trans (hcell Q hQl)
                have uD : Hid (U Q = mD U len C n' m) := by show _ = _; unfold mD; rw [if_pos hp, hQ, hP]
                obtain ⟨u2, u3⟩ := HX.out.2.2.1 Q
                obtain ⟨u, hu⟩ : ∃ u, U Q = u := ⟨_, rfl⟩
                rw [hu] at u1 uD u2 u3
                have hcl := HX.out.lenB
                have HCQ : Hid (w.cell? ⟨b, o + Q, none⟩ = some (.int .u64 u)) := by have := hcell Q hQl; rw [hu] at this; exact this
                clear hcell hP hQ hu hPM
                go_wp2
                go_region_held3 (fun w' => (w'.cell? ⟨w.heap.size + 1 + 1, 0, none⟩ = some (.int .i64 (R : Int)) ∧ w'.cell? ⟨w.heap.size + 1 + 1, 1, none⟩ = some (.int .i64 (C : Int)) ∧ w'.cell? ⟨w.heap.size + 1 + 1, 2, none⟩ = some (.int .i64 (S : Int)) ∧ w'.cell? ⟨w.heap.size + 1 + 1, 3, none⟩ = some (.slice (some ⟨w.heap.size + 1, 0, none⟩) k k)) ∧ w'.cell? ⟨b, o + Q, none⟩ = some (.int .u64 u)) (simp [go_sem, *]) (first | (go_at_call 18; refine (mSet _ _ _ _ _ _ xs _ _ _ _ hLo.out (M.out.row.drew) (I.out.1.trans HN.out.symm) (Nat.le_refl _) (by omega) ⟨by omega, hlt, by omega, hlt2⟩).mono ?_; rintro e w3 ⟨rfl, R3, B3⟩; rw [hx2.out] at R3; have M3 : Hid (MadeW w w3 R C S k (xs.set (n' * S + m) u)) := M.out.bes ((Bes.refl _ _).drew.trans B3) R3; have I3 : Hid (MadeI (xs.set (n' * S + m) u) U len R C S n' (m + 1)) := I.out.set hCS (by omega) (by omega) u uD.out u2 u3; obtain ⟨t0, t1, t2, t3, t4⟩ := M3.out.m; have u1' := (M3.out.bel.cell (p := ⟨b, o + Q, none⟩) hb).trans HCQ.out; clear R3 B3))
                go_wp2
                go_roundw
                case rel => exact ⟨m + 1, _, by go_num, by omega, M3, I3⟩
                case measure => simp [intOf]; omega
              · obtain rfl : len = 0 := by omega
                have uD : Hid (0 = mD U 0 C n' m) := by show _ = _; unfold mD; rw [if_neg hp]
                go_wp2_with fail
                refine (mSet _ _ _ _ _ _ xs _ _ _ _ hLo.out M.out.row (I.out.1.trans HN.out.symm) (Nat.le_refl _) (by omega) ⟨by omega, hlt, by omega, hlt2⟩).mono ?_
                rintro e w3 ⟨rfl, R3, B3⟩
                rw [hx2.out] at R3
                have M3 : Hid (MadeW w w3 R C S k (xs.set (n' * S + m) 0)) := M.out.bes B3 R3
                have I3 : Hid (MadeI (xs.set (n' * S + m) 0) U 0 R C S n' (m + 1)) := I.out.set hCS (by omega) (by omega) 0 uD.out (by decide) (by decide)
                clear R3 B3 M I q0 q1 q2 q3 q4
                go_wp2
                go_roundw
                case rel => exact ⟨m + 1, _, by go_num, by omega, M3, I3⟩
                case measure => simp [intOf]; omega
            · obtain rfl : m = C := by omega
              have I2 : Hid (MadeI xs U len R m S (n' + 1) 0) := I.out.next
              go_wp2
              go_roundw
              case rel => exact ⟨n' + 1, xs, by go_num, by omega, M, I2⟩
              case measure => simp [intOf]; omega
        · obtain rfl : n' = R := by omega
          obtain ⟨q0, q1, q2, q3, q4⟩ := M.out.m
          obtain ⟨⟨g0, g1, g2, g3, g4⟩, g5⟩ := M.out.ans
          have y0 := g5 0
          have y1 := g5 1
          have y2 := g5 2
          have y3 := g5 3
          clear g5
          go_wp2
          refine bodyPost_ret (v := .agg #[.int .i64 (n' : Int), .int .i64 (C : Int), .int .i64 (S : Int), .slice (some ⟨w.heap.size + 1, 0, none⟩) k k]) (by simp [results, Try.results20, go_sem, *]) rfl ?_
          have BP : ∀ u0 u1 u2 u3, Bes (some w.heap.size) wr ((((wr.setCell ⟨w.heap.size, 0, none⟩ u0).setCell ⟨w.heap.size, 1, none⟩ u1).setCell ⟨w.heap.size, 2, none⟩ u2).setCell ⟨w.heap.size, 3, none⟩ u3) := fun u0 u1 u2 u3 => (((Bes.put wr _ 0 u0).set (p := ⟨w.heap.size, 1, none⟩) (.inr rfl) u1).set (p := ⟨w.heap.size, 2, none⟩) (.inr rfl) u2).set (p := ⟨w.heap.size, 3, none⟩) (.inr rfl) u3
          exact ⟨_, rfl, Nat.le_succ _, xs, M.out.row.bes (BP _ _ _ _) (ne_some (by omega)), I.out, M.out.bel.trans ((BP _ _ _ _).below _ M.out.bel.size (fun j e => by injection e with e; omega))⟩
end Go.Proofs.Ytokgfeeaoioegaa

/-
  What mat's Cut returns of a matrix that isn't right.
-/
namespace Go.Proofs.Ytokgfeeaoioegaa
open Go.RowKit
set_option linter.unusedVariables false

set_option maxHeartbeats 1000000 in
theorem mCutBad (R C S : Int) (a : Option Addr) (len cap : Nat) (i k r c : Int) (w : World) (hl : (len : Int) ≤ 9223372036854775807) (hS : S ≤ 9223372036854775807) (h : ¬ Rgt R C S len) :
    Calls Try.prog 17 #[.agg #[.int .i64 R, .int .i64 C, .int .i64 S, .slice a len cap], .int .i64 i, .int .i64 k, .int .i64 r, .int .i64 c] w fun e w' => e = .returned (.tuple #[.agg #[.int .i64 0, .int .i64 0, .int .i64 0, .slice none 0 0], .int .i64 4]) ∧ Below w.heap.size w w' := by
  have HN : Hid (¬ Rgt R C S len) := h
  clear h
  go_enter Try.func17, Try.ntmps17
  go_wp2_with fail
  obtain ⟨o1, ho1⟩ : ∃ o, o = Obj.cells #[.int .i64 R, .int .i64 C, .int .i64 S, .slice a len cap] 25 := ⟨_, rfl⟩
  have bW : Below w.heap.size w ((w.alloc o1).alloc (.cells #[.int .i64 0, .int .i64 0, .int .i64 0, .slice none 0 0] 25)) := ((Below.refl _ _).alloc (Nat.le_refl _) _).alloc (by simp) _
  have wW : WBox ((w.alloc o1).alloc (.cells #[.int .i64 0, .int .i64 0, .int .i64 0, .slice none 0 0] 25)) (w.heap.size + 1) 0 0 0 (.slice none 0 0) := by
    have := WBox.made (w.alloc o1) 0 0 0 (.slice none 0 0)
    simp only [World.size_alloc] at this
    exact this
  rw [← ho1]
  clear ho1
  generalize ((w.alloc o1).alloc (.cells #[.int .i64 0, .int .i64 0, .int .i64 0, .slice none 0 0] 25)) = W at bW wW ⊢
  refine (mCheck _ _ _ _ _ _ _ hl hS).mono ?_
  rintro e w1 ⟨⟨_, hR⟩ | ⟨rfl, _⟩, hb1⟩
  · exact absurd hR HN.out
  · have W1 : Hid (WBox _ _ _ _ _ _) := wW.below hb1
    have B1 : Hid (Below w.heap.size w w1) := bstep bW hb1
    obtain ⟨⟨v0, v1, v2, v3, v4⟩, v5⟩ := W1.out
    have y0 := v5 0
    have y1 := v5 1
    have y2 := v5 2
    have y3 := v5 3
    clear hb1 bW wW v5
    go_wp2
    refine bodyPost_ret (v := .tuple #[.agg #[.int .i64 0, .int .i64 0, .int .i64 0, .slice none 0 0], .int .i64 4]) (by simp [results, Try.results17, go_sem, *]) rfl ⟨rfl, ?_⟩
    exact (((B1.out.setCell (p := ⟨w.heap.size + 1, 0, none⟩) (Nat.le_succ _) _).setCell (p := ⟨w.heap.size + 1, 1, none⟩) (Nat.le_succ _) _).setCell (p := ⟨w.heap.size + 1, 2, none⟩) (Nat.le_succ _) _).setCell (p := ⟨w.heap.size + 1, 3, none⟩) (Nat.le_succ _) _
end Go.Proofs.Ytokgfeeaoioegaa
