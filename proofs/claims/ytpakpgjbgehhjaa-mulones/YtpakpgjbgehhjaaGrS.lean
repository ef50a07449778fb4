/-
  Texts put together: MulA MulB.
-/
import Derived.Test.YtpakpgjbgehhjaaProg
import Derived.Test.YtpakpgjbgehhjaaGrN
import Derived.Test.YtpakpgjbgehhjaaGrM
import Derived.Test.YtpakpgjbgehhjaaGrO
/-
  What mul's dot, sizes and lines return, with any Calc. Conditions: the lists lie beside the Calc; a matrix that is right, of at most a million numbers.
-/
namespace Go.Proofs.Ytpakpgjbgehhjaa
open Go.RowKit
set_option linter.unusedVariables false
set_option linter.unusedSimpArgs false

set_option maxHeartbeats 1000000 in
theorem uDot (p : Value) (c : Option Nat) (F : Int) (a1 a2 : Option Addr) (n c1 c2 : Nat) (X Y : Nat → Int) (w : World) (hc : IsCalc w p c F) (hx : URow w a1 n c1 X) (hy : URow w a2 n c2 Y) (ax : Apt c a1 n) (ay : Apt c a2 n) :
    Calls Try.prog 54 #[p, .slice a1 n c1, .slice a2 n c2] w fun e w' => e = .returned (.int .u64 (dotV X Y n)) ∧ IsCalc w' p c (dotF F X Y n) ∧ Bes c w w' := by
  have HC : Hid (IsCalc w p c F) := hc
  have HX : Hid (URow w a1 n c1 X) := hx
  have HY : Hid (URow w a2 n c2 Y) := hy
  have AX : Hid (Apt c a1 n) := ax
  have AY : Hid (Apt c a2 n) := ay
  have hn : (n : Int) ≤ 9223372036854775807 := by have := hx.1; have := hx.2.1; unfold maxLen at this; omega
  clear hc hx hy ax ay
  go_enter Try.func54, Try.ntmps54
  go_wp2
  go_loopw [7, 12] (fun s i wr => ∃ k : Nat, s = .int .u64 (dotV X Y k) ∧ i = .int .i64 (k : Int) ∧ k ≤ n ∧ Hid (IsCalc wr p c (dotF F X Y k)) ∧ Hid (Bes c w wr)) (fun _ i _ => n - (intOf i).toNat)
  case atStart => exact ⟨0, rfl, rfl, Nat.zero_le _, HC, Bes.refl _ _⟩
  case round =>
    obtain ⟨k, rfl, rfl, hk, C, B⟩ := hrel
    by_cases hlt : (k : Int) < (n : Int)
    · obtain ⟨_, _, zx, fx⟩ := HX.out.bes B.out AX.out
      obtain ⟨_, _, zy, fy⟩ := HY.out.bes B.out AY.out
      obtain ⟨b1, o1, rfl, l1, e1⟩ := fx (by omega)
      obtain ⟨b2, o2, rfl, l2, e2⟩ := fy (by omega)
      have q1 := e1 k (by omega)
      have q2 := e2 k (by omega)
      obtain ⟨x0, x1⟩ := zx k
      obtain ⟨y0, y1⟩ := zy k
      obtain ⟨d0, d1⟩ := dotV_rng X Y k
      clear zx fx zy fy e1 e2
      have SV : Hid ((addS (dotV X Y k) (mulS (X k) (Y k)).1).1 = dotV X Y (k + 1)) := rfl
      have SF : Hid (bits .or .u8 (bits .or .u8 (dotF F X Y k) (mulS (X k) (Y k)).2) (addS (dotV X Y k) (mulS (X k) (Y k)).1).2 = dotF F X Y (k + 1)) := rfl
      obtain ⟨m0, m1⟩ := mulS_rng (X k) (Y k)
      obtain ⟨x, hx⟩ : ∃ x, X k = x := ⟨_, rfl⟩
      obtain ⟨y, hy⟩ : ∃ y, Y k = y := ⟨_, rfl⟩
      obtain ⟨d, hd⟩ : ∃ d, dotV X Y k = d := ⟨_, rfl⟩
      obtain ⟨F1, hF⟩ : ∃ d, dotF F X Y k = d := ⟨_, rfl⟩
      rw [hx] at q1 x0 x1 SV SF m0 m1
      rw [hy] at q2 y0 y1 SV SF m0 m1
      rw [hd] at d0 d1 SV SF ⊢
      rw [hF] at C SF
      obtain ⟨M, hM⟩ : ∃ M, mulS x y = M := ⟨_, rfl⟩
      rw [hM] at SV SF m0 m1
      have HM : Hid (_ = _) := hM
      clear hx hy hd hF hM
      obtain ⟨m, fm⟩ := M
      simp only at SV SF m0 m1
      go_wp2_with fail
      refine (uMul p c x y F1 _ C.out x0 x1 y0 y1).mono ?_
      rintro e w1 ⟨rfl, C1, B1⟩
      rw [HM.out] at C1 ⊢
      have HC1 : Hid (IsCalc _ _ _ _) := C1
      have HB1 : Hid (Bes _ _ _) := B.out.trans B1
      clear C1 B1 B C
      go_wp2_with fail
      refine (uAdd p c d m _ _ HC1.out d0 d1 m0 m1).mono ?_
      rintro e w2 ⟨rfl, C2, B2⟩
      rw [SV.out]
      rw [SF.out] at C2
      have HC2 : Hid (IsCalc _ _ _ _) := C2
      have HB2 : Hid (Bes _ _ _) := HB1.out.trans B2
      clear C2 B2 HB1 HC1
      go_wp2
      go_roundw
      case rel => exact ⟨k + 1, rfl, by go_num, by omega, HC2, HB2⟩
      case measure => simp [intOf]; omega
    · obtain rfl : k = n := by omega
      go_wp2
      go_ret
      exact ⟨ret_eq rfl, C.out, B.out⟩
set_option maxHeartbeats 1000000 in
theorem uSizes (p : Value) (c : Option Nat) (F : Int) (a : Option Addr) (n cap : Nat) (X : Nat → Int) (w : World) (hc : IsCalc w p c F) (hx : URow w a n cap X) (ax : Apt c a n) :
    Calls Try.prog 88 #[p, .slice a n cap] w fun e w' => e = .returned (.int .u64 (asuV X n)) ∧ IsCalc w' p c (asuF F X n) ∧ Bes c w w' := by
  have HC : Hid (IsCalc w p c F) := hc
  have HX : Hid (URow w a n cap X) := hx
  have AX : Hid (Apt c a n) := ax
  have hn : (n : Int) ≤ 9223372036854775807 := by have := hx.1; have := hx.2.1; unfold maxLen at this; omega
  clear hc hx ax
  go_enter Try.func88, Try.ntmps88
  go_wp2
  go_loopw [5, 10] (fun s i wr => ∃ k : Nat, s = .int .u64 (asuV X k) ∧ i = .int .i64 (k : Int) ∧ k ≤ n ∧ Hid (IsCalc wr p c (asuF F X k)) ∧ Hid (Bes c w wr)) (fun _ i _ => n - (intOf i).toNat)
  case atStart => exact ⟨0, rfl, rfl, Nat.zero_le _, HC, Bes.refl _ _⟩
  case round =>
    obtain ⟨k, rfl, rfl, hk, C, B⟩ := hrel
    by_cases hlt : (k : Int) < (n : Int)
    · obtain ⟨_, _, zx, fx⟩ := HX.out.bes B.out AX.out
      obtain ⟨b1, o1, rfl, l1, e1⟩ := fx (by omega)
      have q1 := e1 k (by omega)
      obtain ⟨x0, x1⟩ := zx k
      obtain ⟨d0, d1⟩ := asuV_rng X k
      clear zx fx e1
      have SV : Hid ((addS (asuV X k) (X k % 9223372036854775808)).1 = asuV X (k + 1)) := rfl
      have SF : Hid (bits .or .u8 (asuF F X k) (addS (asuV X k) (X k % 9223372036854775808)).2 = asuF F X (k + 1)) := rfl
      obtain ⟨x, hx⟩ : ∃ x, X k = x := ⟨_, rfl⟩
      obtain ⟨d, hd⟩ : ∃ d, asuV X k = d := ⟨_, rfl⟩
      obtain ⟨F1, hF⟩ : ∃ d, asuF F X k = d := ⟨_, rfl⟩
      rw [hx] at q1 x0 x1 SV SF
      rw [hd] at d0 d1 SV SF ⊢
      rw [hF] at C SF
      clear hx hd hF
      go_wp2_with fail
      refine (abs_any x _ x0 x1).mono ?_
      rintro e w1 ⟨rfl, rfl⟩
      obtain ⟨y, hy⟩ : ∃ y, x % 9223372036854775808 = y := ⟨_, rfl⟩
      have y0 : 0 ≤ y := by omega
      have y1 : y < 18446744073709551616 := by omega
      rw [hy] at SV SF ⊢
      clear hy
      go_wp2_with fail
      refine (uAdd p c d y _ _ C.out d0 d1 y0 y1).mono ?_
      rintro e w2 ⟨rfl, C2, B2⟩
      rw [SV.out]
      rw [SF.out] at C2
      have HC2 : Hid (IsCalc _ _ _ _) := C2
      have HB2 : Hid (Bes _ _ _) := B.out.trans B2
      clear C2 B2 B C
      go_wp2
      go_roundw
      case rel => exact ⟨k + 1, rfl, by go_num, by omega, HC2, HB2⟩
      case measure => simp [intOf]; omega
    · obtain rfl : k = n := by omega
      go_wp2
      go_ret
      exact ⟨ret_eq rfl, C.out, B.out⟩
/-- Block g holds these slices. -/
def RowV (w : World) (g : Nat) (vs : List Value) : Prop := w.heap[g]? = some (.cells vs.toArray 22 (0, 0))
theorem RowV.lt {w : World} {g : Nat} {vs : List Value} (h : RowV w g vs) : g < w.heap.size := (Array.getElem?_eq_some_iff.1 h).1
theorem RowV.cell {w : World} {g : Nat} {vs : List Value} (h : RowV w g vs) (i : Nat) : w.cell? ⟨g, i, none⟩ = vs[i]? := by
  unfold RowV at h
  unfold World.cell?
  rw [h]
  simp
theorem RowV.frozen {w : World} {g : Nat} {vs : List Value} (h : RowV w g vs) (i : Nat) : w.frozen? ⟨g, i, none⟩ = false := by
  unfold RowV at h
  unfold World.frozen?
  rw [h]
  simp
theorem RowV.set {w : World} {g : Nat} {vs : List Value} (h : RowV w g vs) (i : Nat) (y : Value) : RowV (w.setCell ⟨g, i, none⟩ y) g (vs.set i y) := by
  unfold RowV at h ⊢
  simp only [World.setCell, Array.getElem?_modify, if_true, h, Option.map_some]
  simp
theorem RowV.below {w w' : World} {g : Nat} {vs : List Value} (h : RowV w g vs) (hb : Below w.heap.size w w') : RowV w' g vs := by
  unfold RowV
  rw [hb.block g h.lt]
  exact h
theorem RowV.bes {w w' : World} {c : Option Nat} {g : Nat} {vs : List Value} (h : RowV w g vs) (hb : Bes c w w') (hc : c ≠ some g) : RowV w' g vs := by
  unfold RowV
  rw [hb.block g h.lt hc]
  exact h
theorem Try.rowInfo : (Try.prog.info? 22).map (fun i => (i.zero, i.size, i.bytes)) = some (some (.slice none 0 0), 1, 24) := by kernel_rfl
theorem made_nil (m : Nat) : madeCells (Value.slice none 0 0).cells (m * 1) = (List.replicate m (Value.slice none 0 0)).toArray := by
  unfold madeCells
  apply Array.ext
  · simp
  · intro i h1 h2
    simp [Value.cells, Nat.mod_one]
theorem mk_runV (m : Nat) (hm : m ≤ 1000000) (w : World) : (Instr.makeSlice 81 (.int .i64 (m : Int)) (.int .i64 (m : Int))).run Try.prog w = .ok (.slice (some ⟨w.heap.size, 0, none⟩) m m) (w.alloc (.cells (List.replicate m (Value.slice none 0 0)).toArray 22)) := by
  obtain ⟨i, hi, hz, hsz, hby⟩ := info_parts Try.rowInfo
  have := run_make (P := Try.prog) w 81 22 i (.slice none 0 0) Try.underlying81 hi hz .i64 .i64 (m : Int) (m : Int) (by omega) (Int.le_refl _) (by rw [hby]; omega) (by omega)
  rw [hsz, Int.toNat_natCast, made_nil] at this
  exact this
/-- n slices of C words stand in block g, all in blocks from B on: slice i holds Z i. -/
structure Lines (w : World) (B g n C : Nat) (Z : Nat → Nat → Int) : Prop where
  lo : B ≤ g
  lt : g < w.heap.size
  row : ∀ i, i < n → ∃ a c, w.cell? ⟨g, i, none⟩ = some (.slice a C c) ∧ URow w a C c (Z i) ∧ ∀ b o s, a = some ⟨b, o, s⟩ → B ≤ b
theorem Lines.below {w w' : World} {B g n C : Nat} {Z : Nat → Nat → Int} (h : Lines w B g n C Z) (hb : Below w.heap.size w w') : Lines w' B g n C Z := by
  refine ⟨h.lo, Nat.lt_of_lt_of_le h.lt hb.size, fun i hi => ?_⟩
  obtain ⟨a, c, h1, h2, h3⟩ := h.row i hi
  exact ⟨a, c, (hb.cell (p := ⟨g, i, none⟩) h.lt).trans h1, h2.below hb, h3⟩
theorem Lines.bes {w w' : World} {c : Option Nat} {B g n C : Nat} {Z : Nat → Nat → Int} (h : Lines w B g n C Z) (hb : Bes c w w') (hc : ∀ k, c = some k → k < B) : Lines w' B g n C Z := by
  refine ⟨h.lo, Nat.lt_of_lt_of_le h.lt hb.size, fun i hi => ?_⟩
  obtain ⟨a, c', h1, h2, h3⟩ := h.row i hi
  refine ⟨a, c', (hb.cell (p := ⟨g, i, none⟩) h.lt (fun e => ?_)).trans h1, h2.bes hb (fun _ b o s e ec => ?_), h3⟩
  · have := hc g e; have := h.lo; omega
  · have := hc b ec; have := h3 b o s e; omega
theorem mCloneZ (R C S : Nat) (a : Option Addr) (len cap : Nat) (Z : Nat → Int) (w : World) (h : Rgt (R : Int) (C : Int) (S : Int) len) (hx : URow w a len cap Z) (hRC : R * C ≤ 1000000) :
    Calls Try.prog 53 #[.agg #[.int .i64 (R : Int), .int .i64 (C : Int), .int .i64 (S : Int), .slice a len cap]] w fun e w' => ∃ g X, e = .returned (.agg #[.int .i64 (R : Int), .int .i64 (C : Int), .int .i64 (C : Int), .slice (some ⟨g, 0, none⟩) (R * C) (R * C)]) ∧ w.heap.size ≤ g ∧ URow w' (some ⟨g, 0, none⟩) (R * C) (R * C) X ∧ (∀ p q, p < R → q < C → X (p * C + q) = Z (p * S + q)) ∧ Below w.heap.size w w' := by
  refine (mClone R C S a len cap Z w h hx hRC).mono ?_
  rintro e w' ⟨g, xs, rfl, hg, hR, ⟨hl, hw, hI⟩, hb⟩
  refine ⟨g, fun j => xs[j]?.getD 0, rfl, hg, ?_, fun p q hp hq => ?_, hb⟩
  · have := hR.row (by rw [hl]; exact hRC) (fun j => hw.get j)
    rw [hl] at this
    exact this
  · have := hI p q hp hq
    rw [Nat.zero_add, Nat.zero_add] at this
    exact this
/-- The first n of the slices vs are the rows of C words that lie, one behind the other, in block g. -/
def CutV (vs : List Value) (B g C : Nat) (n : Nat) : Prop := ∀ j, j < n → ∃ a c, vs[j]? = some (.slice a C c) ∧ C ≤ c ∧ c ≤ maxLen ∧ (0 < C → a = some ⟨g, j * C, none⟩) ∧ ∀ b o s, a = some ⟨b, o, s⟩ → B ≤ b
theorem CutV.step {vs : List Value} {B g C n : Nat} (h : CutV vs B g C n) (hn : n < vs.length) {a : Option Addr} {c : Nat} (h1 : C ≤ c) (h2 : c ≤ maxLen) (h3 : 0 < C → a = some ⟨g, n * C, none⟩) (h4 : ∀ b o s, a = some ⟨b, o, s⟩ → B ≤ b) : CutV (vs.set n (.slice a C c)) B g C (n + 1) := by
  intro j hj
  rw [List.getElem?_set]
  by_cases e : n = j
  · subst e
    rw [if_pos rfl, if_pos hn]
    exact ⟨a, c, rfl, h1, h2, h3, h4⟩
  · rw [if_neg e]
    exact h j (by omega)
theorem CutV.lines {w : World} {vs : List Value} {B g0 g R C : Nat} {X : Nat → Int} {Z : Nat → Nat → Int} (h : CutV vs B g C R) (hr : RowV w g0 vs) (hB : B ≤ g0) (hx : URow w (some ⟨g, 0, none⟩) (R * C) (R * C) X) (hz : ∀ i k, 0 ≤ Z i k ∧ Z i k < 18446744073709551616) (hZ : ∀ p q, p < R → q < C → X (p * C + q) = Z p q) : Lines w B g0 R C Z := by
  refine ⟨hB, hr.lt, fun i hi => ?_⟩
  obtain ⟨a, c, h1, h2, h3, h4, h5⟩ := h i hi
  refine ⟨a, c, by rw [hr.cell]; exact h1, ⟨h2, h3, hz i, fun hp => ?_⟩, h5⟩
  obtain ⟨b, o, e, hl, hc⟩ := hx.2.2.2 (Nat.lt_of_lt_of_le (Nat.lt_of_lt_of_le hp (Nat.le_refl _)) (by have : 1 * C ≤ R * C := Nat.mul_le_mul_right _ (by omega); omega))
  injection e with e
  injection e with e1 e2 e3
  subst e1 e2
  refine ⟨g, i * C, h4 hp, hl, fun k hk => ?_⟩
  have := hc (i * C + k) (by have h7 : (i + 1) * C ≤ R * C := Nat.mul_le_mul_right _ hi; rw [Nat.succ_mul] at h7; omega)
  rw [Nat.zero_add, hZ i k hi hk] at this
  exact this
set_option maxHeartbeats 2000000 in
set_option maxRecDepth 100000 in
theorem mLinesC (R C S : Nat) (a : Option Addr) (len cap : Nat) (Z : Nat → Int) (w : World) (h : Rgt (R : Int) (C : Int) (S : Int) len) (hx : URow w a len cap Z) (hRC : R * C ≤ 1000000) :
    Calls Try.prog 52 #[.agg #[.int .i64 (R : Int), .int .i64 (C : Int), .int .i64 (S : Int), .slice a len cap], .func (.func 53) #[] #[]] w fun e w' => ∃ g, e = .returned (.slice (some ⟨g, 0, none⟩) R R) ∧ Lines w' w.heap.size g R C (fun i k => Z (i * S + k)) ∧ Below w.heap.size w w' := by
  have HX : Hid (URow w a len cap Z) := hx
  have HH : Hid (Rgt (R : Int) (C : Int) (S : Int) len) := h
  have HZ : Hid (∀ n, 0 ≤ Z n ∧ Z n < 18446744073709551616) := hx.2.2.1
  have r1 : (R : Int) ≤ 4096 := h.2.1
  have c1 : (C : Int) ≤ 4096 := h.2.2.2.1
  have mk := mk_runV R (by omega)
  obtain ⟨O, hO⟩ : ∃ O, O = (List.replicate R (Value.slice none 0 0)).toArray := ⟨_, rfl⟩
  rw [← hO] at mk
  have HO : Hid (_ = _) := hO
  clear hx h hO
  go_enter Try.func52, Try.ntmps52
  go_wp2_with fail
  have wM := WBox.made w (R : Int) (C : Int) (S : Int) (.slice a len cap)
  have b0 : Below w.heap.size w (w.alloc (.cells #[.int .i64 (R : Int), .int .i64 (C : Int), .int .i64 (S : Int), .slice a len cap] 26)) := (Below.refl _ _).alloc (Nat.le_refl _) _
  generalize (w.alloc (.cells #[.int .i64 (R : Int), .int .i64 (C : Int), .int .i64 (S : Int), .slice a len cap] 26)) = W0 at wM b0 ⊢
  refine (mCloneZ R C S a len cap Z W0 HH.out (HX.out.below b0) hRC).mono ?_
  rintro e w1 ⟨g, X, rfl, hg, hU, hE, hb1⟩
  have z0 := wM.1.2.2.2.2
  have M1 := wM.below hb1
  have B1 := bstep b0 hb1
  obtain ⟨k0, hk0⟩ : ∃ k, k = w.heap.size := ⟨_, rfl⟩
  have HK0 : Hid (w.heap.size ≤ k0) := by show _ ≤ _; omega
  rw [← hk0] at M1 ⊢
  obtain ⟨N, hN⟩ : ∃ N, R * C = N := ⟨_, rfl⟩
  rw [hN] at hU hRC ⊢
  obtain ⟨⟨q0, q1, q2, q3, q4⟩, y⟩ := M1
  have y0 := y 0
  have y1 := y 1
  have y2 := y 2
  have y3 := y 3
  have hkg : k0 ≠ g := by omega
  have HGL : Hid (w.heap.size ≤ g) := by show _ ≤ _; omega
  obtain ⟨Wx, hWx⟩ : ∃ W, W = ((((w1.setCell ⟨k0, 0, none⟩ (.int .i64 (R : Int))).setCell ⟨k0, 1, none⟩ (.int .i64 (C : Int))).setCell ⟨k0, 2, none⟩ (.int .i64 (C : Int))).setCell ⟨k0, 3, none⟩ (.slice (some ⟨g, 0, none⟩) N N)) := ⟨_, rfl⟩
  have M2 : Hid (MBox Wx k0 (R : Int) (C : Int) (C : Int) (.slice (some ⟨g, 0, none⟩) N N)) := by
    rw [hWx]
    exact MBox.four (by rw [q0]; rfl) (by rw [q1]; rfl) (by rw [q2]; rfl) (by rw [q3]; rfl) q4
  have P2 := bes_puts w1 k0 (.int .i64 (R : Int)) (.int .i64 (C : Int)) (.int .i64 (C : Int)) (.slice (some ⟨g, 0, none⟩) N N)
  rw [← hWx] at P2
  have U2 : Hid (URow Wx (some ⟨g, 0, none⟩) N N X) := hU.bes P2 (Apt.ne hkg)
  have B2 : Hid (Below w.heap.size w Wx) := Bes.old B1 P2 (Nat.le_of_eq hk0.symm)
  have HE : Hid (∀ p q, p < R → q < C → X (p * C + q) = (fun i k => Z (i * S + k)) p q) := hE
  have HN : Hid (_ = _) := hN
  have HWX : Hid (_ = _) := hWx
  clear hU hE hb1 b0 wM P2 B1 hg z0 y hWx hkg hk0 hN
  go_upto_region 2 with fail
  rw [← HWX.out]
  clear q0 q1 q2 q3 q4 y0 y1 y2 y3 HWX
  obtain ⟨q0, q1, q2, q3, q4⟩ := M2.out
  go_wp2
  have RV : Hid (RowV (Wx.alloc (.cells O 22)) Wx.heap.size (List.replicate R (Value.slice none 0 0))) := by
    show RowV _ _ _
    unfold RowV
    rw [HO.out]
    exact heap_alloc_new Wx _
  have bA : Below Wx.heap.size Wx (Wx.alloc (.cells O 22)) := (Below.refl _ _).alloc (Nat.le_refl _) _
  obtain ⟨g0, hg0⟩ : ∃ g, g = Wx.heap.size := ⟨_, rfl⟩
  have HG0 : Hid (w.heap.size ≤ g0) := by show _ ≤ _; have := Below.size B2.out; omega
  have HGG : Hid (Apt (some g0) (some ⟨g, 0, none⟩) N) := fun hp => Apt.ne (by have := (U2.out.cellg 0 hp).1; omega) hp
  have HGK : Hid (g0 ≠ k0) := by show _ ≠ _; omega
  rw [← hg0] at RV ⊢
  generalize (Wx.alloc (.cells O 22)) = V at RV bA ⊢
  replace M2 : Hid (MBox _ _ _ _ _ _) := M2.out.below bA
  replace U2 : Hid (URow _ _ _ _ _) := U2.out.below bA
  replace B2 : Hid (Below _ _ _) := bstep B2.out bA
  clear q0 q1 q2 q3 q4 bA hg0 HO mk
  go_loopw [15] (fun i wr => ∃ (n : Nat) (vs : List Value), i = .int .i64 (n : Int) ∧ n ≤ R ∧ Hid (RowV wr g0 vs) ∧ Hid (vs.length = R) ∧ Hid (CutV vs w.heap.size g C n) ∧ Hid (Bes (some g0) V wr)) (fun i _ => R - (intOf i).toNat)
  case atStart => exact ⟨0, _, rfl, Nat.zero_le _, RV, List.length_replicate, fun j hj => absurd hj (Nat.not_lt_zero _), Bes.refl _ _⟩
  case round =>
    clear RV
    obtain ⟨n, vs, rfl, hn, RV, LV, CV, BV⟩ := hrel
    by_cases hlt : (n : Int) < (R : Int)
    · obtain ⟨q0, q1, q2, q3, q4⟩ := M2.out.bes BV.out (fun e => HGK.out (Option.some.inj e))
      obtain ⟨P, hP⟩ : ∃ P, n * C = P := ⟨_, rfl⟩
      obtain ⟨Q, hQ⟩ : ∃ Q, (n + 1) * C = Q := ⟨_, rfl⟩
      have hQP : Q = P + C := by rw [← hQ, Nat.succ_mul, hP]
      have hQN : Q ≤ N := by rw [← hQ, ← HN.out]; exact Nat.mul_le_mul_right _ (by omega)
      have hw1 : IntKind.i64.wrap ((n : Int) * (C : Int)) = (P : Int) := by rw [IntKind.wrap_i64, ← Int.natCast_mul, hP]; omega
      have hw2 : IntKind.i64.wrap (((n : Int) + 1) * (C : Int)) = (Q : Int) := by
        rw [IntKind.wrap_i64, show ((n : Int) + 1) = ((n + 1 : Nat) : Int) by omega, ← Int.natCast_mul, hQ]; omega
      have g1 : (P : Int) ≤ (Q : Int) := by omega
      have g2 : (Q : Int) ≤ (N : Int) := by omega
      have x1 : wr.cell? ⟨g0, n, none⟩ = some _ := (RV.out.cell n).trans (List.getElem?_eq_getElem (by have := LV.out; omega))
      have x2 := RV.out.frozen n
      have HP : Hid (_ = _) := hP
      have HQP : Hid (_ = _) := hQP
      clear hP hQ hQP
      go_wp2
      go_roundw
      case rel =>
        refine ⟨n + 1, _, by go_num, by omega, RV.out.set n _, by show _ = _; rw [List.length_set]; exact LV.out, ?_, BV.out.set (p := ⟨g0, n, none⟩) (.inr rfl) _⟩
        have e : Q - P = C := by have := HQP.out; omega
        have hp := HP.out
        rw [e]
        have hqn : Q ≤ N := by omega
        have hNB : N ≤ maxLen := by unfold maxLen; omega
        refine CV.out.step (by have := LV.out; omega) (by omega) (by omega) (fun h => ?_) (fun b o s ea => ?_)
        · rw [if_neg (by omega), hp]
        · have hgl := HGL.out
          by_cases hx : N = P
          · rw [if_pos hx] at ea
            injection ea with ea
            injection ea with ea
            omega
          · rw [if_neg hx] at ea
            injection ea with ea
            injection ea with ea
            omega
      case measure => simp [intOf]; omega
    · obtain rfl : n = R := by omega
      go_wp2
      go_ret
      refine ⟨g0, ret_eq rfl, CV.out.lines RV.out HG0.out ((by have := HN.out; subst this; exact U2.out.bes BV.out HGG.out)) (fun i k => HZ.out _) HE.out, Bes.old B2.out BV.out HG0.out⟩
set_option maxHeartbeats 2000000 in
set_option maxRecDepth 100000 in
theorem mLinesT (R C S : Nat) (a : Option Addr) (len cap : Nat) (Z : Nat → Int) (w : World) (h : Rgt (R : Int) (C : Int) (S : Int) len) (hx : URow w a len cap Z) (hRC : C * R ≤ 1000000) :
    Calls Try.prog 52 #[.agg #[.int .i64 (R : Int), .int .i64 (C : Int), .int .i64 (S : Int), .slice a len cap], .func (.func 17) #[] #[]] w fun e w' => ∃ g, e = .returned (.slice (some ⟨g, 0, none⟩) C C) ∧ Lines w' w.heap.size g C R (fun i k => Z (k * S + i)) ∧ Below w.heap.size w w' := by
  have HX : Hid (URow w a len cap Z) := hx
  have HH : Hid (Rgt (R : Int) (C : Int) (S : Int) len) := h
  have HZ : Hid (∀ n, 0 ≤ Z n ∧ Z n < 18446744073709551616) := hx.2.2.1
  have r1 : (R : Int) ≤ 4096 := h.2.1
  have c1 : (C : Int) ≤ 4096 := h.2.2.2.1
  have mk := mk_runV C (by omega)
  obtain ⟨O, hO⟩ : ∃ O, O = (List.replicate C (Value.slice none 0 0)).toArray := ⟨_, rfl⟩
  rw [← hO] at mk
  have HO : Hid (_ = _) := hO
  clear hx h hO
  go_enter Try.func52, Try.ntmps52
  go_wp2_with fail
  have wM := WBox.made w (R : Int) (C : Int) (S : Int) (.slice a len cap)
  have b0 : Below w.heap.size w (w.alloc (.cells #[.int .i64 (R : Int), .int .i64 (C : Int), .int .i64 (S : Int), .slice a len cap] 26)) := (Below.refl _ _).alloc (Nat.le_refl _) _
  generalize (w.alloc (.cells #[.int .i64 (R : Int), .int .i64 (C : Int), .int .i64 (S : Int), .slice a len cap] 26)) = W0 at wM b0 ⊢
  refine (mTurnZ R C S a len cap Z W0 HH.out (HX.out.below b0) hRC).mono ?_
  rintro e w1 ⟨g, X, rfl, hg, hU, hE, hb1⟩
  have z0 := wM.1.2.2.2.2
  have M1 := wM.below hb1
  have B1 := bstep b0 hb1
  obtain ⟨k0, hk0⟩ : ∃ k, k = w.heap.size := ⟨_, rfl⟩
  have HK0 : Hid (w.heap.size ≤ k0) := by show _ ≤ _; omega
  rw [← hk0] at M1 ⊢
  obtain ⟨N, hN⟩ : ∃ N, C * R = N := ⟨_, rfl⟩
  rw [hN] at hU hRC ⊢
  obtain ⟨⟨q0, q1, q2, q3, q4⟩, y⟩ := M1
  have y0 := y 0
  have y1 := y 1
  have y2 := y 2
  have y3 := y 3
  have hkg : k0 ≠ g := by omega
  have HGL : Hid (w.heap.size ≤ g) := by show _ ≤ _; omega
  obtain ⟨Wx, hWx⟩ : ∃ W, W = ((((w1.setCell ⟨k0, 0, none⟩ (.int .i64 (C : Int))).setCell ⟨k0, 1, none⟩ (.int .i64 (R : Int))).setCell ⟨k0, 2, none⟩ (.int .i64 (R : Int))).setCell ⟨k0, 3, none⟩ (.slice (some ⟨g, 0, none⟩) N N)) := ⟨_, rfl⟩
  have M2 : Hid (MBox Wx k0 (C : Int) (R : Int) (R : Int) (.slice (some ⟨g, 0, none⟩) N N)) := by
    rw [hWx]
    exact MBox.four (by rw [q0]; rfl) (by rw [q1]; rfl) (by rw [q2]; rfl) (by rw [q3]; rfl) q4
  have P2 := bes_puts w1 k0 (.int .i64 (C : Int)) (.int .i64 (R : Int)) (.int .i64 (R : Int)) (.slice (some ⟨g, 0, none⟩) N N)
  rw [← hWx] at P2
  have U2 : Hid (URow Wx (some ⟨g, 0, none⟩) N N X) := hU.bes P2 (Apt.ne hkg)
  have B2 : Hid (Below w.heap.size w Wx) := Bes.old B1 P2 (Nat.le_of_eq hk0.symm)
  have HE : Hid (∀ p q, p < C → q < R → X (p * R + q) = (fun i k => Z (k * S + i)) p q) := hE
  have HN : Hid (_ = _) := hN
  have HWX : Hid (_ = _) := hWx
  clear hU hE hb1 b0 wM P2 B1 hg z0 y hWx hkg hk0 hN
  go_upto_region 2 with fail
  rw [← HWX.out]
  clear q0 q1 q2 q3 q4 y0 y1 y2 y3 HWX
  obtain ⟨q0, q1, q2, q3, q4⟩ := M2.out
  go_wp2
  have RV : Hid (RowV (Wx.alloc (.cells O 22)) Wx.heap.size (List.replicate C (Value.slice none 0 0))) := by
    show RowV _ _ _
    unfold RowV
    rw [HO.out]
    exact heap_alloc_new Wx _
  have bA : Below Wx.heap.size Wx (Wx.alloc (.cells O 22)) := (Below.refl _ _).alloc (Nat.le_refl _) _
  obtain ⟨g0, hg0⟩ : ∃ g, g = Wx.heap.size := ⟨_, rfl⟩
  have HG0 : Hid (w.heap.size ≤ g0) := by show _ ≤ _; have := Below.size B2.out; omega
  have HGG : Hid (Apt (some g0) (some ⟨g, 0, none⟩) N) := fun hp => Apt.ne (by have := (U2.out.cellg 0 hp).1; omega) hp
  have HGK : Hid (g0 ≠ k0) := by show _ ≠ _; omega
  rw [← hg0] at RV ⊢
  generalize (Wx.alloc (.cells O 22)) = V at RV bA ⊢
  replace M2 : Hid (MBox _ _ _ _ _ _) := M2.out.below bA
  replace U2 : Hid (URow _ _ _ _ _) := U2.out.below bA
  replace B2 : Hid (Below _ _ _) := bstep B2.out bA
  clear q0 q1 q2 q3 q4 bA hg0 HO mk
  go_loopw [15] (fun i wr => ∃ (n : Nat) (vs : List Value), i = .int .i64 (n : Int) ∧ n ≤ C ∧ Hid (RowV wr g0 vs) ∧ Hid (vs.length = C) ∧ Hid (CutV vs w.heap.size g R n) ∧ Hid (Bes (some g0) V wr)) (fun i _ => C - (intOf i).toNat)
  case atStart => exact ⟨0, _, rfl, Nat.zero_le _, RV, List.length_replicate, fun j hj => absurd hj (Nat.not_lt_zero _), Bes.refl _ _⟩
  case round =>
    clear RV
    obtain ⟨n, vs, rfl, hn, RV, LV, CV, BV⟩ := hrel
    by_cases hlt : (n : Int) < (C : Int)
    · obtain ⟨q0, q1, q2, q3, q4⟩ := M2.out.bes BV.out (fun e => HGK.out (Option.some.inj e))
      obtain ⟨P, hP⟩ : ∃ P, n * R = P := ⟨_, rfl⟩
      obtain ⟨Q, hQ⟩ : ∃ Q, (n + 1) * R = Q := ⟨_, rfl⟩
      have hQP : Q = P + R := by rw [← hQ, Nat.succ_mul, hP]
      have hQN : Q ≤ N := by rw [← hQ, ← HN.out]; exact Nat.mul_le_mul_right _ (by omega)
      have hw1 : IntKind.i64.wrap ((n : Int) * (R : Int)) = (P : Int) := by rw [IntKind.wrap_i64, ← Int.natCast_mul, hP]; omega
      have hw2 : IntKind.i64.wrap (((n : Int) + 1) * (R : Int)) = (Q : Int) := by
        rw [IntKind.wrap_i64, show ((n : Int) + 1) = ((n + 1 : Nat) : Int) by omega, ← Int.natCast_mul, hQ]; omega
      have g1 : (P : Int) ≤ (Q : Int) := by omega
      have g2 : (Q : Int) ≤ (N : Int) := by omega
      have x1 : wr.cell? ⟨g0, n, none⟩ = some _ := (RV.out.cell n).trans (List.getElem?_eq_getElem (by have := LV.out; omega))
      have x2 := RV.out.frozen n
      have HP : Hid (_ = _) := hP
      have HQP : Hid (_ = _) := hQP
      clear hP hQ hQP
      go_wp2
      go_roundw
      case rel =>
        refine ⟨n + 1, _, by go_num, by omega, RV.out.set n _, by show _ = _; rw [List.length_set]; exact LV.out, ?_, BV.out.set (p := ⟨g0, n, none⟩) (.inr rfl) _⟩
        have e : Q - P = R := by have := HQP.out; omega
        have hp := HP.out
        rw [e]
        have hqn : Q ≤ N := by omega
        have hNB : N ≤ maxLen := by unfold maxLen; omega
        refine CV.out.step (by have := LV.out; omega) (by omega) (by omega) (fun h => ?_) (fun b o s ea => ?_)
        · rw [if_neg (by omega), hp]
        · have hgl := HGL.out
          by_cases hx : N = P
          · rw [if_pos hx] at ea
            injection ea with ea
            injection ea with ea
            omega
          · rw [if_neg hx] at ea
            injection ea with ea
            injection ea with ea
            omega
      case measure => simp [intOf]; omega
    · obtain rfl : n = C := by omega
      go_wp2
      go_ret
      refine ⟨g0, ret_eq rfl, CV.out.lines RV.out HG0.out ((by have := HN.out; subst this; exact U2.out.bes BV.out HGG.out)) (fun i k => HZ.out _) HE.out, Bes.old B2.out BV.out HG0.out⟩
end Go.Proofs.Ytpakpgjbgehhjaa

/-
  What mul's Gemv returns, with any Calc: of each row its product, and all flags. Conditions: a matrix that is right, of at most a million numbers; the lists lie beside the Calc.
-/
namespace Go.Proofs.Ytpakpgjbgehhjaa
open Go.RowKit
set_option linter.unusedVariables false
set_option linter.unusedSimpArgs false

/-- The flags of the products of n rows and X, on top of F. -/
def mvF (F : Int) (Z : Nat → Nat → Int) (X : Nat → Int) (C : Nat) : Nat → Int
  | 0 => F
  | n + 1 => dotF (mvF F Z X C n) (Z n) X C
theorem young_apt {w : World} {p : Value} {c : Option Nat} {F : Int} {B : Nat} (hc : IsCalc w p c F) (hB : w.heap.size ≤ B) {a : Option Addr} {len : Nat} (h : ∀ b o s, a = some ⟨b, o, s⟩ → B ≤ b) : Apt c a len := by
  intro _ b o s e ec
  have := hc.lt b ec
  have := h b o s e
  omega
theorem apt_one {c : Option Nat} {g off len : Nat} (h : c ≠ some g) : Apt c (some ⟨g, off, none⟩) len := fun _ b o s e ec => by
  injection e with e
  injection e with e1
  exact h (by rw [ec, e1])
set_option maxHeartbeats 2000000 in
set_option maxRecDepth 100000 in
theorem mGemv (p : Value) (c : Option Nat) (F : Int) (R C S : Nat) (a : Option Addr) (len cap : Nat) (Z : Nat → Int) (ax : Option Addr) (cx : Nat) (X : Nat → Int) (w : World) (hc : IsCalc w p c F) (h : Rgt (R : Int) (C : Int) (S : Int) len) (hz : URow w a len cap Z) (hx : URow w ax C cx X) (az : Apt c a len) (axx : Apt c ax C) (hRC : R * C ≤ 1000000) :
    Calls Try.prog 15 #[p, .agg #[.int .i64 (R : Int), .int .i64 (C : Int), .int .i64 (S : Int), .slice a len cap], .slice ax C cx] w fun e w' => ∃ g, e = .returned (.tuple #[.slice (some ⟨g, 0, none⟩) R R, .int .i64 0]) ∧ w.heap.size ≤ g ∧ URow w' (some ⟨g, 0, none⟩) R R (fun i => dotV (fun k => Z (i * S + k)) X C) ∧ IsCalc w' p c (mvF F (fun i k => Z (i * S + k)) X C R) ∧ Bes c w w' := by
  have HC : Hid (IsCalc w p c F) := hc
  have HZ : Hid (URow w a len cap Z) := hz
  have HX : Hid (URow w ax C cx X) := hx
  have AX : Hid (Apt c ax C) := axx
  have HH : Hid (Rgt (R : Int) (C : Int) (S : Int) len) := h
  obtain ⟨lb, cb⟩ := hz.lenB
  have r1 : (R : Int) ≤ 4096 := h.2.1
  have c1 : (C : Int) ≤ 4096 := h.2.2.2.1
  have mk := mk_run R (by omega)
  obtain ⟨O, hO⟩ : ∃ O, O = ((List.replicate R (0 : Int)).map (Value.int .u64)).toArray := ⟨_, rfl⟩
  have HO : Hid (∀ (W : World) (Z : Nat → Int), Row1 (W.alloc (.cells O 23)) W.heap.size R 0 Z) := by rw [hO]; exact fun W Z => Row1.new W R Z
  rw [← hO] at mk
  clear hc hz hx az axx h hO
  go_enter Try.func15, Try.ntmps15
  go_wp2_with fail
  have mM := MBox.made w (R : Int) (C : Int) (S : Int) (.slice a len cap)
  have b0 : Below w.heap.size w (w.alloc (.cells #[.int .i64 (R : Int), .int .i64 (C : Int), .int .i64 (S : Int), .slice a len cap] 26)) := (Below.refl _ _).alloc (Nat.le_refl _) _
  generalize (w.alloc (.cells #[.int .i64 (R : Int), .int .i64 (C : Int), .int .i64 (S : Int), .slice a len cap] 26)) = W0 at mM b0 ⊢
  refine (mCheckOk R C S _ _ _ W0 HH.out lb).mono ?_
  rintro e w1 ⟨rfl, hb1⟩
  have M1 : Hid (MBox _ _ _ _ _ _) := mM.below hb1
  have B1 : Hid (Below w.heap.size w w1) := bstep b0 hb1
  obtain ⟨q0, q1, q2, q3, q4⟩ := M1.out
  clear hb1 b0 mM
  go_wp2_with fail
  have bA : Below w1.heap.size w1 (w1.alloc (.cells O 23)) := (Below.refl _ _).alloc (Nat.le_refl _) _
  have RW := HO.out w1 (fun i => dotV (fun k => Z (i * S + k)) X C)
  obtain ⟨g1, hg1⟩ : ∃ g, g = w1.heap.size := ⟨_, rfl⟩
  have HG1 : Hid (w.heap.size ≤ g1) := by show _ ≤ _; have := Below.size B1.out; omega
  have NC1 : Hid (c ≠ some g1) := fun e => by have := HC.out.lt _ e; have := HG1.out; omega
  rw [← hg1] at RW ⊢
  generalize (w1.alloc (.cells O 23)) = V at RW bA ⊢
  have BV : Hid (Below w.heap.size w V) := bstep B1.out bA
  have LV : Hid (g1 < V.heap.size) := RW.lt
  clear q0 q1 q2 q3 q4 M1 bA hg1 HO mk B1
  refine (mLinesC R C S a len cap Z V HH.out (HZ.out.below BV.out) hRC).mono ?_
  rintro e w2 ⟨g0, rfl, hL, hb2⟩
  have B2 : Hid (Bes c w w2) := Bes.of (bstep BV.out hb2)
  have C2 : Hid (IsCalc w2 p c F) := HC.out.later (bstep BV.out hb2)
  have R2 : Hid (Row1 w2 g1 R 0 (fun i => dotV (fun k => Z (i * S + k)) X C)) := RW.below hb2
  have L2 : Hid (Lines w2 V.heap.size g0 R C (fun i k => Z (i * S + k))) := hL
  have HV : Hid (w.heap.size ≤ V.heap.size) := Below.size BV.out
  clear hb2 hL RW BV
  obtain ⟨BB, hBB⟩ : ∃ B, B = V.heap.size := ⟨_, rfl⟩
  rw [← hBB] at L2 HV LV
  clear hBB
  go_wp2
  go_loopw [27] (fun i wr => ∃ n : Nat, i = .int .i64 (n : Int) ∧ n ≤ R ∧ Hid (Row1 wr g1 R n (fun i => dotV (fun k => Z (i * S + k)) X C)) ∧ Hid (IsCalc wr p c (mvF F (fun i k => Z (i * S + k)) X C n)) ∧ Hid (Lines wr BB g0 R C (fun i k => Z (i * S + k))) ∧ Hid (Bes c w wr)) (fun i _ => R - (intOf i).toNat)
  case atStart => exact ⟨0, rfl, Nat.zero_le _, R2, C2, L2, B2⟩
  case round =>
    clear R2 C2 L2 B2
    obtain ⟨n, rfl, hn, Rw, Cc, L, B⟩ := hrel
    by_cases hlt : (n : Int) < (R : Int)
    · obtain ⟨a5, c5, q5, u5, y5⟩ := L.out.row n (by omega)
      have A5 : Hid (Apt c a5 C) := young_apt HC.out HV.out y5
      have U5 : Hid (URow wr a5 C c5 (fun k => Z (n * S + k))) := u5
      obtain ⟨_, c5b⟩ := u5.lenB
      clear u5 y5
      obtain ⟨d0, d1⟩ := dotV_rng (fun k => Z (n * S + k)) X C
      go_wp2_with fail
      refine (uDot p c _ a5 ax C c5 cx (fun k => Z (n * S + k)) X _ Cc.out U5.out (HX.out.bes B.out AX.out) A5.out AX.out).mono ?_
      rintro e w3 ⟨rfl, C3, B3⟩
      have HC3 : Hid (IsCalc w3 p c (mvF F (fun i k => Z (i * S + k)) X C (n + 1))) := C3
      have HB3 : Hid (Bes c w w3) := B.out.trans B3
      have R3 : Hid (Row1 w3 g1 R n (fun i => dotV (fun k => Z (i * S + k)) X C)) := Rw.out.bes B3 NC1.out
      have L3 : Hid (Lines w3 BB g0 R C (fun i k => Z (i * S + k))) := L.out.bes B3 (fun k e => by have := HC.out.lt k e; have := HV.out; omega)
      obtain ⟨z, x1, x2⟩ := R3.out.at n (by omega)
      clear C3 B3 Rw Cc L B U5 A5 q5
      go_wp2
      go_roundw
      case rel => exact ⟨n + 1, by go_num, by omega, R3.out.set (by omega) rfl, HC3.out.bes (Bes.put _ g1 n _) (fun k e e2 => NC1.out (e.trans e2.symm)), L3.out.bes (Bes.put _ g1 n _) (fun k e => by injection e with e; have := LV.out; omega), HB3.out.set (p := ⟨g1, n, none⟩) (.inl HG1.out) _⟩
      case measure => simp [intOf]; omega
    · obtain rfl : n = R := by omega
      go_wp2
      go_ret2
      exact ⟨g1, rfl, HG1.out, Rw.out.row (by omega) (fun i => dotV_rng _ _ _), Cc.out, B.out⟩
set_option maxHeartbeats 1000000 in
theorem mGemvBad (p : Value) (R C S : Nat) (a : Option Addr) (len cap : Nat) (n cx : Nat) (ax : Option Addr) (w : World) (h : Rgt (R : Int) (C : Int) (S : Int) len) (hl : (len : Int) ≤ 9223372036854775807) (hn : (C : Int) ≠ (n : Int)) :
    Calls Try.prog 15 #[p, .agg #[.int .i64 (R : Int), .int .i64 (C : Int), .int .i64 (S : Int), .slice a len cap], .slice ax n cx] w fun e w' => e = .returned (.tuple #[.slice none 0 0, .int .i64 4]) ∧ Below w.heap.size w w' := by
  have HH : Hid (Rgt (R : Int) (C : Int) (S : Int) len) := h
  have hne : ((C : Int) == (n : Int)) = false := by rw [beq_eq_false_iff_ne]; exact hn
  clear h
  go_enter Try.func15, Try.ntmps15
  go_wp2_with fail
  have mM := MBox.made w (R : Int) (C : Int) (S : Int) (.slice a len cap)
  have b0 : Below w.heap.size w (w.alloc (.cells #[.int .i64 (R : Int), .int .i64 (C : Int), .int .i64 (S : Int), .slice a len cap] 26)) := (Below.refl _ _).alloc (Nat.le_refl _) _
  generalize (w.alloc (.cells #[.int .i64 (R : Int), .int .i64 (C : Int), .int .i64 (S : Int), .slice a len cap] 26)) = W0 at mM b0 ⊢
  refine (mCheckOk R C S _ _ _ W0 HH.out hl).mono ?_
  rintro e w1 ⟨rfl, hb1⟩
  have M1 : Hid (MBox _ _ _ _ _ _) := mM.below hb1
  have B1 : Hid (Below w.heap.size w w1) := bstep b0 hb1
  obtain ⟨q0, q1, q2, q3, q4⟩ := M1.out
  clear hb1 b0 mM
  go_wp2
  go_ret2
  exact ⟨rfl, B1.out⟩
end Go.Proofs.Ytpakpgjbgehhjaa
