/-
  Texts put together: CalcM VecC VecD VecE VecL.
-/
import Derived.Test.YtpakpgjbgehhjaaProg
import Derived.Test.YtpakpgjbgehhjaaGrD
import Derived.Test.YtpakpgjbgehhjaaGrE
import Derived.Test.YtpakpgjbgehhjaaGrB
import Derived.Test.YtpakpgjbgehhjaaGrG
import Derived.Deep.RegionHeld3
/-
  A Calc that may be nil, as one thing; worlds of which nothing but its block has turned; slices that lie beside it. No conditions.
-/
namespace Go.Proofs.Ytpakpgjbgehhjaa
open Go.RowKit
set_option linter.unusedVariables false

/-- p is a Calc whose flags are F, in block c (none: it is nil). -/
def IsCalc (w : World) (p : Value) (c : Option Nat) (F : Int) : Prop :=
  (p = .pointer none ∧ c = none) ∨ ∃ k, p = .pointer (some ⟨k, 0, none⟩) ∧ c = some k ∧ k < w.heap.size ∧ w.cell? ⟨k, 0, none⟩ = some (.int .u8 F) ∧ w.frozen? ⟨k, 0, none⟩ = false
/-- Of what was there nothing has turned but block c. -/
structure Bes (c : Option Nat) (w w' : World) : Prop where
  os : w'.os = w.os
  tape : w'.tape = w.tape
  output : w'.output = w.output
  size : w.heap.size ≤ w'.heap.size
  block : ∀ k, k < w.heap.size → c ≠ some k → w'.heap[k]? = w.heap[k]?
theorem Bes.refl (c : Option Nat) (w : World) : Bes c w w := ⟨rfl, rfl, rfl, Nat.le_refl _, fun _ _ _ => rfl⟩
theorem Bes.trans {c : Option Nat} {a b d : World} (h : Bes c a b) (k : Bes c b d) : Bes c a d :=
  ⟨k.os.trans h.os, k.tape.trans h.tape, k.output.trans h.output, Nat.le_trans h.size k.size, fun i hi hc => (k.block i (Nat.lt_of_lt_of_le hi h.size) hc).trans (h.block i hi hc)⟩
theorem Bes.of {c : Option Nat} {w w' : World} (h : Below w.heap.size w w') : Bes c w w' := ⟨h.os, h.tape, h.output, h.size, fun k hk _ => h.block k hk⟩
theorem Bes.step {c : Option Nat} {w a b : World} (h : Bes c w a) (g : Below a.heap.size a b) : Bes c w b := h.trans (Bes.of g)
theorem Bes.alloc {c : Option Nat} {w a : World} (h : Bes c w a) (o : Obj) : Bes c w (a.alloc o) := h.step ((Below.refl _ _).alloc (Nat.le_refl _) _)
theorem Bes.drew {c : Option Nat} {w a : World} (h : Bes c w a) : Bes c w a.drew := ⟨h.os, h.tape, h.output, h.size, h.block⟩
theorem Bes.set {c : Option Nat} {w a : World} (h : Bes c w a) {p : Addr} (hp : w.heap.size ≤ p.block ∨ c = some p.block) (u : Value) : Bes c w (a.setCell p u) :=
  ⟨h.os, h.tape, h.output, by simpa [World.setCell] using h.size, fun k hk hc => (Below.heap_setCell _ _ _ _ (by rcases hp with g | g; · omega
                                                                                                                 · intro e; exact hc (by rw [g, e]))).trans (h.block k hk hc)⟩
theorem Bes.cell {c : Option Nat} {w w' : World} (h : Bes c w w') {p : Addr} (hp : p.block < w.heap.size) (hc : c ≠ some p.block) : w'.cell? p = w.cell? p := World.cell?_of_block (w := w) (h.block p.block hp hc)
theorem Bes.frozen {c : Option Nat} {w w' : World} (h : Bes c w w') {p : Addr} (hp : p.block < w.heap.size) (hc : c ≠ some p.block) : w'.frozen? p = w.frozen? p := World.frozen?_of_block (w := w) (h.block p.block hp hc)
theorem Bes.below {c : Option Nat} {w w' : World} (h : Bes c w w') (B : Nat) (hB : B ≤ w.heap.size) (hc : ∀ k, c = some k → B ≤ k) : Below B w w' :=
  ⟨h.os, h.tape, h.output, h.size, fun k hk => h.block k (Nat.lt_of_lt_of_le hk hB) (fun e => by have := hc k e; omega)⟩
theorem Bes.nil {w w' : World} (h : Bes none w w') : Below w.heap.size w w' := h.below _ (Nat.le_refl _) (fun k e => by cases e)
/-- The slice lies beside block c. -/
def Apt (c : Option Nat) (a : Option Addr) (len : Nat) : Prop := 0 < len → ∀ b o s, a = some ⟨b, o, s⟩ → c ≠ some b
theorem Apt.nil (a : Option Addr) (len : Nat) : Apt none a len := fun _ b o s _ e => by cases e
theorem URow.bes {w w' : World} {c : Option Nat} {a : Option Addr} {len cap : Nat} {Z : Nat → Int} (h : URow w a len cap Z) (hb : Bes c w w') (hc : Apt c a len) : URow w' a len cap Z := by
  obtain ⟨h1, h2, h3, h4⟩ := h
  refine ⟨h1, h2, h3, fun hp => ?_⟩
  obtain ⟨b, o, e, hlt, hcell⟩ := h4 hp
  have := hb.size
  exact ⟨b, o, e, by omega, fun i hi => (hb.cell (p := ⟨b, o + i, none⟩) hlt (hc hp b o none e)).trans (hcell i hi)⟩
theorem RowU.bes {w w' : World} {c : Option Nat} {g : Nat} {xs : List Int} (h : RowU w g xs) (hb : Bes c w w') (hc : c ≠ some g) : RowU w' g xs := by
  unfold RowU
  rw [hb.block g h.lt hc]
  exact h
/-- A slice that came in lies beside a Calc that is younger. -/
theorem URow.apt {w : World} {a : Option Addr} {len cap : Nat} {Z : Nat → Int} (h : URow w a len cap Z) {c : Option Nat} (hc : ∀ k, c = some k → w.heap.size ≤ k) : Apt c a len := by
  intro hp b o s e ec
  obtain ⟨b', o', e', hlt, _⟩ := h.2.2.2 hp
  rw [e] at e'
  injection e' with e'
  injection e' with e1 e2 e3
  have := hc b ec
  omega
theorem IsCalc.later {w w' : World} {p : Value} {c : Option Nat} {F : Int} (h : IsCalc w p c F) (hb : Below w.heap.size w w') : IsCalc w' p c F := by
  rcases h with h | ⟨k, h1, h2, h3, h4, h5⟩
  · exact .inl h
  · exact .inr ⟨k, h1, h2, Nat.lt_of_lt_of_le h3 hb.size, (hb.cell (p := ⟨k, 0, none⟩) h3).trans h4, (hb.frozen (p := ⟨k, 0, none⟩) h3).trans h5⟩
theorem IsCalc.bes {w w' : World} {p : Value} {c d : Option Nat} {F : Int} (h : IsCalc w p c F) (hb : Bes d w w') (hd : ∀ k, c = some k → d ≠ some k) : IsCalc w' p c F := by
  rcases h with h | ⟨k, h1, h2, h3, h4, h5⟩
  · exact .inl h
  · exact .inr ⟨k, h1, h2, Nat.lt_of_lt_of_le h3 hb.size, (hb.cell (p := ⟨k, 0, none⟩) h3 (hd k h2)).trans h4, (hb.frozen (p := ⟨k, 0, none⟩) h3 (hd k h2)).trans h5⟩
theorem IsCalc.nil (w : World) (F : Int) : IsCalc w (.pointer none) none F := .inl ⟨rfl, rfl⟩
theorem IsCalc.lt {w : World} {p : Value} {c : Option Nat} {F : Int} (h : IsCalc w p c F) : ∀ k, c = some k → k < w.heap.size := by
  intro k e
  rcases h with ⟨_, h⟩ | ⟨j, h1, h2, h3, _⟩
  · rw [h] at e; cases e
  · rw [h2] at e; injection e with e; omega
/-- What an entry into F leaves. -/
theorem calc_set {w w1 : World} {k : Nat} {G : Int} (hk : k < w.heap.size) (hb : Below w.heap.size w w1) (z : w.frozen? ⟨k, 0, none⟩ = false) (F : Int) (c : w.cell? ⟨k, 0, none⟩ = some (.int .u8 F)) :
    IsCalc (w1.setCell ⟨k, 0, none⟩ (.int .u8 G)) (.pointer (some ⟨k, 0, none⟩)) (some k) G ∧ Bes (some k) w (w1.setCell ⟨k, 0, none⟩ (.int .u8 G)) := by
  have c1 := (hb.cell (p := ⟨k, 0, none⟩) hk).trans c
  have z1 := (hb.frozen (p := ⟨k, 0, none⟩) hk).trans z
  have hs := hb.size
  refine ⟨.inr ⟨k, rfl, rfl, by simp [World.setCell]; omega, ?_, ?_⟩, (Bes.of hb).set (p := ⟨k, 0, none⟩) (.inr rfl) _⟩
  · simp [go_sem, c1]
  · simp [go_sem, z1]
theorem uNote (p : Value) (c : Option Nat) (b f F : Int) (w : World) (hc : IsCalc w p c F) :
    Calls Try.prog 57 #[p, .int .u64 b, .int .u8 f] w fun e w' => e = .returned (.int .u64 b) ∧ IsCalc w' p c (bits .or .u8 F f) ∧ Bes c w w' := by
  rcases hc with ⟨rfl, rfl⟩ | ⟨k, rfl, rfl, h3, h4, h5⟩
  · refine (cNote0 b f w).mono ?_
    rintro e w' ⟨rfl, rfl⟩
    exact ⟨rfl, IsCalc.nil _ _, Bes.refl _ _⟩
  · refine (cNote k b f F w h4 h5).mono ?_
    rintro e w' ⟨rfl, rfl⟩
    exact ⟨rfl, calc_set h3 (Below.refl _ _) h5 F h4⟩
theorem uAdd (p : Value) (c : Option Nat) (a b F : Int) (w : World) (hc : IsCalc w p c F) (h0 : 0 ≤ a) (h1 : a < 18446744073709551616) (g0 : 0 ≤ b) (g1 : b < 18446744073709551616) :
    Calls Try.prog 21 #[p, .int .u64 a, .int .u64 b] w fun e w' => e = .returned (.int .u64 (addS a b).1) ∧ IsCalc w' p c (bits .or .u8 F (addS a b).2) ∧ Bes c w w' := by
  rcases hc with ⟨rfl, rfl⟩ | ⟨k, rfl, rfl, h3, h4, h5⟩
  · refine (cAdd0 a b w h0 h1 g0 g1).mono ?_
    rintro e w' ⟨rfl, hb⟩
    exact ⟨rfl, IsCalc.nil _ _, Bes.of hb⟩
  · refine (cAdd k a b F w h0 h1 g0 g1 h3 h4 h5).mono ?_
    rintro e w' ⟨rfl, w1, hb, rfl⟩
    exact ⟨rfl, calc_set h3 hb h5 F h4⟩
theorem uSub (p : Value) (c : Option Nat) (a b F : Int) (w : World) (hc : IsCalc w p c F) (h0 : 0 ≤ a) (h1 : a < 18446744073709551616) (g0 : 0 ≤ b) (g1 : b < 18446744073709551616) :
    Calls Try.prog 44 #[p, .int .u64 a, .int .u64 b] w fun e w' => e = .returned (.int .u64 (addS a (wFlip b)).1) ∧ IsCalc w' p c (bits .or .u8 F (addS a (wFlip b)).2) ∧ Bes c w w' := by
  rcases hc with ⟨rfl, rfl⟩ | ⟨k, rfl, rfl, h3, h4, h5⟩
  · refine (cSub0 a b w h0 h1 g0 g1).mono ?_
    rintro e w' ⟨rfl, hb⟩
    exact ⟨rfl, IsCalc.nil _ _, Bes.of hb⟩
  · refine (cSub k a b F w h0 h1 g0 g1 h3 h4 h5).mono ?_
    rintro e w' ⟨rfl, w1, hb, rfl⟩
    exact ⟨rfl, calc_set h3 hb h5 F h4⟩
theorem uMul (p : Value) (c : Option Nat) (a b F : Int) (w : World) (hc : IsCalc w p c F) (h0 : 0 ≤ a) (h1 : a < 18446744073709551616) (g0 : 0 ≤ b) (g1 : b < 18446744073709551616) :
    Calls Try.prog 20 #[p, .int .u64 a, .int .u64 b] w fun e w' => e = .returned (.int .u64 (mulS a b).1) ∧ IsCalc w' p c (bits .or .u8 F (mulS a b).2) ∧ Bes c w w' := by
  rcases hc with ⟨rfl, rfl⟩ | ⟨k, rfl, rfl, h3, h4, h5⟩
  · refine (cMul0 a b w h0 h1 g0 g1).mono ?_
    rintro e w' ⟨rfl, hb⟩
    exact ⟨rfl, IsCalc.nil _ _, Bes.of hb⟩
  · refine (cMul k a b F w h0 h1 g0 g1 h3 h4 h5).mono ?_
    rintro e w' ⟨rfl, w1, hb, rfl⟩
    exact ⟨rfl, calc_set h3 hb h5 F h4⟩
end Go.Proofs.Ytpakpgjbgehhjaa

/-
  What vec's Dot, Asum, Scal, Axpy return, with any Calc: the values step by step, and all flags. Conditions: the lists lie beside the Calc.
-/
namespace Go.Proofs.Ytpakpgjbgehhjaa
open Go.RowKit
set_option linter.unusedVariables false

theorem mulS_rng (a b : Int) : 0 ≤ (mulS a b).1 ∧ (mulS a b).1 < 18446744073709551616 := ⟨(mulS_bd a b).1, (mulS_bd a b).2.1⟩
set_option maxHeartbeats 1000000 in
theorem vDotBad (p a1 a2 : Value) (A1 A2 : Option Addr) (n1 n2 c1 c2 : Nat) (w : World) (h : (n1 : Int) ≠ (n2 : Int)) :
    Calls Try.prog 18 #[p, .slice A1 n1 c1, .slice A2 n2 c2] w fun e w' => e = .returned (.tuple #[.int .u64 9221120237041090560, .int .i64 4]) ∧ w' = w := by
  go_enter Try.func18, Try.ntmps18
  go_wp2
  go_ret2
  exact ⟨rfl, rfl⟩
set_option maxHeartbeats 1000000 in
theorem vDot (p : Value) (c : Option Nat) (F : Int) (a1 a2 : Option Addr) (n c1 c2 : Nat) (X Y : Nat → Int) (w : World) (hc : IsCalc w p c F) (hx : URow w a1 n c1 X) (hy : URow w a2 n c2 Y) (ax : Apt c a1 n) (ay : Apt c a2 n) :
    Calls Try.prog 18 #[p, .slice a1 n c1, .slice a2 n c2] w fun e w' => e = .returned (.tuple #[.int .u64 (dotV X Y n), .int .i64 0]) ∧ IsCalc w' p c (dotF F X Y n) ∧ Bes c w w' := by
  have HC : Hid (IsCalc w p c F) := hc
  have HX : Hid (URow w a1 n c1 X) := hx
  have HY : Hid (URow w a2 n c2 Y) := hy
  have AX : Hid (Apt c a1 n) := ax
  have AY : Hid (Apt c a2 n) := ay
  have hn : (n : Int) ≤ 9223372036854775807 := by have := hx.1; have := hx.2.1; unfold maxLen at this; omega
  clear hc hx hy ax ay
  go_enter Try.func18, Try.ntmps18
  go_wp2
  go_loopw [10, 24] (fun s i wr => ∃ k : Nat, s = .int .u64 (dotV X Y k) ∧ i = .int .i64 (k : Int) ∧ k ≤ n ∧ Hid (IsCalc wr p c (dotF F X Y k)) ∧ Hid (Bes c w wr)) (fun _ i _ => n - (intOf i).toNat)
  case atStart => exact ⟨0, rfl, rfl, Nat.zero_le _, HC, Bes.refl _ _⟩
  case round =>
    obtain ⟨k, rfl, rfl, hk, C, B⟩ := hrel
    by_cases hlt : (k : Int) < (n : Int)
    · obtain ⟨_, _, zx, fx⟩ := HX.out.bes B.out AX.out
      obtain ⟨_, _, zy, fy⟩ := HY.out.bes B.out AY.out
      obtain ⟨b1, o1, rfl, l1, e1⟩ := fx (by omega)
      obtain ⟨b2, o2, rfl, l2, e2⟩ := fy (by omega)
      have q1 := e1 k (by omega)
      have q2 := e2 k (by omega)
      obtain ⟨x0, x1⟩ := zx k
      obtain ⟨y0, y1⟩ := zy k
      obtain ⟨d0, d1⟩ := dotV_rng X Y k
      clear zx fx zy fy e1 e2
      have SV : Hid ((addS (dotV X Y k) (mulS (X k) (Y k)).1).1 = dotV X Y (k + 1)) := rfl
      have SF : Hid (bits .or .u8 (bits .or .u8 (dotF F X Y k) (mulS (X k) (Y k)).2) (addS (dotV X Y k) (mulS (X k) (Y k)).1).2 = dotF F X Y (k + 1)) := rfl
      obtain ⟨m0, m1⟩ := mulS_rng (X k) (Y k)
      obtain ⟨x, hx⟩ : ∃ x, X k = x := ⟨_, rfl⟩
      obtain ⟨y, hy⟩ : ∃ y, Y k = y := ⟨_, rfl⟩
      obtain ⟨d, hd⟩ : ∃ d, dotV X Y k = d := ⟨_, rfl⟩
      obtain ⟨F1, hF⟩ : ∃ d, dotF F X Y k = d := ⟨_, rfl⟩
      rw [hx] at q1 x0 x1 SV SF m0 m1
      rw [hy] at q2 y0 y1 SV SF m0 m1
      rw [hd] at d0 d1 SV SF ⊢
      rw [hF] at C SF
      obtain ⟨M, hM⟩ : ∃ M, mulS x y = M := ⟨_, rfl⟩
      rw [hM] at SV SF m0 m1
      have HM : Hid (_ = _) := hM
      clear hx hy hd hF hM
      obtain ⟨m, fm⟩ := M
      simp only at SV SF m0 m1
      go_wp2_with fail
      refine (uMul p c x y F1 _ C.out x0 x1 y0 y1).mono ?_
      rintro e w1 ⟨rfl, C1, B1⟩
      rw [HM.out] at C1 ⊢
      have HC1 : Hid (IsCalc _ _ _ _) := C1
      have HB1 : Hid (Bes _ _ _) := B.out.trans B1
      clear C1 B1 B C
      go_wp2_with fail
      refine (uAdd p c d m _ _ HC1.out d0 d1 m0 m1).mono ?_
      rintro e w2 ⟨rfl, C2, B2⟩
      rw [SV.out]
      rw [SF.out] at C2
      have HC2 : Hid (IsCalc _ _ _ _) := C2
      have HB2 : Hid (Bes _ _ _) := HB1.out.trans B2
      clear C2 B2 HB1 HC1
      go_wp2
      go_roundw
      case rel => exact ⟨k + 1, rfl, by go_num, by omega, HC2, HB2⟩
      case measure => simp [intOf]; omega
    · obtain rfl : k = n := by omega
      go_wp2
      go_ret2
      exact ⟨rfl, C.out, B.out⟩
end Go.Proofs.Ytpakpgjbgehhjaa

/-
  What vec's Unit, Scal, Asum and Axpy return: new rows, filled one place behind the other. Conditions: the lists lie beside the Calc; at most a million numbers.
-/
namespace Go.Proofs.Ytpakpgjbgehhjaa
open Go.RowKit
set_option linter.unusedVariables false

/-- Block g is a new row of n words, of which the first k are Z's. -/
def Row1 (w : World) (g n k : Nat) (Z : Nat → Int) : Prop := ∃ xs : List Int, RowU w g xs ∧ xs.length = n ∧ ∀ i, i < k → xs[i]?.getD 0 = Z i
theorem Row1.new (w : World) (n : Nat) (Z : Nat → Int) : Row1 (w.alloc (.cells ((List.replicate n (0 : Int)).map (Value.int .u64)).toArray 23)) w.heap.size n 0 Z :=
  ⟨List.replicate n 0, heap_alloc_new w _, List.length_replicate, fun i h => absurd h (Nat.not_lt_zero i)⟩
theorem Row1.lt {w : World} {g n k : Nat} {Z : Nat → Int} (h : Row1 w g n k Z) : g < w.heap.size := by obtain ⟨xs, h1, _⟩ := h; exact h1.lt
theorem Row1.at {w : World} {g n k : Nat} {Z : Nat → Int} (h : Row1 w g n k Z) (i : Nat) (hi : i < n) : ∃ z, w.cell? ⟨g, i, none⟩ = some (.int .u64 z) ∧ w.frozen? ⟨g, i, none⟩ = false := by
  obtain ⟨xs, h1, h2, h3⟩ := h
  exact ⟨_, h1.cell i (by omega), h1.frozen i⟩
theorem Row1.set {w : World} {g n k : Nat} {Z : Nat → Int} (h : Row1 w g n k Z) (hk : k < n) {z : Int} (hz : z = Z k) : Row1 (w.setCell ⟨g, k, none⟩ (.int .u64 z)) g n (k + 1) Z := by
  obtain ⟨xs, h1, h2, h3⟩ := h
  refine ⟨xs.set k z, h1.set k z, by rw [List.length_set]; exact h2, fun i hi => ?_⟩
  rw [List.getElem?_set]
  by_cases e : k = i
  · subst e
    rw [if_pos rfl, if_pos (by omega)]
    exact hz
  · rw [if_neg e]
    exact h3 i (by omega)
theorem Row1.put {w : World} {g n k : Nat} {Z : Nat → Int} (h : Row1 w g n k Z) {p : Addr} (hp : p.block ≠ g) (u : Value) : Row1 (w.setCell p u) g n k Z := by
  obtain ⟨xs, h1, h2⟩ := h
  refine ⟨xs, ?_, h2⟩
  unfold RowU
  rw [Below.heap_setCell _ _ _ _ (Ne.symm hp)]
  exact h1
theorem Row1.below {w w' : World} {g n k : Nat} {Z : Nat → Int} (h : Row1 w g n k Z) (hb : Below w.heap.size w w') : Row1 w' g n k Z := by
  obtain ⟨xs, h1, h2⟩ := h
  exact ⟨xs, h1.below hb, h2⟩
theorem Row1.bes {w w' : World} {c : Option Nat} {g n k : Nat} {Z : Nat → Int} (h : Row1 w g n k Z) (hb : Bes c w w') (hc : c ≠ some g) : Row1 w' g n k Z := by
  obtain ⟨xs, h1, h2⟩ := h
  exact ⟨xs, h1.bes hb hc, h2⟩
theorem Row1.drew {w : World} {g n k : Nat} {Z : Nat → Int} (h : Row1 w g n k Z) : Row1 w.drew g n k Z := h
theorem Row1.row {w : World} {g n : Nat} {Z : Nat → Int} (h : Row1 w g n n Z) (hn : n ≤ 1000000) (hz : ∀ i, 0 ≤ Z i ∧ Z i < 18446744073709551616) : URow w (some ⟨g, 0, none⟩) n n Z := by
  obtain ⟨xs, h1, h2, h3⟩ := h
  refine ⟨Nat.le_refl _, by unfold maxLen; omega, hz, fun hp => ⟨g, 0, rfl, h1.lt, fun i hi => ?_⟩⟩
  rw [Nat.zero_add, h1.cell i (by omega), h3 i hi]
/-- The sum of all without their signs, and its flags. -/
def asuV (X : Nat → Int) : Nat → Int
  | 0 => 0
  | k + 1 => (addS (asuV X k) (X k % 9223372036854775808)).1
def asuF (F : Int) (X : Nat → Int) : Nat → Int
  | 0 => F
  | k + 1 => bits .or .u8 (asuF F X k) (addS (asuV X k) (X k % 9223372036854775808)).2
theorem asuV_rng (X : Nat → Int) (n : Nat) : 0 ≤ asuV X n ∧ asuV X n < 18446744073709551616 := by
  induction n with
  | zero => exact ⟨show (0 : Int) ≤ 0 by decide, show (0 : Int) < 18446744073709551616 by decide⟩
  | succ n ih =>
    have := addS_bd (asuV X n) (X n % 9223372036854775808) ih.1 ih.2 (by omega) (by omega)
    exact ⟨this.1, this.2.1⟩
/-- The flags of the products of a and X, on top of F. -/
def sclF (F a : Int) (X : Nat → Int) : Nat → Int
  | 0 => F
  | k + 1 => bits .or .u8 (sclF F a X k) (mulS a (X k)).2
def sclV (a : Int) (X : Nat → Int) : Nat → Int := fun i => (mulS a (X i)).1
end Go.Proofs.Ytpakpgjbgehhjaa

/-
  What vec's Power and Nrm2 return; the document's example. Conditions: at most 60 numbers, beside the Calc.
-/
namespace Go.Proofs.Ytpakpgjbgehhjaa
open Go.RowKit
set_option linter.unusedVariables false

/-- All are zeros, or one isn't finite. -/
def NoPow (X : Nat → Int) (n : Nat) : Prop := (∀ i, i < n → mag (X i) = 0) ∨ ∃ i, i < n ∧ ¬ mag (X i) < 9218868437227405312
/-- All are finite. -/
def FinX (X : Nat → Int) (n : Nat) : Prop := ∀ i, i < n → mag (X i) < 9218868437227405312
theorem bl_span (m : Nat) (h : 0 < m) : 1 ≤ (bl m).length ∧ 2 ^ ((bl m).length - 1) ≤ m ∧ m < 2 ^ (bl m).length := by
  have h1 := (bl_length_le m (bl m).length).1 (Nat.le_refl _)
  have h2 := bl_length_le m ((bl m).length - 1)
  have h0 : 1 ≤ (bl m).length := by
    rcases Nat.eq_zero_or_pos (bl m).length with g | g
    · rw [g, Nat.pow_zero] at h1; omega
    · exact g
  refine ⟨h0, ?_, h1⟩
  rcases Nat.lt_or_ge m (2 ^ ((bl m).length - 1)) with g | g
  · have := h2.2 g; omega
  · exact g
theorem mag_mod (x : Int) : mag (x % 9223372036854775808) = mag x := by unfold mag; rw [Int.emod_emod_of_dvd _ (Int.dvd_refl _)]
theorem mant_bad (b : Int) (h : ¬ mag b < 9218868437227405312) : wMant b = 0 := by
  unfold mag at h
  unfold wMant wKind
  repeat' split
  all_goals omega
/-- What the greatest tells of the power. -/
theorem great_pow {n : Nat} {X : Nat → Int} {B t : Int} (h : Great n X B t) :
    (wMant B = 0 → NoPow X n) ∧ (wMant B ≠ 0 → FinX X n ∧ IsPow X n (wPow B + ((bl (wMant B).toNat).length : Int) - 1)) := by
  rcases h with ⟨k, hk, hn, _, rfl, _⟩ | ⟨h0, h⟩
  · refine ⟨fun _ => .inr ⟨k, hk, ?_⟩, fun h => absurd (by decide) h⟩
    unfold isNan at hn
    have := of_decide_eq_true hn
    omega
  · have hnn : ∀ i, i < n → mag (X i) ≤ 9218868437227405312 := by
      intro i hi
      have := h0 i hi
      unfold isNan at this
      have := of_decide_eq_false this
      omega
    rcases h with ⟨rfl, rfl, _⟩ | ⟨j, _, hj, rfl, h3⟩
    · exact ⟨fun _ => .inl (fun i hi => absurd hi (Nat.not_lt_zero i)), fun h => absurd (by decide) h⟩
    · have hle : ∀ i, i < n → mag (X i) ≤ mag (X j) := by
        intro i hi
        have := (h3 i hi).1
        unfold mag
        omega
      have hm := mag_mod (X j)
      by_cases hf : mag (X j) < 9218868437227405312
      · have hz := mant_zero (X j % 9223372036854775808) (by rw [hm]; exact hf)
        rw [hm] at hz
        constructor
        · intro g
          have := hz.1 g
          exact .inl (fun i hi => by have := hle i hi; omega)
        · intro g
          have hF : FinX X n := fun i hi => by have := hle i hi; omega
          refine ⟨hF, ?_⟩
          have hV := parts_V (X j % 9223372036854775808) (by rw [hm]; exact hf)
          rw [hm] at hV
          obtain ⟨p0, p1, p2, p3⟩ := parts_bd (X j % 9223372036854775808)
          generalize wMant (X j % 9223372036854775808) = M at *
          generalize wPow (X j % 9223372036854775808) = P at *
          obtain ⟨s1, s2, s3⟩ := bl_span M.toNat (by omega)
          have s4 : (bl M.toNat).length ≤ 53 := (bl_length_le _ _).2 (by omega)
          generalize (bl M.toNat).length = L at *
          refine ⟨by omega, by omega, fun i hi => ?_, j, hj, ?_⟩
          · refine Nat.lt_of_le_of_lt (V_mono _ _ (hle i hi)) ?_
            rw [hV, show (P + (L : Int) - 1 + 1075).toNat = L + (P + 1074).toNat by omega, Nat.pow_add]
            exact Nat.mul_lt_mul_of_pos_right s3 (Nat.pow_pos (by decide))
          · rw [hV, show (P + (L : Int) - 1 + 1074).toNat = (L - 1) + (P + 1074).toNat by omega, Nat.pow_add]
            exact Nat.mul_le_mul_right _ s2
      · have hb := mant_bad (X j % 9223372036854775808) (by rw [hm]; exact hf)
        exact ⟨fun _ => .inr ⟨j, hj, hf⟩, fun g => absurd hb g⟩
theorem Great.only {n : Nat} {X : Nat → Int} {B t B' t' : Int} (h : Great n X B t) (h' : Great n X B' t') : B = B' := by
  rcases h with ⟨k, hk, hn, _, rfl, _⟩ | ⟨h0, h⟩
  · rcases h' with ⟨k', hk', hn', _, rfl, _⟩ | ⟨h0', h'⟩
    · rfl
    · have := h0' k hk; rw [hn] at this; cases this
  · rcases h' with ⟨k', hk', hn', _, rfl, _⟩ | ⟨h0', h'⟩
    · have := h0 k' hk'; rw [hn'] at this; cases this
    · rcases h with ⟨rfl, rfl, _⟩ | ⟨j, _, hj, rfl, h3⟩
      · rcases h' with ⟨_, rfl, _⟩ | ⟨j', _, hj', _, _⟩
        · rfl
        · exact absurd hj' (Nat.not_lt_zero _)
      · rcases h' with ⟨rfl, _, _⟩ | ⟨j', _, hj', rfl, h3'⟩
        · exact absurd hj (Nat.not_lt_zero _)
        · have := (h3 j' hj').1
          have := (h3' j hj).1
          omega
theorem Great.rng {n : Nat} {X : Nat → Int} {B t : Int} (h : Great n X B t) : 0 ≤ B ∧ B < 18446744073709551616 := by
  rcases h with ⟨k, hk, hn, _, rfl, _⟩ | h
  · decide
  · have := h.bd; omega
/-- The flags of Nrm2, where there is a power: those of the Scaling, and Inexact of the squares and sums. -/
def nrmF (X : Nat → Int) (n : Nat) (q : Int) : Int := bits .or .u8 (nrmV X n q).2 (bits .and .u8 (dotF 0 (unitS X q) (unitS X q) n) 1)
theorem calc_new (w : World) : IsCalc (w.alloc (.cells #[.int .u8 0] 32)) (.pointer (some ⟨w.heap.size, 0, none⟩)) (some w.heap.size) 0 := by
  refine .inr ⟨_, rfl, rfl, by simp, ?_, ?_⟩
  · simp [go_sem]
  · simp [go_sem]
/-- 3 and 4, and what else stands for nothing. -/
def xHead : Nat → Int := fun i => if i = 0 then 4613937818241073152 else if i = 1 then 4616189618054758400 else 0
theorem xHead_rng (i : Nat) : 0 ≤ xHead i ∧ xHead i < 18446744073709551616 := by
  unfold xHead
  split
  · decide
  · split <;> decide
theorem fHead : FinX xHead 2 := by
  intro i hi
  match i, hi with
  | 0, _ => decide
  | 1, _ => decide
theorem h_s3 : scaleS 4613937818241073152 (-2) = (4604930618986332160, 0) := by decide +kernel
theorem h_s4 : scaleS 4616189618054758400 (-2) = (4607182418800017408, 0) := by decide +kernel
theorem h_m3 : mulS 4604930618986332160 4604930618986332160 = (4603241769126068224, 0) := by decide +kernel
theorem h_m4 : mulS 4607182418800017408 4607182418800017408 = (4607182418800017408, 0) := by decide +kernel
theorem h_a3 : addS 0 4603241769126068224 = (4603241769126068224, 0) := by decide +kernel
theorem h_a4 : addS 4603241769126068224 4607182418800017408 = (4609715693590413312, 0) := by decide +kernel
theorem h_m5 : mulS 4608308318706860032 4608308318706860032 = (4609715693590413312, 0) := by decide +kernel
theorem h_s5 : scaleS 4608308318706860032 2 = (4617315517961601024, 0) := by decide +kernel
theorem V125 : V 4608308318706860032 = 5629499534213120 * 2 ^ 1022 := V_split 5629499534213120 1022 (by decide) (by decide)
theorem h_r : (sqrtS 4609715693590413312).1 = 4608308318706860032 := by
  have hm : mag 4609715693590413312 = 4609715693590413312 := by decide +kernel
  have hr := root_square 4608308318706860032 4609715693590413312 (by decide) (by decide) (by decide +kernel) (by decide) (.inl (by decide +kernel))
  unfold sqrtS
  rw [show isNan 4609715693590413312 = false by decide +kernel, show isZ 4609715693590413312 = false by decide +kernel, show sgn 4609715693590413312 = false by decide +kernel, hm]
  rw [if_neg (by decide), if_neg (by decide), if_neg (by decide), if_neg (by decide)]
  show ((rootN (V 4609715693590413312) : Nat) : Int) = _
  rw [hr]
  rfl
theorem uHead0 : unitS xHead 2 0 = 4604930618986332160 := by
  show (scaleS 4613937818241073152 (-2)).1 = _
  rw [h_s3]
theorem uHead1 : unitS xHead 2 1 = 4607182418800017408 := by
  show (scaleS 4616189618054758400 (-2)).1 = _
  rw [h_s4]
theorem nHead : (nrmV xHead 2 2).1 = 4617315517961601024 := by
  unfold nrmV
  have d0 : dotV (unitS xHead 2) (unitS xHead 2) 0 = 0 := rfl
  have d1 : dotV (unitS xHead 2) (unitS xHead 2) 1 = 4603241769126068224 := by
    show (addS (dotV (unitS xHead 2) (unitS xHead 2) 0) (mulS (unitS xHead 2 0) (unitS xHead 2 0)).1).1 = _
    rw [d0, uHead0, h_m3, h_a3]
  have d2 : dotV (unitS xHead 2) (unitS xHead 2) 2 = 4609715693590413312 := by
    show (addS (dotV (unitS xHead 2) (unitS xHead 2) 1) (mulS (unitS xHead 2 1) (unitS xHead 2 1)).1).1 = _
    rw [d1, uHead1, h_m4, h_a4]
  rw [d2, h_r, h_s5]
theorem pHead : IsPow xHead 2 2 := by
  have h0 : V (mag (xHead 0)) < 2 ^ ((2 : Int) + 1075).toNat := by decide +kernel
  have h1 : V (mag (xHead 1)) < 2 ^ ((2 : Int) + 1075).toNat := by decide +kernel
  have h2 : 2 ^ ((2 : Int) + 1074).toNat ≤ V (mag (xHead 1)) := by decide +kernel
  exact ⟨by decide, by decide, fun i hi => match i, hi with | 0, _ => h0 | 1, _ => h1, 1, by decide, h2⟩
theorem row_head (w : World) : URow (w.alloc (.cells #[.int .u64 4613937818241073152, .int .u64 4616189618054758400] 23)) (some ⟨w.heap.size, 0, none⟩) 2 2 xHead := by
  refine ⟨Nat.le_refl _, by unfold maxLen; omega, xHead_rng, fun _ => ⟨_, _, rfl, by simp, fun i hi => ?_⟩⟩
  match i, hi with
  | 0, _ => rw [World.cell?_alloc_at _ _ _ _ rfl]; rfl
  | 1, _ => rw [World.cell?_alloc_at _ _ _ _ rfl]; rfl
end Go.Proofs.Ytpakpgjbgehhjaa

/-
  What the laws of layer 10 share: which numbers have a power; flags; a Calc's cell; lists of a function's values. No conditions.
-/
namespace Go.Proofs.Ytpakpgjbgehhjaa
open Go.RowKit
set_option linter.unusedVariables false

theorem no_pow {X : Nat → Int} {n : Nat} {q : Int} (h : IsPow X n q) (hf : FinX X n) : ¬ NoPow X n := by
  rintro (g | ⟨i, hi, g⟩)
  · obtain ⟨_, _, _, i, hi, h4⟩ := h
    rw [g i hi] at h4
    have := Nat.two_pow_pos (q + 1074).toNat
    have e : V 0 = 0 := rfl
    omega
  · exact g (hf i hi)
theorem no_zero {X : Nat → Int} {n : Nat} (h : NoPow X n) (hf : FinX X n) : ∀ i, i < n → mag (X i) = 0 := by
  rcases h with g | ⟨i, hi, g⟩
  · exact g
  · exact absurd (hf i hi) g
theorem great_zero {X : Nat → Int} {n : Nat} {B t : Int} (h : Great n X B t) (hz : ∀ i, i < n → mag (X i) = 0) : B = 0 := by
  rcases h with ⟨k, hk, hn, _⟩ | ⟨h0, ⟨_, rfl, _⟩ | ⟨j, _, hj, rfl, _⟩⟩
  · unfold isNan at hn
    rw [hz k hk] at hn
    exact absurd hn (by decide)
  · rfl
  · have := hz j hj
    unfold mag at this
    omega
theorem scale_zero (a n : Int) (h : mag a = 0) : scaleS a n = (a, 0) := by
  unfold scaleS
  rw [show isNan a = false by unfold isNan; rw [h]; decide, show isZ a = true by unfold isZ; rw [h]; decide]
  simp
theorem or0_all : ∀ j : Fin 256, bits .or .u8 0 ((j.1 : Nat) : Int) = ((j.1 : Nat) : Int) := by decide +kernel
theorem or0 (F : Int) (h0 : 0 ≤ F) (h1 : F < 256) : bits .or .u8 0 F = F := by
  have := or0_all ⟨F.toNat, by omega⟩
  simp only at this
  rw [show ((F.toNat : Nat) : Int) = F by omega] at this
  exact this
theorem and1_all : ∀ j : Fin 32, 0 ≤ bits .and .u8 ((j.1 : Nat) : Int) 1 ∧ bits .and .u8 ((j.1 : Nat) : Int) 1 ≤ 31 := by decide +kernel
theorem and1_bd (F : Int) (h0 : 0 ≤ F) (h1 : F ≤ 31) : 0 ≤ bits .and .u8 F 1 ∧ bits .and .u8 F 1 ≤ 31 := by
  have := and1_all ⟨F.toNat, by omega⟩
  simp only at this
  rw [show ((F.toNat : Nat) : Int) = F by omega] at this
  exact this
theorem calc_cell {w : World} {k : Nat} {F : Int} (h : IsCalc w (.pointer (some ⟨k, 0, none⟩)) (some k) F) : w.cell? ⟨k, 0, none⟩ = some (.int .u8 F) ∧ w.frozen? ⟨k, 0, none⟩ = false ∧ k < w.heap.size := by
  rcases h with ⟨_, h⟩ | ⟨j, _, h2, h3, h4, h5⟩
  · cases h
  · injection h2 with h2
    subst h2
    exact ⟨h4, h5, h3⟩
theorem root_quiet (a : Int) (h : isNan (sqrtS a).1 = true) : (sqrtS a).1 = 9221120237041090560 := by
  unfold sqrtS at *
  split
  · rfl
  · rename_i h1
    rw [if_neg h1] at h
    split
    · rename_i h2
      rw [if_pos h2] at h
      exact absurd h h1
    · rename_i h2
      rw [if_neg h2] at h
      split
      · rename_i h3
        rw [if_pos h3] at h
        exact absurd h h1
      · rename_i h3
        rw [if_neg h3] at h
        split
        · rfl
        · rename_i h4
          rw [if_neg h4] at h
          have hr := rootN_le (V (mag a))
          have h' : isNan ((rootN (V (mag a)) : Nat) : Int) = true := h
          generalize rootN (V (mag a)) = R at hr h'
          unfold isNan mag at h'
          have := of_decide_eq_true h'
          omega
theorem six_one (f : Nat) (h : f = 0 ∨ f = 1 ∨ f = 3 ∨ f = 5) (g : bits .and .u8 (f : Int) 6 = 0) : f ≤ 1 := by
  rcases h with rfl | rfl | rfl | rfl
  · omega
  · omega
  · exact absurd g (by decide)
  · exact absurd g (by decide)
theorem scale_six (a n : Int) (hq : isNan a = true → a = 9221120237041090560) (h : bits .and .u8 (scaleS a n).2 6 = 0) : (scaleS a n).2 ≤ 1 := by
  by_cases h1 : isNan a = true
  · rw [hq h1]
    have : (scaleS 9221120237041090560 n).2 = 0 := by
      unfold scaleS
      rw [if_pos (by decide)]
      exact nanF_quiet
    omega
  · unfold scaleS at *
    rw [if_neg h1] at *
    by_cases h2 : (isInf a || isZ a) = true
    · rw [if_pos h2]; show (0 : Int) ≤ 1; decide
    · rw [if_neg h2] at *
      have := six_one _ (flag_four (V (mag a)) (n - 1074)) h
      show ((flagP (V (mag a)) (n - 1074) : Nat) : Int) ≤ 1
      omega
theorem nrmF_rng (X : Nat → Int) (n : Nat) (q : Int) : 0 ≤ nrmF X n q ∧ nrmF X n q ≤ 31 := by
  obtain ⟨d0, d1⟩ := dotF_rng 0 (unitS X q) (unitS X q) (by decide) (by decide) n
  obtain ⟨e0, e1⟩ := and1_bd _ d0 d1
  obtain ⟨v0, v1⟩ := dotV_rng (unitS X q) (unitS X q) n
  obtain ⟨s0, s1, _, _⟩ := sqrtS_bd _ v0 v1
  obtain ⟨_, _, f0, f1⟩ := scaleS_bd _ q s0 s1
  exact or_rng _ _ f0 f1 e0 e1
/-- If Nrm2's flags are neither Over nor Under, its Scaling's are at most Inexact. -/
theorem nrmF_six (X : Nat → Int) (n : Nat) (q : Int) (h : bits .and .u8 (nrmF X n q) 6 = 0) : (nrmV X n q).2 ≤ 1 := by
  obtain ⟨d0, d1⟩ := dotF_rng 0 (unitS X q) (unitS X q) (by decide) (by decide) n
  obtain ⟨e0, e1⟩ := and1_bd _ d0 d1
  obtain ⟨v0, v1⟩ := dotV_rng (unitS X q) (unitS X q) n
  obtain ⟨s0, s1, _, _⟩ := sqrtS_bd _ v0 v1
  obtain ⟨_, _, f0, f1⟩ := scaleS_bd _ q s0 s1
  exact scale_six _ _ (root_quiet _) (or_and ⟨6, by decide⟩ _ _ f0 f1 e0 e1 h).1
/-- The first k values. -/
def lst (Y : Nat → Int) (k : Nat) : List Int := (List.range k).map Y
theorem lst_succ (Y : Nat → Int) (k : Nat) : lst Y (k + 1) = lst Y k ++ [Y k] := by unfold lst; rw [List.range_succ, List.map_append]; rfl
theorem lst_len (Y : Nat → Int) (k : Nat) : (lst Y k).length = k := by unfold lst; simp
theorem lst_at (Y : Nat → Int) (k i : Nat) (h : i < k) : (lst Y k)[i]?.getD 0 = Y i := by unfold lst; simp [h]
theorem OwnU.row {w : World} {base : Nat} {v : Value} {Y : Nat → Int} {n : Nat} (h : OwnU w base v (lst Y n)) (hy : ∀ i, 0 ≤ Y i ∧ Y i < 18446744073709551616) : ∃ g c, v = .slice (some ⟨g, 0, none⟩) n c ∧ base ≤ g ∧ g < w.heap.size ∧ URow w (some ⟨g, 0, none⟩) n c Y := by
  obtain ⟨g, cap, e, _, h1, h2, h3, h4, h5⟩ := h.at
  rw [lst_len] at e h3 h5
  refine ⟨g, cap, e, h1, h2, h3, h4, hy, fun _ => ⟨g, 0, rfl, h2, fun i hi => ?_⟩⟩
  rw [Nat.zero_add, h5 i hi, lst_at _ _ _ hi]
end Go.Proofs.Ytpakpgjbgehhjaa
