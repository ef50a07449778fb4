/-
  Texts put together: MulC2 MulG MulK MulL.
-/
import Derived.Test.YtpakpgjbgehhjaaProg
import Derived.Test.YtpakpgjbgehhjaaGrS
import Derived.Test.YtpakpgjbgehhjaaGrB
/-
  What mul's Gemm returns, with any Calc: the products of rows and columns, and all flags. Conditions: matrices that are right and fit, of at most a million numbers; they lie beside the Calc.
-/
namespace Go.Proofs.Ytpakpgjbgehhjaa
open Go.RowKit
set_option linter.unusedVariables false
set_option linter.unusedSimpArgs false

/-- The flags of the products of a row and n columns, on top of F. -/
def mmR (F : Int) (X : Nat → Int) (Y : Nat → Nat → Int) (C : Nat) : Nat → Int
  | 0 => F
  | k + 1 => dotF (mmR F X Y C k) X (Y k) C
/-- The flags of the products of n rows and D columns, on top of F. -/
def mmF (F : Int) (Z Y : Nat → Nat → Int) (C D : Nat) : Nat → Int
  | 0 => F
  | n + 1 => mmR (mmF F Z Y C D n) (Z n) Y C D
/-- Of n rows, and of m numbers of row n, what stands in xs is V. -/
def FillI (xs : List Int) (V : Nat → Nat → Int) (R D n m : Nat) : Prop := xs.length = R * D ∧ InW xs ∧ ∀ i k, k < D → i < R → (i < n ∨ (i = n ∧ k < m)) → xs[i * D + k]?.getD 0 = V i k
theorem FillI.set {xs : List Int} {V : Nat → Nat → Int} {R D n m : Nat} (h : FillI xs V R D n m) (hn : n < R) (hm : m < D) (x : Int) (hx : x = V n m) (x0 : 0 ≤ x) (x1 : x < 18446744073709551616) : FillI (xs.set (n * D + m) x) V R D n (m + 1) := by
  obtain ⟨h1, h2, h3⟩ := h
  refine ⟨by rw [List.length_set]; exact h1, h2.set _ _ x0 x1, fun i k hk hi hik => ?_⟩
  rw [List.getElem?_set]
  by_cases e : i = n ∧ k = m
  · rw [e.1, e.2, if_pos rfl, if_pos (by rw [h1]; exact row_lt D n m R hn hm)]
    exact hx
  · have hlt : i < n ∨ (i = n ∧ k < m) := by omega
    rw [if_neg (Ne.symm (place_ne D D i k n m (Nat.le_refl _) hk hm hlt))]
    exact h3 i k hk hi hlt
theorem FillI.next {xs : List Int} {V : Nat → Nat → Int} {R D n : Nat} (h : FillI xs V R D n D) : FillI xs V R D (n + 1) 0 := by
  obtain ⟨h1, h2, h3⟩ := h
  exact ⟨h1, h2, fun i k hk hi hik => h3 i k hk hi (by omega)⟩
/-- The world while Gemm runs. -/
structure GemW (w wr : World) (p : Value) (c : Option Nat) (F : Int) (R C D : Nat) (k6 k8 g1 ga gb B : Nat) (xs : List Int) (ZA ZB : Nat → Nat → Int) : Prop where
  ans : WBox wr k6 0 0 0 (.slice none 0 0)
  m : MBox wr k8 (R : Int) (D : Int) (D : Int) (.slice (some ⟨g1, 0, none⟩) (R * D) (R * D))
  row : RowU wr g1 xs
  la : Lines wr B ga R C ZA
  lb : Lines wr B gb D C ZB
  flg : IsCalc wr p c F
  bes : Bes c w wr
/-- What lies apart while Gemm runs. -/
def GemD (w : World) (c : Option Nat) (k6 k8 g1 B : Nat) : Prop := w.heap.size ≤ k6 ∧ w.heap.size ≤ k8 ∧ w.heap.size ≤ g1 ∧ g1 ≠ k6 ∧ g1 ≠ k8 ∧ g1 < B ∧ k6 < B ∧ k8 < B ∧ k8 ≠ k6 ∧ ∀ k, c = some k → k < w.heap.size
theorem GemW.call {w wr wr' : World} {p : Value} {c : Option Nat} {F F' : Int} {R C D k6 k8 g1 ga gb B : Nat} {xs : List Int} {ZA ZB : Nat → Nat → Int} (h : GemW w wr p c F R C D k6 k8 g1 ga gb B xs ZA ZB) (d : GemD w c k6 k8 g1 B) (hb : Bes c wr wr') (hc : IsCalc wr' p c F') : GemW w wr' p c F' R C D k6 k8 g1 ga gb B xs ZA ZB := by
  obtain ⟨d1, d2, d3, d4, d5, d6, d7, d8, d9, d10⟩ := d
  exact ⟨h.ans.bes hb (fun e => by have := d10 _ e; omega), h.m.bes hb (fun e => by have := d10 _ e; omega), h.row.bes hb (fun e => by have := d10 _ e; omega), h.la.bes hb (fun k e => by have := d10 _ e; omega), h.lb.bes hb (fun k e => by have := d10 _ e; omega), hc, h.bes.trans hb⟩
theorem GemW.put {w wr wr' : World} {p : Value} {c : Option Nat} {F : Int} {R C D k6 k8 g1 ga gb B : Nat} {xs ys : List Int} {ZA ZB : Nat → Nat → Int} (h : GemW w wr p c F R C D k6 k8 g1 ga gb B xs ZA ZB) (d : GemD w c k6 k8 g1 B) (hb : Bes (some g1) wr wr') (hr : RowU wr' g1 ys) : GemW w wr' p c F R C D k6 k8 g1 ga gb B ys ZA ZB := by
  obtain ⟨d1, d2, d3, d4, d5, d6, d7, d8, d9, d10⟩ := d
  refine ⟨h.ans.bes hb (ne_some d4), h.m.bes hb (ne_some d5), hr, h.la.bes hb (fun k e => by injection e with e; omega), h.lb.bes hb (fun k e => by injection e with e; omega), h.flg.bes hb (fun k e e2 => by have := d10 _ e; injection e2 with e2; omega), ?_⟩
  exact ⟨hb.os.trans h.bes.os, hb.tape.trans h.bes.tape, hb.output.trans h.bes.output, Nat.le_trans h.bes.size hb.size, fun k hk hc => (hb.block k (Nat.lt_of_lt_of_le hk h.bes.size) (fun e => by injection e with e; omega)).trans (h.bes.block k hk hc)⟩
theorem GemW.drew {w wr : World} {p : Value} {c : Option Nat} {F : Int} {R C D k6 k8 g1 ga gb B : Nat} {xs : List Int} {ZA ZB : Nat → Nat → Int} (h : GemW w wr p c F R C D k6 k8 g1 ga gb B xs ZA ZB) (d : GemD w c k6 k8 g1 B) : GemW w wr.drew p c F R C D k6 k8 g1 ga gb B xs ZA ZB := h.call d ((Bes.refl _ _).drew) h.flg.drew
set_option maxHeartbeats 4000000 in
set_option maxRecDepth 100000 in
theorem mGemm (p : Value) (c : Option Nat) (F : Int) (R C S : Nat) (a : Option Addr) (len cap : Nat) (Z : Nat → Int) (D S2 : Nat) (a2 : Option Addr) (len2 cap2 : Nat) (Y : Nat → Int) (w : World) (hc : IsCalc w p c F) (h : Rgt (R : Int) (C : Int) (S : Int) len) (h2 : Rgt (C : Int) (D : Int) (S2 : Int) len2) (hz : URow w a len cap Z) (hy : URow w a2 len2 cap2 Y) (hRC : R * C ≤ 1000000) (hCD : D * C ≤ 1000000) (hRD : R * D ≤ 1000000) :
    Calls Try.prog 14 #[p, .agg #[.int .i64 (R : Int), .int .i64 (C : Int), .int .i64 (S : Int), .slice a len cap], .agg #[.int .i64 (C : Int), .int .i64 (D : Int), .int .i64 (S2 : Int), .slice a2 len2 cap2]] w fun e w' => ∃ g X, e = .returned (.tuple #[.agg #[.int .i64 (R : Int), .int .i64 (D : Int), .int .i64 (D : Int), .slice (some ⟨g, 0, none⟩) (R * D) (R * D)], .int .i64 0]) ∧ w.heap.size ≤ g ∧ URow w' (some ⟨g, 0, none⟩) (R * D) (R * D) X ∧ (∀ i k, i < R → k < D → X (i * D + k) = dotV (fun j => Z (i * S + j)) (fun j => Y (j * S2 + k)) C) ∧ IsCalc w' p c (mmF F (fun i j => Z (i * S + j)) (fun k j => Y (j * S2 + k)) C D R) ∧ Bes c w w' := by
  have HC : Hid (IsCalc w p c F) := hc
  have HZ : Hid (URow w a len cap Z) := hz
  have HY : Hid (URow w a2 len2 cap2 Y) := hy
  have HH : Hid (Rgt (R : Int) (C : Int) (S : Int) len) := h
  have HH2 : Hid (Rgt (C : Int) (D : Int) (S2 : Int) len2) := h2
  obtain ⟨lb, cb⟩ := hz.lenB
  obtain ⟨lb2, cb2⟩ := hy.lenB
  have r1 : (R : Int) ≤ 4096 := h.2.1
  have c1 : (C : Int) ≤ 4096 := h.2.2.2.1
  have c2 : (D : Int) ≤ 4096 := h2.2.2.2.1
  clear hc hz hy h h2
  obtain ⟨V, hV⟩ : ∃ V : Nat → Nat → Int, V = fun i k => dotV (fun j => Z (i * S + j)) (fun j => Y (j * S2 + k)) C := ⟨_, rfl⟩
  have HV : Hid (∀ i k, V i k = dotV (fun j => Z (i * S + j)) (fun j => Y (j * S2 + k)) C) := by rw [hV]; exact fun _ _ => rfl
  clear hV
  go_enter Try.func14, Try.ntmps14
  go_wp2_with fail
  obtain ⟨o1, ho1⟩ : ∃ o, o = Obj.cells #[.int .i64 (R : Int), .int .i64 (C : Int), .int .i64 (S : Int), .slice a len cap] 26 := ⟨_, rfl⟩
  obtain ⟨o2, ho2⟩ : ∃ o, o = Obj.cells #[.int .i64 (C : Int), .int .i64 (D : Int), .int .i64 (S2 : Int), .slice a2 len2 cap2] 26 := ⟨_, rfl⟩
  obtain ⟨o3, ho3⟩ : ∃ o, o = Obj.cells #[.int .i64 0, .int .i64 0, .int .i64 0, .slice none 0 0] 26 := ⟨_, rfl⟩
  have m4 : MBox (((w.alloc o1).alloc o2).alloc o3) w.heap.size (R : Int) (C : Int) (S : Int) (.slice a len cap) := by
    rw [ho1]
    exact ((MBox.made w _ _ _ _).below ((Below.refl _ _).alloc (Nat.le_refl _) _)).below ((Below.refl _ _).alloc (Nat.le_refl _) _)
  have m5 : MBox (((w.alloc o1).alloc o2).alloc o3) (w.heap.size + 1) (C : Int) (D : Int) (S2 : Int) (.slice a2 len2 cap2) := by
    rw [ho2]
    have := (MBox.made (w.alloc o1) (C : Int) (D : Int) (S2 : Int) (.slice a2 len2 cap2)).below ((Below.refl _ _).alloc (Nat.le_refl _) o3)
    simp only [World.size_alloc] at this
    exact this
  have m6 : WBox (((w.alloc o1).alloc o2).alloc o3) (w.heap.size + 1 + 1) 0 0 0 (.slice none 0 0) := by
    rw [ho3]
    have := WBox.made ((w.alloc o1).alloc o2) 0 0 0 (.slice none 0 0)
    simp only [World.size_alloc] at this
    exact this
  have b0 : Below w.heap.size w (((w.alloc o1).alloc o2).alloc o3) := bmore (bmore (bmore (Below.refl _ _) _) _) _
  rw [← ho1, ← ho2, ← ho3]
  clear ho1 ho2 ho3
  generalize (((w.alloc o1).alloc o2).alloc o3) = W0 at m4 m5 m6 b0 ⊢
  obtain ⟨k4, hk4⟩ : ∃ k, k = w.heap.size := ⟨_, rfl⟩
  obtain ⟨k5, hk5⟩ : ∃ k, k = w.heap.size + 1 := ⟨_, rfl⟩
  obtain ⟨k6, hk6⟩ : ∃ k, k = w.heap.size + 1 + 1 := ⟨_, rfl⟩
  rw [← hk6] at m6 ⊢
  rw [← hk5] at m5 ⊢
  rw [← hk4] at m4 ⊢
  have HK : Hid (w.heap.size ≤ k4 ∧ w.heap.size ≤ k5 ∧ w.heap.size ≤ k6) := ⟨by omega, by omega, by omega⟩
  clear hk4 hk5 hk6
  refine (mCheckOk R C S _ _ _ W0 HH.out lb).mono ?_
  rintro e w1 ⟨rfl, hb1⟩
  have M4 : Hid (MBox _ _ _ _ _ _) := m4.below hb1
  have M5 : Hid (MBox _ _ _ _ _ _) := m5.below hb1
  have M6 : Hid (WBox _ _ _ _ _ _) := m6.below hb1
  have BW : Hid (Below w.heap.size w w1) := bstep b0 hb1
  clear m4 m5 m6 b0 hb1
  obtain ⟨p0, p1, p2, p3, p4⟩ := M4.out
  obtain ⟨q0, q1, q2, q3, q4⟩ := M5.out
  go_wp2_with fail
  refine (mCheckOk C D S2 _ _ _ w1 HH2.out lb2).mono ?_
  rintro e w2 ⟨rfl, hb1⟩
  clear p0 p1 p2 p3 p4 q0 q1 q2 q3 q4
  replace M4 : Hid (MBox _ _ _ _ _ _) := M4.out.below hb1
  replace M5 : Hid (MBox _ _ _ _ _ _) := M5.out.below hb1
  replace M6 : Hid (WBox _ _ _ _ _ _) := M6.out.below hb1
  replace BW : Hid (Below _ _ _) := bstep BW.out hb1
  clear hb1
  obtain ⟨p0, p1, p2, p3, p4⟩ := M4.out
  obtain ⟨q0, q1, q2, q3, q4⟩ := M5.out
  go_wp2_with fail
  refine (mNew R D w2 (by omega) (by omega) hRD).mono ?_
  rintro e w3 ⟨rfl, _, hrow, hb1⟩
  obtain ⟨g1, hg1⟩ : ∃ g, g = w2.heap.size + 1 := ⟨_, rfl⟩
  rw [← hg1] at hrow ⊢
  have hs2 := M6.out.1.2.2.2.2
  have G1 : Hid (w.heap.size ≤ g1 ∧ g1 ≠ k6 ∧ g1 < w3.heap.size) := ⟨by have := Below.size BW.out; omega, by omega, hrow.lt⟩
  clear p0 p1 p2 p3 p4 q0 q1 q2 q3 q4 hg1 hs2
  replace M4 : Hid (MBox _ _ _ _ _ _) := M4.out.below hb1
  replace M5 : Hid (MBox _ _ _ _ _ _) := M5.out.below hb1
  replace M6 : Hid (WBox _ _ _ _ _ _) := M6.out.below hb1
  replace BW : Hid (Below _ _ _) := bstep BW.out hb1
  have RW : Hid (RowU w3 g1 (List.replicate (R * D) 0)) := hrow
  clear hb1 hrow
  obtain ⟨p0, p1, p2, p3, p4⟩ := M4.out
  obtain ⟨q0, q1, q2, q3, q4⟩ := M5.out
  go_wp2_with fail
  have m8 := MBox.made w3 (R : Int) (D : Int) (D : Int) (.slice (some ⟨g1, 0, none⟩) (R * D) (R * D))
  have hb1 : Below w3.heap.size w3 (w3.alloc (.cells #[.int .i64 (R : Int), .int .i64 (D : Int), .int .i64 (D : Int), .slice (some ⟨g1, 0, none⟩) (R * D) (R * D)] 26)) := bmore (Below.refl _ _) _
  generalize (w3.alloc (.cells #[.int .i64 (R : Int), .int .i64 (D : Int), .int .i64 (D : Int), .slice (some ⟨g1, 0, none⟩) (R * D) (R * D)] 26)) = W3 at m8 hb1 ⊢
  obtain ⟨k8, hk8⟩ : ∃ k, k = w3.heap.size := ⟨_, rfl⟩
  rw [← hk8] at m8 ⊢
  have DD : Hid (GemD w c k6 k8 g1 W3.heap.size) := by
    obtain ⟨z1, z2, z3⟩ := HK.out
    obtain ⟨z4, z5, z6⟩ := G1.out
    have z7 := Below.size BW.out
    have z8 := M6.out.1.2.2.2.2
    have z9 := hb1.size
    have z10 := m8.2.2.2.2
    exact ⟨z3, by omega, z4, z5, by omega, by omega, by omega, by omega, by omega, fun k e => HC.out.lt k e⟩
  clear p0 p1 p2 p3 p4 q0 q1 q2 q3 q4 hk8 G1
  replace M4 : Hid (MBox _ _ _ _ _ _) := M4.out.below hb1
  replace M6 : Hid (WBox _ _ _ _ _ _) := M6.out.below hb1
  replace BW : Hid (Below _ _ _) := bstep BW.out hb1
  replace RW : Hid (RowU _ _ _) := RW.out.below hb1
  have M8 : Hid (MBox _ _ _ _ _ _) := m8
  clear hb1 m8 M5
  refine (mLinesT C D S2 a2 len2 cap2 Y W3 HH2.out (HY.out.below BW.out) hCD).mono ?_
  rintro e w4 ⟨gb, rfl, hL, hb1⟩
  obtain ⟨BB, hBB⟩ : ∃ B, B = W3.heap.size := ⟨_, rfl⟩
  rw [← hBB] at hL DD
  have hB4 : BB ≤ w4.heap.size := by have := hb1.size; omega
  replace M4 : Hid (MBox _ _ _ _ _ _) := M4.out.below hb1
  replace M6 : Hid (WBox _ _ _ _ _ _) := M6.out.below hb1
  replace M8 : Hid (MBox _ _ _ _ _ _) := M8.out.below hb1
  replace BW : Hid (Below _ _ _) := bstep BW.out hb1
  replace RW : Hid (RowU _ _ _) := RW.out.below hb1
  have LB : Hid (Lines w4 BB gb D C (fun k j => Y (j * S2 + k))) := hL
  clear hb1 hL hBB
  obtain ⟨p0, p1, p2, p3, p4⟩ := M4.out
  go_wp2_with fail
  refine (mLinesC R C S a len cap Z w4 HH.out (HZ.out.below BW.out) hRC).mono ?_
  rintro e w5 ⟨ga, rfl, hL, hb1⟩
  have G5 : Hid (GemW w w5 p c F R C D k6 k8 g1 ga gb BB (List.replicate (R * D) 0) (fun i j => Z (i * S + j)) (fun k j => Y (j * S2 + k))) :=
    ⟨M6.out.below hb1, M8.out.below hb1, RW.out.below hb1, ⟨Nat.le_trans hB4 hL.lo, hL.lt, fun i hi => by obtain ⟨a', c', e1, e2, e3⟩ := hL.row i hi; exact ⟨a', c', e1, e2, fun b o s e => Nat.le_trans hB4 (e3 b o s e)⟩⟩, LB.out.below hb1, HC.out.later (bstep BW.out hb1), Bes.of (bstep BW.out hb1)⟩
  have I5 : Hid (FillI (List.replicate (R * D) 0) V R D 0 0) := ⟨List.length_replicate, InW.zeros _, fun i k _ _ h => by omega⟩
  clear hb1 hL M4 M6 M8 BW RW LB p0 p1 p2 p3 p4 hB4
  have TT : Hid (Rgt (R : Int) (D : Int) (D : Int) (R * D)) := tight R D (by omega) (by omega)
  have HB : Hid (w.heap.size ≤ BB) := by obtain ⟨d1, _, _, _, _, _, d7, _⟩ := DD.out; show _ ≤ _; omega
  go_wp2
  go_loopw [40] (fun i wr => ∃ (n : Nat) (xs : List Int), i = .int .i64 (n : Int) ∧ n ≤ R ∧ Hid (GemW w wr p c (mmF F (fun i j => Z (i * S + j)) (fun k j => Y (j * S2 + k)) C D n) R C D k6 k8 g1 ga gb BB xs (fun i j => Z (i * S + j)) (fun k j => Y (j * S2 + k))) ∧ Hid (FillI xs V R D n 0)) (fun i _ => R - (intOf i).toNat)
  case atStart => exact ⟨0, _, rfl, Nat.zero_le _, G5, I5⟩
  case round =>
    clear G5 I5
    obtain ⟨n, xs, rfl, hn, G, I⟩ := hrel
    by_cases hlt : (n : Int) < (R : Int)
    · obtain ⟨a5, c5, q5, u5, y5⟩ := G.out.la.row n (by omega)
      have A5 : Hid (Apt c a5 C) := young_apt HC.out HB.out y5
      have A5g : Hid (Apt (some g1) a5 C) := fun _ b o s e ec => by injection ec with ec; have := y5 b o s e; obtain ⟨_, _, _, _, _, d6, _⟩ := DD.out; omega
      have U5 : Hid (URow wr a5 C c5 (fun j => Z (n * S + j))) := u5
      clear u5 y5
      obtain ⟨mm, hmm⟩ : ∃ f : Int, f = mmF F (fun i j => Z (i * S + j)) (fun k j => Y (j * S2 + k)) C D n := ⟨_, rfl⟩
      rw [← hmm] at G
      have HMM : Hid (mmR mm (fun j => Z (n * S + j)) (fun k j => Y (j * S2 + k)) C D = mmF F (fun i j => Z (i * S + j)) (fun k j => Y (j * S2 + k)) C D (n + 1)) := by rw [hmm]; rfl
      clear hmm
      go_wp2
      obtain ⟨W1, hW1⟩ : ∃ x, x = wr := ⟨wr, rfl⟩
      rw [← hW1] at G U5 ⊢
      clear hW1 q5
      go_loopw [47] (fun i wr => ∃ (m : Nat) (xs : List Int), i = .int .i64 (m : Int) ∧ m ≤ D ∧ Hid (GemW w wr p c (mmR mm (fun j => Z (n * S + j)) (fun k j => Y (j * S2 + k)) C m) R C D k6 k8 g1 ga gb BB xs (fun i j => Z (i * S + j)) (fun k j => Y (j * S2 + k))) ∧ Hid (FillI xs V R D n m) ∧ Hid (URow wr a5 C c5 (fun j => Z (n * S + j)))) (fun i _ => D - (intOf i).toNat)
      case atStart => exact ⟨0, xs, rfl, Nat.zero_le _, G, I, U5⟩
      case round =>
        clear G I U5
        obtain ⟨m, xs, rfl, hm, G, I, U5⟩ := hrel
        by_cases hlt2 : (m : Int) < (D : Int)
        · obtain ⟨a6, c6, q6, u6, y6⟩ := G.out.lb.row m (by omega)
          have A6 : Hid (Apt c a6 C) := young_apt HC.out HB.out y6
          have U6 : Hid (URow wr a6 C c6 (fun j => Y (j * S2 + m))) := u6
          clear u6 y6
          obtain ⟨k0, k1, k2, k3, k4'⟩ := G.out.m
          have SV := HV.out n m
          obtain ⟨d0, d1⟩ := dotV_rng (fun j => Z (n * S + j)) (fun j => Y (j * S2 + m)) C
          have SF : Hid (dotF (mmR mm (fun j => Z (n * S + j)) (fun k j => Y (j * S2 + k)) C m) (fun j => Z (n * S + j)) (fun j => Y (j * S2 + m)) C = mmR mm (fun j => Z (n * S + j)) (fun k j => Y (j * S2 + k)) C (m + 1)) := rfl
          obtain ⟨d, hd⟩ : ∃ d, dotV (fun j => Z (n * S + j)) (fun j => Y (j * S2 + m)) C = d := ⟨_, rfl⟩
          rw [hd] at d0 d1 SV
          have HD : Hid (_ = _) := hd
          have HSV : Hid (_ = _) := SV
          clear hd SV
          go_wp2
          go_region_held3 (fun w' => w'.cell? ⟨k8, 0, none⟩ = some (.int .i64 (R : Int)) ∧ w'.cell? ⟨k8, 1, none⟩ = some (.int .i64 (D : Int)) ∧ w'.cell? ⟨k8, 2, none⟩ = some (.int .i64 (D : Int)) ∧ w'.cell? ⟨k8, 3, none⟩ = some (.slice (some ⟨g1, 0, none⟩) (R * D) (R * D))) (simp [go_sem, *]) (first | (go_at_call 54; refine (uDot p c _ a5 a6 C c5 c6 _ _ _ (by first | exact G.out.flg | exact G.out.flg.drew) (by first | exact U5.out | exact U5.out.drew) (by first | exact U6.out | exact U6.out.drew) A5.out A6.out).mono ?_; rintro e wd ⟨rfl, hC_, hB⟩; rw [SF.out] at hC_; rw [HD.out]; have hB1 : Bes c wr wd := (by first | exact hB | exact ((Bes.refl _ _).drew).trans hB); have G6 : Hid (GemW _ _ _ _ _ _ _ _ _ _ _ _ _ _ _ _ _) := G.out.call DD.out hB1 hC_; have U7 : Hid (URow _ _ _ _ _) := U5.out.bes hB1 A5.out; obtain ⟨k0', k1', k2', k3', k4''⟩ := G6.out.m; clear hC_ hB hB1) | (go_at_call 47; refine (mSet (R : Int) (D : Int) (D : Int) g1 (R * D) (R * D) xs (n : Int) (m : Int) d _ TT.out (by first | exact G6.out.row | exact G6.out.row.drew) I.out.1 (Nat.le_refl _) (by omega) ⟨by omega, by omega, by omega, by omega⟩).mono ?_; rintro e we ⟨rfl, hR_, hB⟩; have hB1 : Bes (some g1) wd we := (by first | exact hB | exact ((Bes.refl _ _).drew).trans hB); have G7 : Hid (GemW _ _ _ _ _ _ _ _ _ _ _ _ _ _ _ _ _) := G6.out.put DD.out hB1 hR_; have U8 : Hid (URow _ _ _ _ _) := U7.out.bes hB1 A5g.out; obtain ⟨k0'', k1'', k2'', k3'', k4'''⟩ := G7.out.m; clear hR_ hB hB1))
          rw [show ((n : Int) * (D : Int) + (m : Int)).toNat = n * D + m by rw [← Int.natCast_mul]; omega] at G7
          have I7 : Hid (FillI (xs.set (n * D + m) d) V R D n (m + 1)) := I.out.set (by omega) (by omega) d HSV.out.symm d0 d1
          go_wp2
          go_roundw
          case rel => exact ⟨m + 1, _, by go_num, by omega, G7, I7, U8⟩
          case measure => simp [intOf]; omega
        · obtain rfl : m = D := by omega
          rw [HMM.out] at G
          go_wp2
          go_roundw
          case rel => exact ⟨n + 1, _, by go_num, by omega, G, I.out.next⟩
          case measure => simp [intOf]; omega
    · obtain rfl : n = R := by omega
      obtain ⟨k0, k1, k2, k3, k4'⟩ := G.out.m
      obtain ⟨⟨v0, v1, v2, v3, v4⟩, v5⟩ := G.out.ans
      have y0 := v5 0
      have y1 := v5 1
      have y2 := v5 2
      have y3 := v5 3
      have hne : ¬ k6 = k8 := by obtain ⟨_, _, _, _, _, _, _, _, d9, _⟩ := DD.out; exact fun e => d9 e.symm
      clear v5
      go_wp2
      refine bodyPost_ret (v := .tuple #[.agg #[.int .i64 (n : Int), .int .i64 (D : Int), .int .i64 (D : Int), .slice (some ⟨g1, 0, none⟩) (n * D) (n * D)], .int .i64 0]) (by simp [results, Try.results14, go_sem, *]) rfl ?_
      have hP := bes_puts wr k6 (.int .i64 (n : Int)) (.int .i64 (D : Int)) (.int .i64 (D : Int)) (.slice (some ⟨g1, 0, none⟩) (n * D) (n * D))
      obtain ⟨i1, i2, i3⟩ := I.out
      obtain ⟨d1, d2, d3, d4, d5, d6, d7, d8, d9, d10⟩ := DD.out
      refine ⟨g1, rfl, d3, fun j => xs[j]?.getD 0, (G.out.row.rowZ i1 hRD i2).bes hP (Apt.ne (Ne.symm d4)), fun i k hi hk => (i3 i k hk hi (.inl hi)).trans (HV.out i k), G.out.flg.bes hP (fun k e e2 => by have := d10 k e; injection e2 with e2; omega), ?_⟩
      exact ⟨hP.os.trans G.out.bes.os, hP.tape.trans G.out.bes.tape, hP.output.trans G.out.bes.output, Nat.le_trans G.out.bes.size hP.size, fun k hk hc => (hP.block k (Nat.lt_of_lt_of_le hk G.out.bes.size) (fun e => by injection e with e; omega)).trans (G.out.bes.block k hk hc)⟩
end Go.Proofs.Ytpakpgjbgehhjaa

/-
  What mul's Ger returns, with any Calc: the sums, and all flags. Conditions: a matrix that is right and fits, of at most a million numbers; the lists lie beside the Calc.
-/
namespace Go.Proofs.Ytpakpgjbgehhjaa
open Go.RowKit
set_option linter.unusedVariables false
set_option linter.unusedSimpArgs false

/-- The flags of n numbers of a row, each with f times a number added, on top of F. -/
def geR (F f : Int) (Z Y : Nat → Int) : Nat → Int
  | 0 => F
  | k + 1 => bits .or .u8 (bits .or .u8 (geR F f Z Y k) (mulS f (Y k)).2) (addS (Z k) (mulS f (Y k)).1).2
/-- The flags of n rows. -/
def geF (F a : Int) (Z : Nat → Nat → Int) (X Y : Nat → Int) (C : Nat) : Nat → Int
  | 0 => F
  | n + 1 => geR (bits .or .u8 (geF F a Z X Y C n) (mulS a (X n)).2) (mulS a (X n)).1 (Z n) Y C
/-- Of n rows, and of m numbers of row n, what stands in xs is V, of the others Z. -/
def GerI (xs : List Int) (Z V : Nat → Nat → Int) (R D n m : Nat) : Prop := xs.length = R * D ∧ InW xs ∧ ∀ i k, k < D → i < R → xs[i * D + k]?.getD 0 = if i < n ∨ (i = n ∧ k < m) then V i k else Z i k
theorem GerI.set {xs : List Int} {Z V : Nat → Nat → Int} {R D n m : Nat} (h : GerI xs Z V R D n m) (hn : n < R) (hm : m < D) (x : Int) (hx : x = V n m) (x0 : 0 ≤ x) (x1 : x < 18446744073709551616) : GerI (xs.set (n * D + m) x) Z V R D n (m + 1) := by
  obtain ⟨h1, h2, h3⟩ := h
  refine ⟨by rw [List.length_set]; exact h1, h2.set _ _ x0 x1, fun i k hk hi => ?_⟩
  rw [List.getElem?_set]
  by_cases e : i = n ∧ k = m
  · rw [e.1, e.2, if_pos rfl, if_pos (by rw [h1]; exact row_lt D n m R hn hm), if_pos (.inr ⟨rfl, Nat.lt_succ_self m⟩)]
    exact hx
  · have hne : n * D + m ≠ i * D + k := by
      rcases Nat.lt_or_ge i n with g | g
      · exact Ne.symm (place_ne D D i k n m (Nat.le_refl _) hk hm (.inl g))
      · rcases Nat.lt_or_ge n i with g2 | g2
        · exact place_ne D D n m i k (Nat.le_refl _) hm hk (.inl g2)
        · obtain rfl : i = n := by omega
          exact fun h => e ⟨rfl, by omega⟩
    rw [if_neg hne, h3 i k hk hi]
    by_cases g : i < n ∨ (i = n ∧ k < m)
    · rw [if_pos g, if_pos (by omega)]
    · rw [if_neg g, if_neg (by omega)]
theorem GerI.next {xs : List Int} {Z V : Nat → Nat → Int} {R D n : Nat} (h : GerI xs Z V R D n D) : GerI xs Z V R D (n + 1) 0 := by
  obtain ⟨h1, h2, h3⟩ := h
  refine ⟨h1, h2, fun i k hk hi => ?_⟩
  rw [h3 i k hk hi]
  by_cases g : i < n ∨ (i = n ∧ k < D)
  · rw [if_pos g, if_pos (by omega)]
  · rw [if_neg g, if_neg (by omega)]
/-- The world while Ger runs. -/
structure GerW (w wr : World) (p : Value) (c : Option Nat) (F : Int) (R C : Nat) (k6 k8 g1 : Nat) (xs : List Int) (ax ay : Option Addr) (cx cy : Nat) (X Y : Nat → Int) : Prop where
  ans : WBox wr k6 0 0 0 (.slice none 0 0)
  m : MBox wr k8 (R : Int) (C : Int) (C : Int) (.slice (some ⟨g1, 0, none⟩) (R * C) (R * C))
  row : RowU wr g1 xs
  flg : IsCalc wr p c F
  rx : URow wr ax R cx X
  ry : URow wr ay C cy Y
  bes : Bes c w wr
/-- What lies apart while Ger runs. -/
def GerD (w : World) (c : Option Nat) (k6 k8 g1 : Nat) (ax ay : Option Addr) (R C : Nat) : Prop := w.heap.size ≤ k6 ∧ w.heap.size ≤ k8 ∧ w.heap.size ≤ g1 ∧ g1 ≠ k6 ∧ g1 ≠ k8 ∧ k8 ≠ k6 ∧ (∀ k, c = some k → k < w.heap.size) ∧ Apt c ax R ∧ Apt c ay C ∧ Apt (some g1) ax R ∧ Apt (some g1) ay C ∧ Apt (some k6) ax R ∧ Apt (some k6) ay C
theorem Bes.young {c : Option Nat} {w a b : World} {g : Nat} (h : Bes c w a) (hb : Bes (some g) a b) (hg : w.heap.size ≤ g) : Bes c w b :=
  ⟨hb.os.trans h.os, hb.tape.trans h.tape, hb.output.trans h.output, Nat.le_trans h.size hb.size, fun k hk hc => (hb.block k (Nat.lt_of_lt_of_le hk h.size) (fun e => by injection e with e; omega)).trans (h.block k hk hc)⟩
theorem GerW.call {w wr wr' : World} {p : Value} {c : Option Nat} {F F' : Int} {R C k6 k8 g1 : Nat} {xs : List Int} {ax ay : Option Addr} {cx cy : Nat} {X Y : Nat → Int} (h : GerW w wr p c F R C k6 k8 g1 xs ax ay cx cy X Y) (d : GerD w c k6 k8 g1 ax ay R C) (hb : Bes c wr wr') (hc : IsCalc wr' p c F') : GerW w wr' p c F' R C k6 k8 g1 xs ax ay cx cy X Y := by
  obtain ⟨d1, d2, d3, d4, d5, d6, d7, d8, d9, _⟩ := d
  exact ⟨h.ans.bes hb (fun e => by have := d7 _ e; omega), h.m.bes hb (fun e => by have := d7 _ e; omega), h.row.bes hb (fun e => by have := d7 _ e; omega), hc, h.rx.bes hb d8, h.ry.bes hb d9, h.bes.trans hb⟩
theorem GerW.below {w wr wr' : World} {p : Value} {c : Option Nat} {F : Int} {R C k6 k8 g1 : Nat} {xs : List Int} {ax ay : Option Addr} {cx cy : Nat} {X Y : Nat → Int} (h : GerW w wr p c F R C k6 k8 g1 xs ax ay cx cy X Y) (hb : Below wr.heap.size wr wr') : GerW w wr' p c F R C k6 k8 g1 xs ax ay cx cy X Y :=
  ⟨h.ans.below hb, h.m.below hb, h.row.below hb, h.flg.later hb, h.rx.below hb, h.ry.below hb, h.bes.step hb⟩
theorem GerW.put {w wr wr' : World} {p : Value} {c : Option Nat} {F : Int} {R C k6 k8 g1 : Nat} {xs ys : List Int} {ax ay : Option Addr} {cx cy : Nat} {X Y : Nat → Int} (h : GerW w wr p c F R C k6 k8 g1 xs ax ay cx cy X Y) (d : GerD w c k6 k8 g1 ax ay R C) (hb : Bes (some g1) wr wr') (hr : RowU wr' g1 ys) : GerW w wr' p c F R C k6 k8 g1 ys ax ay cx cy X Y := by
  obtain ⟨d1, d2, d3, d4, d5, d6, d7, d8, d9, d10, d11, _⟩ := d
  exact ⟨h.ans.bes hb (ne_some d4), h.m.bes hb (ne_some d5), hr, h.flg.bes hb (fun k e e2 => by have := d7 _ e; injection e2 with e2; omega), h.rx.bes hb d10, h.ry.bes hb d11, h.bes.young hb d3⟩
set_option maxHeartbeats 4000000 in
set_option maxRecDepth 100000 in
theorem mGer (p : Value) (c : Option Nat) (F al : Int) (R C S : Nat) (a : Option Addr) (len cap : Nat) (Z : Nat → Int) (ax ay : Option Addr) (cx cy : Nat) (X Y : Nat → Int) (w : World) (hc : IsCalc w p c F) (h : Rgt (R : Int) (C : Int) (S : Int) len) (hz : URow w a len cap Z) (hx : URow w ax R cx X) (hy : URow w ay C cy Y) (axx : Apt c ax R) (axy : Apt c ay C) (al0 : 0 ≤ al) (al1 : al < 18446744073709551616) (hRC : R * C ≤ 1000000) :
    Calls Try.prog 16 #[p, .agg #[.int .i64 (R : Int), .int .i64 (C : Int), .int .i64 (S : Int), .slice a len cap], .int .u64 al, .slice ax R cx, .slice ay C cy] w fun e w' => ∃ g V, e = .returned (.tuple #[.agg #[.int .i64 (R : Int), .int .i64 (C : Int), .int .i64 (C : Int), .slice (some ⟨g, 0, none⟩) (R * C) (R * C)], .int .i64 0]) ∧ w.heap.size ≤ g ∧ URow w' (some ⟨g, 0, none⟩) (R * C) (R * C) V ∧ (∀ i k, i < R → k < C → V (i * C + k) = (addS (Z (i * S + k)) (mulS (mulS al (X i)).1 (Y k)).1).1) ∧ IsCalc w' p c (geF F al (fun i j => Z (i * S + j)) X Y C R) ∧ Bes c w w' := by
  have HC : Hid (IsCalc w p c F) := hc
  have HZ : Hid (URow w a len cap Z) := hz
  have HX : Hid (URow w ax R cx X) := hx
  have HY : Hid (URow w ay C cy Y) := hy
  have HH : Hid (Rgt (R : Int) (C : Int) (S : Int) len) := h
  have AX : Hid (Apt c ax R) := axx
  have AY : Hid (Apt c ay C) := axy
  obtain ⟨lb, cb⟩ := hz.lenB
  obtain ⟨lbx, cbx⟩ := hx.lenB
  obtain ⟨lby, cby⟩ := hy.lenB
  have ZR : Hid (∀ n, 0 ≤ Z n ∧ Z n < 18446744073709551616) := hz.2.2.1
  have r1 : (R : Int) ≤ 4096 := h.2.1
  have c1 : (C : Int) ≤ 4096 := h.2.2.2.1
  clear hc hz hx hy h axx axy
  obtain ⟨V, hV⟩ : ∃ V : Nat → Nat → Int, V = fun i k => (addS (Z (i * S + k)) (mulS (mulS al (X i)).1 (Y k)).1).1 := ⟨_, rfl⟩
  have HV : Hid (∀ i k, V i k = (addS (Z (i * S + k)) (mulS (mulS al (X i)).1 (Y k)).1).1) := by rw [hV]; exact fun _ _ => rfl
  clear hV
  go_enter Try.func16, Try.ntmps16
  go_wp2_with fail
  obtain ⟨o1, ho1⟩ : ∃ o, o = Obj.cells #[.int .i64 (R : Int), .int .i64 (C : Int), .int .i64 (S : Int), .slice a len cap] 26 := ⟨_, rfl⟩
  obtain ⟨o3, ho3⟩ : ∃ o, o = Obj.cells #[.int .i64 0, .int .i64 0, .int .i64 0, .slice none 0 0] 26 := ⟨_, rfl⟩
  have m4 : MBox ((w.alloc o1).alloc o3) w.heap.size (R : Int) (C : Int) (S : Int) (.slice a len cap) := by
    rw [ho1]
    exact (MBox.made w _ _ _ _).below ((Below.refl _ _).alloc (Nat.le_refl _) _)
  have m6 : WBox ((w.alloc o1).alloc o3) (w.heap.size + 1) 0 0 0 (.slice none 0 0) := by
    rw [ho3]
    have := WBox.made (w.alloc o1) 0 0 0 (.slice none 0 0)
    simp only [World.size_alloc] at this
    exact this
  have b0 : Below w.heap.size w ((w.alloc o1).alloc o3) := bmore (bmore (Below.refl _ _) _) _
  rw [← ho1, ← ho3]
  clear ho1 ho3
  generalize ((w.alloc o1).alloc o3) = W0 at m4 m6 b0 ⊢
  obtain ⟨k4, hk4⟩ : ∃ k, k = w.heap.size := ⟨_, rfl⟩
  obtain ⟨k6, hk6⟩ : ∃ k, k = w.heap.size + 1 := ⟨_, rfl⟩
  rw [← hk6] at m6 ⊢
  rw [← hk4] at m4 ⊢
  have HK : Hid (w.heap.size ≤ k4 ∧ w.heap.size ≤ k6) := ⟨by omega, by omega⟩
  clear hk4 hk6
  refine (mCheckOk R C S _ _ _ W0 HH.out lb).mono ?_
  rintro e w1 ⟨rfl, hb1⟩
  have M4 : Hid (MBox _ _ _ _ _ _) := m4.below hb1
  have M6 : Hid (WBox _ _ _ _ _ _) := m6.below hb1
  have BW : Hid (Below w.heap.size w w1) := bstep b0 hb1
  clear m4 m6 b0 hb1
  obtain ⟨p0, p1, p2, p3, p4⟩ := M4.out
  go_wp2_with fail
  refine (mClone R C S a len cap Z w1 HH.out (HZ.out.below BW.out) hRC).mono ?_
  rintro e w2 ⟨g1, xs, rfl, hg1, hU, hE, hb1⟩
  have hs1 := M6.out.1.2.2.2.2
  have hs2 := hU.lt
  have hs3 := Below.size BW.out
  have hs4 := hb1.size
  have HE : Hid (CutI xs Z S 0 0 R C R) := hE
  have HU : Hid (RowU w2 g1 xs) := hU
  replace M6 : Hid (WBox _ _ _ _ _ _) := M6.out.below hb1
  replace BW : Hid (Below _ _ _) := bstep BW.out hb1
  clear hb1 hU hE p0 p1 p2 p3 p4 M4
  go_upto_region 4 with fail
  have m8 := MBox.made w2 (R : Int) (C : Int) (C : Int) (.slice (some ⟨g1, 0, none⟩) (R * C) (R * C))
  have hb1 : Below w2.heap.size w2 (w2.alloc (.cells #[.int .i64 (R : Int), .int .i64 (C : Int), .int .i64 (C : Int), .slice (some ⟨g1, 0, none⟩) (R * C) (R * C)] 26)) := bmore (Below.refl _ _) _
  generalize (w2.alloc (.cells #[.int .i64 (R : Int), .int .i64 (C : Int), .int .i64 (C : Int), .slice (some ⟨g1, 0, none⟩) (R * C) (R * C)] 26)) = W3 at m8 hb1 ⊢
  obtain ⟨k8, hk8⟩ : ∃ k, k = w2.heap.size := ⟨_, rfl⟩
  rw [← hk8] at m8 ⊢
  have DD : Hid (GerD w c k6 k8 g1 ax ay R C) := by
    obtain ⟨z1, z3⟩ := HK.out
    exact ⟨z3, by omega, by omega, by omega, by omega, by omega, fun k e => HC.out.lt k e, AX.out, AY.out, HX.out.apt (fun k e => by injection e with e; omega), HY.out.apt (fun k e => by injection e with e; omega), HX.out.apt (fun k e => by injection e with e; omega), HY.out.apt (fun k e => by injection e with e; omega)⟩
  replace BW : Hid (Below _ _ _) := bstep BW.out hb1
  have G5 : Hid (GerW w W3 p c F R C k6 k8 g1 xs ax ay cx cy X Y) :=
    ⟨M6.out.below hb1, m8, HU.out.below hb1, HC.out.later BW.out, HX.out.below BW.out, HY.out.below BW.out, Bes.of BW.out⟩
  have I5 : Hid (GerI xs (fun i j => Z (i * S + j)) V R C 0 0) := by
    obtain ⟨l, wI, hI⟩ := HE.out
    refine ⟨l, wI, fun i k hk hi => ?_⟩
    rw [if_neg (by omega), hI i k hi hk, Nat.zero_add, Nat.zero_add]
  clear hb1 m8 M6 BW HU HE hk8 hs1 hs2 hs3 hs4 hg1 HK
  have TT : Hid (Rgt (R : Int) (C : Int) (C : Int) (R * C)) := tight R C (by omega) (by omega)
  go_wp2
  go_loopw [40] (fun i wr => ∃ (n : Nat) (xs : List Int), i = .int .i64 (n : Int) ∧ n ≤ R ∧ Hid (GerW w wr p c (geF F al (fun i j => Z (i * S + j)) X Y C n) R C k6 k8 g1 xs ax ay cx cy X Y) ∧ Hid (GerI xs (fun i j => Z (i * S + j)) V R C n 0)) (fun i _ => R - (intOf i).toNat)
  case atStart => exact ⟨0, _, rfl, Nat.zero_le _, G5, I5⟩
  case round =>
    clear G5 I5
    obtain ⟨n, xs, rfl, hn, G, I⟩ := hrel
    by_cases hlt : (n : Int) < (R : Int)
    · obtain ⟨_, _, zx, fx⟩ := G.out.rx
      obtain ⟨b1, o1, rfl, l1, e1⟩ := fx (by omega)
      have q1 := e1 n (by omega)
      obtain ⟨x0, x1⟩ := zx n
      clear zx fx e1
      obtain ⟨m0, m1⟩ := mulS_rng al (X n)
      obtain ⟨FN, hFN⟩ : ∃ f, f = geF F al (fun i j => Z (i * S + j)) X Y C n := ⟨_, rfl⟩
      rw [← hFN] at G
      have HFN : Hid (geR (bits .or .u8 FN (mulS al (X n)).2) (mulS al (X n)).1 (fun j => Z (n * S + j)) Y C = geF F al (fun i j => Z (i * S + j)) X Y C (n + 1)) := by rw [hFN]; rfl
      have HVn : Hid (∀ k, V n k = (addS (Z (n * S + k)) (mulS (mulS al (X n)).1 (Y k)).1).1) := fun k => HV.out n k
      obtain ⟨x, hx⟩ : ∃ x, X n = x := ⟨_, rfl⟩
      rw [hx] at q1 x0 x1 m0 m1 HFN HVn
      obtain ⟨M, hM⟩ : ∃ M, mulS al x = M := ⟨_, rfl⟩
      rw [hM] at m0 m1 HFN HVn
      have HM : Hid (_ = _) := hM
      clear hx hFN hM
      obtain ⟨f, ff⟩ := M
      simp only at m0 m1 HFN HVn
      go_wp2_with fail
      refine (uMul p c al x FN _ G.out.flg al0 al1 x0 x1).mono ?_
      rintro e w1 ⟨rfl, C1, B1⟩
      rw [HM.out] at C1 ⊢
      have G1 : Hid (GerW _ _ _ _ _ _ _ _ _ _ _ _ _ _ _ _ _) := G.out.call DD.out B1 C1
      clear C1 B1 G q1 l1
      go_wp2
      obtain ⟨W1, hW1⟩ : ∃ x, x = w1 := ⟨w1, rfl⟩
      rw [← hW1] at G1 ⊢
      clear hW1
      obtain ⟨F1, hF1⟩ : ∃ g, g = bits .or .u8 FN ff := ⟨_, rfl⟩
      rw [← hF1] at G1 HFN
      clear hF1
      go_loopw [51] (fun i wr => ∃ (m : Nat) (xs : List Int), i = .int .i64 (m : Int) ∧ m ≤ C ∧ Hid (GerW w wr p c (geR F1 f (fun j => Z (n * S + j)) Y m) R C k6 k8 g1 xs (some ⟨b1, o1, none⟩) ay cx cy X Y) ∧ Hid (GerI xs (fun i j => Z (i * S + j)) V R C n m)) (fun i _ => C - (intOf i).toNat)
      case atStart => exact ⟨0, xs, rfl, Nat.zero_le _, G1, I⟩
      case round =>
        clear G1 I
        obtain ⟨m, xs, rfl, hm, G, I⟩ := hrel
        by_cases hlt2 : (m : Int) < (C : Int)
        · obtain ⟨_, _, zy, fy⟩ := G.out.ry
          obtain ⟨b2, o2, rfl, l2, e2⟩ := fy (by omega)
          have q2 := e2 m (by omega)
          obtain ⟨y0, y1⟩ := zy m
          clear zy fy e2
          obtain ⟨k0, k1, k2, k3, k4'⟩ := G.out.m
          have hxz : xs[n * C + m]?.getD 0 = Z (n * S + m) := by
            rw [I.out.2.2 n m (by omega) (by omega), if_neg (by omega)]
          obtain ⟨z0, z1⟩ := ZR.out (n * S + m)
          have SF : Hid (bits .or .u8 (bits .or .u8 (geR F1 f (fun j => Z (n * S + j)) Y m) (mulS f (Y m)).2) (addS (Z (n * S + m)) (mulS f (Y m)).1).2 = geR F1 f (fun j => Z (n * S + j)) Y (m + 1)) := rfl
          have SV : Hid (V n m = (addS (Z (n * S + m)) (mulS f (Y m)).1).1) := HVn.out m
          obtain ⟨u0, u1⟩ := mulS_rng f (Y m)
          obtain ⟨y, hy⟩ : ∃ y, Y m = y := ⟨_, rfl⟩
          obtain ⟨z, hz⟩ : ∃ z, Z (n * S + m) = z := ⟨_, rfl⟩
          obtain ⟨F2, hF2⟩ : ∃ g, geR F1 f (fun j => Z (n * S + j)) Y m = g := ⟨_, rfl⟩
          rw [hy] at q2 y0 y1 SF SV u0 u1
          rw [hz] at z0 z1 SF SV hxz
          rw [hF2] at SF G
          obtain ⟨M, hM2⟩ : ∃ M, mulS f y = M := ⟨_, rfl⟩
          rw [hM2] at SF SV u0 u1
          have HM2 : Hid (_ = _) := hM2
          clear hy hz hF2 hM2
          obtain ⟨u, fu⟩ := M
          simp only at SF SV u0 u1
          obtain ⟨A, hA⟩ : ∃ A, addS z u = A := ⟨_, rfl⟩
          have hr := addS_bd z u z0 z1 u0 u1
          rw [hA] at SF SV hr
          have HA : Hid (_ = _) := hA
          have HXZ : Hid (_ = _) := hxz
          clear hA hxz
          obtain ⟨d, fd⟩ := A
          simp only at SF SV hr
          obtain ⟨d0, d1, _⟩ := hr
          have A2 : Hid (some g1 ≠ some b2) := by obtain ⟨_, _, _, _, _, _, _, _, _, _, d11, _⟩ := DD.out; exact d11 (by omega) b2 o2 none rfl
          have A2c : Hid (c ≠ some b2) := by obtain ⟨_, _, _, _, _, _, _, _, d9, _⟩ := DD.out; exact d9 (by omega) b2 o2 none rfl
          have ct : Cnt 1 := Cnt.mk _
          go_wp2
          go_region_held3 (fun w' => w'.cell? ⟨k8, 0, none⟩ = some (.int .i64 (R : Int)) ∧ w'.cell? ⟨k8, 1, none⟩ = some (.int .i64 (C : Int)) ∧ w'.cell? ⟨k8, 2, none⟩ = some (.int .i64 (C : Int)) ∧ w'.cell? ⟨k8, 3, none⟩ = some (.slice (some ⟨g1, 0, none⟩) (R * C) (R * C))) (simp [go_sem, *]) (first | (have ck : Cnt 1 := ct; go_at_call 19; refine (mAtN R C C (some ⟨g1, 0, none⟩) (R * C) (R * C) (fun j => xs[j]?.getD 0) n m _ TT.out (by first | exact G.out.row.rowZ I.out.1 hRC I.out.2.1 | exact G.out.row.drew.rowZ I.out.1 hRC I.out.2.1) (by omega) (by omega)).mono ?_; rintro e wa ⟨rfl, hB⟩; simp only; rw [HXZ.out]; have hB1 : Below wr.heap.size wr wa := (by first | exact hB | exact ((Below.refl _ _).drew).trans hB); have G6 : Hid (GerW _ _ _ _ _ _ _ _ _ _ _ _ _ _ _ _ _) := G.out.below hB1; obtain ⟨k0', k1', k2', k3', k4''⟩ := G6.out.m; replace q2 := (hB1.cell (p := ⟨b2, o2 + m, none⟩) l2).trans q2; replace l2 := Nat.lt_of_lt_of_le l2 hB1.size; replace ct : Cnt 2 := Cnt.mk _; clear hB hB1 ck) | (have ck : Cnt 2 := ct; go_at_call 20; refine (uMul p c f y F2 _ (by first | exact G6.out.flg | exact G6.out.flg.drew) m0 m1 y0 y1).mono ?_; rintro e wb ⟨rfl, hC_, hB⟩; rw [HM2.out] at hC_ ⊢; have hB1 : Bes c wa wb := (by first | exact hB | exact ((Bes.refl _ _).drew).trans hB); have G7 : Hid (GerW _ _ _ _ _ _ _ _ _ _ _ _ _ _ _ _ _) := G6.out.call DD.out hB1 hC_; obtain ⟨k0'', k1'', k2'', k3'', k4'''⟩ := G7.out.m; replace q2 := (hB1.cell (p := ⟨b2, o2 + m, none⟩) l2 A2c.out).trans q2; replace l2 := Nat.lt_of_lt_of_le l2 hB1.size; replace ct : Cnt 3 := Cnt.mk _; clear hB hB1 hC_ ck) | (have ck : Cnt 3 := ct; go_at_call 21; refine (uAdd p c z u _ _ (by first | exact G7.out.flg | exact G7.out.flg.drew) z0 z1 u0 u1).mono ?_; rintro e wc ⟨rfl, hC_, hB⟩; rw [HA.out] at hC_ ⊢; rw [SF.out] at hC_; have hB1 : Bes c wb wc := (by first | exact hB | exact ((Bes.refl _ _).drew).trans hB); have G8 : Hid (GerW _ _ _ _ _ _ _ _ _ _ _ _ _ _ _ _ _) := G7.out.call DD.out hB1 hC_; obtain ⟨k0a, k1a, k2a, k3a, k4a⟩ := G8.out.m; replace q2 := (hB1.cell (p := ⟨b2, o2 + m, none⟩) l2 A2c.out).trans q2; replace l2 := Nat.lt_of_lt_of_le l2 hB1.size; replace ct : Cnt 4 := Cnt.mk _; clear hB hB1 hC_ ck) | (have ck : Cnt 4 := ct; go_at_call 47; refine (mSet (R : Int) (C : Int) (C : Int) g1 (R * C) (R * C) xs (n : Int) (m : Int) d _ TT.out (by first | exact G8.out.row | exact G8.out.row.drew) I.out.1 (Nat.le_refl _) (by omega) ⟨by omega, by omega, by omega, by omega⟩).mono ?_; rintro e we ⟨rfl, hR_, hB⟩; have hB1 : Bes (some g1) wc we := (by first | exact hB | exact ((Bes.refl _ _).drew).trans hB); have G9 : Hid (GerW _ _ _ _ _ _ _ _ _ _ _ _ _ _ _ _ _) := G8.out.put DD.out hB1 hR_; obtain ⟨k0b, k1b, k2b, k3b, k4b⟩ := G9.out.m; replace q2 := (hB1.cell (p := ⟨b2, o2 + m, none⟩) l2 A2.out).trans q2; replace ct : Cnt 5 := Cnt.mk _; clear hR_ hB hB1 ck))
          rw [show ((n : Int) * (C : Int) + (m : Int)).toNat = n * C + m by rw [← Int.natCast_mul]; omega] at G9
          have I7 : Hid (GerI (xs.set (n * C + m) d) (fun i j => Z (i * S + j)) V R C n (m + 1)) := I.out.set (by omega) (by omega) d SV.out.symm d0 d1
          clear ct q2
          go_wp2
          go_roundw
          case rel => exact ⟨m + 1, _, by go_num, by omega, G9, I7⟩
          case measure => simp [intOf]; omega
        · obtain rfl : m = C := by omega
          rw [HFN.out] at G
          go_wp2
          go_roundw
          case rel => exact ⟨n + 1, _, by go_num, by omega, G, I.out.next⟩
          case measure => simp [intOf]; omega
    · obtain rfl : n = R := by omega
      obtain ⟨k0, k1, k2, k3, k4'⟩ := G.out.m
      obtain ⟨⟨v0, v1, v2, v3, v4⟩, v5⟩ := G.out.ans
      have y0 := v5 0
      have y1 := v5 1
      have y2 := v5 2
      have y3 := v5 3
      have hne : ¬ k6 = k8 := by obtain ⟨_, _, _, _, _, d6, _⟩ := DD.out; exact fun e => d6 e.symm
      clear v5
      go_wp2
      refine bodyPost_ret (v := .tuple #[.agg #[.int .i64 (n : Int), .int .i64 (C : Int), .int .i64 (C : Int), .slice (some ⟨g1, 0, none⟩) (n * C) (n * C)], .int .i64 0]) (by simp [results, Try.results16, go_sem, *]) rfl ?_
      have hP := bes_puts wr k6 (.int .i64 (n : Int)) (.int .i64 (C : Int)) (.int .i64 (C : Int)) (.slice (some ⟨g1, 0, none⟩) (n * C) (n * C))
      obtain ⟨i1, i2, i3⟩ := I.out
      obtain ⟨d1, d2, d3, d4, d5, d6, d7, _⟩ := DD.out
      refine ⟨g1, rfl, d3, fun j => xs[j]?.getD 0, (G.out.row.rowZ i1 hRC i2).bes hP (Apt.ne (Ne.symm d4)), fun i k hi hk => ?_, G.out.flg.bes hP (fun k e e2 => by have := d7 k e; injection e2 with e2; omega), G.out.bes.young hP d1⟩
      have e := i3 i k hk hi
      rw [if_pos (.inl hi)] at e
      exact e.trans (HV.out i k)
end Go.Proofs.Ytpakpgjbgehhjaa

/-
  What mul's Gemm and Ger return of what doesn't fit: ErrShape. No conditions but that sizes fit a machine.
-/
namespace Go.Proofs.Ytpakpgjbgehhjaa
open Go.RowKit
set_option linter.unusedVariables false
set_option linter.unusedSimpArgs false

set_option maxHeartbeats 2000000 in
set_option maxRecDepth 100000 in
theorem mGemmNot (p : Value) (R C S : Int) (a : Option Addr) (len cap : Nat) (R2 D S2 : Int) (a2 : Option Addr) (len2 cap2 : Nat) (w : World) (h : ¬ Rgt R C S len) (hl : (len : Int) ≤ 9223372036854775807) (hS : S ≤ 9223372036854775807) :
    Calls Try.prog 14 #[p, .agg #[.int .i64 R, .int .i64 C, .int .i64 S, .slice a len cap], .agg #[.int .i64 R2, .int .i64 D, .int .i64 S2, .slice a2 len2 cap2]] w fun e w' => e = .returned (.tuple #[.agg #[.int .i64 0, .int .i64 0, .int .i64 0, .slice none 0 0], .int .i64 4]) ∧ Below w.heap.size w w' := by
  have HH : Hid (¬ Rgt R C S len) := h
  clear h
  go_enter Try.func14, Try.ntmps14
  go_wp2_with fail
  obtain ⟨o1, ho1⟩ : ∃ o, o = Obj.cells #[.int .i64 R, .int .i64 C, .int .i64 S, .slice a len cap] 26 := ⟨_, rfl⟩
  obtain ⟨o2, ho2⟩ : ∃ o, o = Obj.cells #[.int .i64 R2, .int .i64 D, .int .i64 S2, .slice a2 len2 cap2] 26 := ⟨_, rfl⟩
  obtain ⟨o3, ho3⟩ : ∃ o, o = Obj.cells #[.int .i64 0, .int .i64 0, .int .i64 0, .slice none 0 0] 26 := ⟨_, rfl⟩
  have m4 : MBox (((w.alloc o1).alloc o2).alloc o3) w.heap.size R C S (.slice a len cap) := by
    rw [ho1]
    exact ((MBox.made w _ _ _ _).below ((Below.refl _ _).alloc (Nat.le_refl _) _)).below ((Below.refl _ _).alloc (Nat.le_refl _) _)
  have m5 : MBox (((w.alloc o1).alloc o2).alloc o3) (w.heap.size + 1) R2 D S2 (.slice a2 len2 cap2) := by
    rw [ho2]
    have := (MBox.made (w.alloc o1) R2 D S2 (.slice a2 len2 cap2)).below ((Below.refl _ _).alloc (Nat.le_refl _) o3)
    simp only [World.size_alloc] at this
    exact this
  have m6 : WBox (((w.alloc o1).alloc o2).alloc o3) (w.heap.size + 1 + 1) 0 0 0 (.slice none 0 0) := by
    rw [ho3]
    have := WBox.made ((w.alloc o1).alloc o2) 0 0 0 (.slice none 0 0)
    simp only [World.size_alloc] at this
    exact this
  have b0 : Below w.heap.size w (((w.alloc o1).alloc o2).alloc o3) := bmore (bmore (bmore (Below.refl _ _) _) _) _
  rw [← ho1, ← ho2, ← ho3]
  clear ho1 ho2 ho3
  generalize (((w.alloc o1).alloc o2).alloc o3) = W0 at m4 m5 m6 b0 ⊢
  obtain ⟨k4, hk4⟩ : ∃ k, k = w.heap.size := ⟨_, rfl⟩
  obtain ⟨k5, hk5⟩ : ∃ k, k = w.heap.size + 1 := ⟨_, rfl⟩
  obtain ⟨k6, hk6⟩ : ∃ k, k = w.heap.size + 1 + 1 := ⟨_, rfl⟩
  rw [← hk6] at m6 ⊢
  rw [← hk5] at m5 ⊢
  rw [← hk4] at m4 ⊢
  have HK : Hid (w.heap.size ≤ k6) := by show _ ≤ _; omega
  clear hk4 hk5 hk6
  refine (mCheck R C S _ _ _ W0 hl hS).mono ?_
  rintro e w1 ⟨⟨_, hN⟩ | ⟨rfl, _⟩, hb1⟩
  · exact absurd hN HH.out
  have M4 : Hid (MBox _ _ _ _ _ _) := m4.below hb1
  have M5 : Hid (MBox _ _ _ _ _ _) := m5.below hb1
  have M6 : Hid (WBox _ _ _ _ _ _) := m6.below hb1
  have BW : Hid (Below w.heap.size w w1) := bstep b0 hb1
  clear m4 m5 m6 b0 hb1
  obtain ⟨p0, p1, p2, p3, p4⟩ := M4.out
  obtain ⟨q0, q1, q2, q3, q4⟩ := M5.out
  obtain ⟨⟨v0, v1, v2, v3, v4⟩, v5⟩ := M6.out
  have y0 := v5 0
  have y1 := v5 1
  have y2 := v5 2
  have y3 := v5 3
  clear v5
  go_wp2
  refine bodyPost_ret (v := .tuple #[.agg #[.int .i64 0, .int .i64 0, .int .i64 0, .slice none 0 0], .int .i64 4]) (by simp [results, Try.results14, go_sem, *]) rfl ?_
  exact ⟨rfl, Bes.old BW.out (bes_puts _ k6 (.int .i64 0) (.int .i64 0) (.int .i64 0) (.slice none 0 0)) HK.out⟩
set_option maxHeartbeats 2000000 in
set_option maxRecDepth 100000 in
theorem mGemmBad (p : Value) (R C S : Int) (a : Option Addr) (len cap : Nat) (R2 D S2 : Int) (a2 : Option Addr) (len2 cap2 : Nat) (w : World) (h : Rgt R C S len) (h2 : Rgt R2 D S2 len2) (hl : (len : Int) ≤ 9223372036854775807) (hl2 : (len2 : Int) ≤ 9223372036854775807) (hn : C ≠ R2) :
    Calls Try.prog 14 #[p, .agg #[.int .i64 R, .int .i64 C, .int .i64 S, .slice a len cap], .agg #[.int .i64 R2, .int .i64 D, .int .i64 S2, .slice a2 len2 cap2]] w fun e w' => e = .returned (.tuple #[.agg #[.int .i64 0, .int .i64 0, .int .i64 0, .slice none 0 0], .int .i64 4]) ∧ Below w.heap.size w w' := by
  have HH : Hid (Rgt R C S len) := h
  have HH2 : Hid (Rgt R2 D S2 len2) := h2
  have hne : (C == R2) = false := by rw [beq_eq_false_iff_ne]; exact hn
  have hS : S ≤ 9223372036854775807 := by have := h.2.2.2.2.2.1; omega
  have hS2 : S2 ≤ 9223372036854775807 := by have := h2.2.2.2.2.2.1; omega
  clear h h2
  go_enter Try.func14, Try.ntmps14
  go_wp2_with fail
  obtain ⟨o1, ho1⟩ : ∃ o, o = Obj.cells #[.int .i64 R, .int .i64 C, .int .i64 S, .slice a len cap] 26 := ⟨_, rfl⟩
  obtain ⟨o2, ho2⟩ : ∃ o, o = Obj.cells #[.int .i64 R2, .int .i64 D, .int .i64 S2, .slice a2 len2 cap2] 26 := ⟨_, rfl⟩
  obtain ⟨o3, ho3⟩ : ∃ o, o = Obj.cells #[.int .i64 0, .int .i64 0, .int .i64 0, .slice none 0 0] 26 := ⟨_, rfl⟩
  have m4 : MBox (((w.alloc o1).alloc o2).alloc o3) w.heap.size R C S (.slice a len cap) := by
    rw [ho1]
    exact ((MBox.made w _ _ _ _).below ((Below.refl _ _).alloc (Nat.le_refl _) _)).below ((Below.refl _ _).alloc (Nat.le_refl _) _)
  have m5 : MBox (((w.alloc o1).alloc o2).alloc o3) (w.heap.size + 1) R2 D S2 (.slice a2 len2 cap2) := by
    rw [ho2]
    have := (MBox.made (w.alloc o1) R2 D S2 (.slice a2 len2 cap2)).below ((Below.refl _ _).alloc (Nat.le_refl _) o3)
    simp only [World.size_alloc] at this
    exact this
  have m6 : WBox (((w.alloc o1).alloc o2).alloc o3) (w.heap.size + 1 + 1) 0 0 0 (.slice none 0 0) := by
    rw [ho3]
    have := WBox.made ((w.alloc o1).alloc o2) 0 0 0 (.slice none 0 0)
    simp only [World.size_alloc] at this
    exact this
  have b0 : Below w.heap.size w (((w.alloc o1).alloc o2).alloc o3) := bmore (bmore (bmore (Below.refl _ _) _) _) _
  rw [← ho1, ← ho2, ← ho3]
  clear ho1 ho2 ho3
  generalize (((w.alloc o1).alloc o2).alloc o3) = W0 at m4 m5 m6 b0 ⊢
  obtain ⟨k4, hk4⟩ : ∃ k, k = w.heap.size := ⟨_, rfl⟩
  obtain ⟨k5, hk5⟩ : ∃ k, k = w.heap.size + 1 := ⟨_, rfl⟩
  obtain ⟨k6, hk6⟩ : ∃ k, k = w.heap.size + 1 + 1 := ⟨_, rfl⟩
  rw [← hk6] at m6 ⊢
  rw [← hk5] at m5 ⊢
  rw [← hk4] at m4 ⊢
  have HK : Hid (w.heap.size ≤ k6) := by show _ ≤ _; omega
  clear hk4 hk5 hk6
  refine (mCheck R C S _ _ _ W0 hl hS).mono ?_
  rintro e w1 ⟨⟨rfl, _⟩ | ⟨_, hN⟩, hb1⟩
  rotate_left
  · exact absurd HH.out hN
  have M4 : Hid (MBox _ _ _ _ _ _) := m4.below hb1
  have M5 : Hid (MBox _ _ _ _ _ _) := m5.below hb1
  have M6 : Hid (WBox _ _ _ _ _ _) := m6.below hb1
  have BW : Hid (Below w.heap.size w w1) := bstep b0 hb1
  clear m4 m5 m6 b0 hb1
  obtain ⟨p0, p1, p2, p3, p4⟩ := M4.out
  obtain ⟨q0, q1, q2, q3, q4⟩ := M5.out
  go_wp2_with fail
  refine (mCheck R2 D S2 _ _ _ w1 hl2 hS2).mono ?_
  rintro e w2 ⟨⟨rfl, _⟩ | ⟨_, hN⟩, hb1⟩
  rotate_left
  · exact absurd HH2.out hN
  clear p0 p1 p2 p3 p4 q0 q1 q2 q3 q4
  replace M4 : Hid (MBox _ _ _ _ _ _) := M4.out.below hb1
  replace M5 : Hid (MBox _ _ _ _ _ _) := M5.out.below hb1
  replace M6 : Hid (WBox _ _ _ _ _ _) := M6.out.below hb1
  replace BW : Hid (Below _ _ _) := bstep BW.out hb1
  clear hb1
  obtain ⟨p0, p1, p2, p3, p4⟩ := M4.out
  obtain ⟨q0, q1, q2, q3, q4⟩ := M5.out
  obtain ⟨⟨v0, v1, v2, v3, v4⟩, v5⟩ := M6.out
  have y0 := v5 0
  have y1 := v5 1
  have y2 := v5 2
  have y3 := v5 3
  clear v5
  go_wp2
  refine bodyPost_ret (v := .tuple #[.agg #[.int .i64 0, .int .i64 0, .int .i64 0, .slice none 0 0], .int .i64 4]) (by simp [results, Try.results14, go_sem, *]) rfl ?_
  exact ⟨rfl, Bes.old BW.out (bes_puts _ k6 (.int .i64 0) (.int .i64 0) (.int .i64 0) (.slice none 0 0)) HK.out⟩
set_option maxHeartbeats 2000000 in
set_option maxRecDepth 100000 in
theorem mGerBad (p : Value) (al : Int) (R C S : Nat) (a : Option Addr) (len cap : Nat) (ax ay : Option Addr) (n1 n2 cx cy : Nat) (w : World) (h : Rgt (R : Int) (C : Int) (S : Int) len) (hl : (len : Int) ≤ 9223372036854775807) (hn : (C : Int) ≠ (n2 : Int)) :
    Calls Try.prog 16 #[p, .agg #[.int .i64 (R : Int), .int .i64 (C : Int), .int .i64 (S : Int), .slice a len cap], .int .u64 al, .slice ax n1 cx, .slice ay n2 cy] w fun e w' => e = .returned (.tuple #[.agg #[.int .i64 0, .int .i64 0, .int .i64 0, .slice none 0 0], .int .i64 4]) ∧ Below w.heap.size w w' := by
  have HH : Hid (Rgt (R : Int) (C : Int) (S : Int) len) := h
  have hne : ((C : Int) == (n2 : Int)) = false := by rw [beq_eq_false_iff_ne]; exact hn
  clear h
  go_enter Try.func16, Try.ntmps16
  go_wp2_with fail
  obtain ⟨o1, ho1⟩ : ∃ o, o = Obj.cells #[.int .i64 (R : Int), .int .i64 (C : Int), .int .i64 (S : Int), .slice a len cap] 26 := ⟨_, rfl⟩
  obtain ⟨o3, ho3⟩ : ∃ o, o = Obj.cells #[.int .i64 0, .int .i64 0, .int .i64 0, .slice none 0 0] 26 := ⟨_, rfl⟩
  have m4 : MBox ((w.alloc o1).alloc o3) w.heap.size (R : Int) (C : Int) (S : Int) (.slice a len cap) := by
    rw [ho1]
    exact (MBox.made w _ _ _ _).below ((Below.refl _ _).alloc (Nat.le_refl _) _)
  have m6 : WBox ((w.alloc o1).alloc o3) (w.heap.size + 1) 0 0 0 (.slice none 0 0) := by
    rw [ho3]
    have := WBox.made (w.alloc o1) 0 0 0 (.slice none 0 0)
    simp only [World.size_alloc] at this
    exact this
  have b0 : Below w.heap.size w ((w.alloc o1).alloc o3) := bmore (bmore (Below.refl _ _) _) _
  rw [← ho1, ← ho3]
  clear ho1 ho3
  generalize ((w.alloc o1).alloc o3) = W0 at m4 m6 b0 ⊢
  obtain ⟨k4, hk4⟩ : ∃ k, k = w.heap.size := ⟨_, rfl⟩
  obtain ⟨k6, hk6⟩ : ∃ k, k = w.heap.size + 1 := ⟨_, rfl⟩
  rw [← hk6] at m6 ⊢
  rw [← hk4] at m4 ⊢
  have HK : Hid (w.heap.size ≤ k6) := by show _ ≤ _; omega
  clear hk4 hk6
  refine (mCheckOk R C S _ _ _ W0 HH.out hl).mono ?_
  rintro e w1 ⟨rfl, hb1⟩
  have M4 : Hid (MBox _ _ _ _ _ _) := m4.below hb1
  have M6 : Hid (WBox _ _ _ _ _ _) := m6.below hb1
  have BW : Hid (Below w.heap.size w w1) := bstep b0 hb1
  clear m4 m6 b0 hb1
  obtain ⟨p0, p1, p2, p3, p4⟩ := M4.out
  by_cases hr : (R : Int) = (n1 : Int)
  · have hre : ((R : Int) == (n1 : Int)) = true := by rw [hr]; simp
    obtain ⟨⟨v0, v1, v2, v3, v4⟩, v5⟩ := M6.out
    have y0 := v5 0
    have y1 := v5 1
    have y2 := v5 2
    have y3 := v5 3
    clear v5
    go_wp2
    refine bodyPost_ret (v := .tuple #[.agg #[.int .i64 0, .int .i64 0, .int .i64 0, .slice none 0 0], .int .i64 4]) (by simp [results, Try.results16, go_sem, *]) rfl ?_
    exact ⟨rfl, Bes.old BW.out (bes_puts _ k6 (.int .i64 0) (.int .i64 0) (.int .i64 0) (.slice none 0 0)) HK.out⟩
  · have hre : ((R : Int) == (n1 : Int)) = false := by rw [beq_eq_false_iff_ne]; exact hr
    obtain ⟨⟨v0, v1, v2, v3, v4⟩, v5⟩ := M6.out
    have y0 := v5 0
    have y1 := v5 1
    have y2 := v5 2
    have y3 := v5 3
    clear v5
    go_wp2
    refine bodyPost_ret (v := .tuple #[.agg #[.int .i64 0, .int .i64 0, .int .i64 0, .slice none 0 0], .int .i64 4]) (by simp [results, Try.results16, go_sem, *]) rfl ?_
    exact ⟨rfl, Bes.old BW.out (bes_puts _ k6 (.int .i64 0) (.int .i64 0) (.int .i64 0) (.slice none 0 0)) HK.out⟩
end Go.Proofs.Ytpakpgjbgehhjaa

/-
  Flags of products hang on the numbers that are multiplied alone. No conditions.
-/
namespace Go.Proofs.Ytpakpgjbgehhjaa
open Go.RowKit
set_option linter.unusedVariables false

theorem dotF_congr (F : Int) (X Y X' Y' : Nat → Int) (n : Nat) (h : ∀ i, i < n → X i = X' i ∧ Y i = Y' i) : dotF F X Y n = dotF F X' Y' n := by
  induction n with
  | zero => rfl
  | succ k ih =>
    have hv := dotV_congr X Y X' Y' k (fun i hi => h i (Nat.lt_succ_of_lt hi))
    have hf := ih (fun i hi => h i (Nat.lt_succ_of_lt hi))
    obtain ⟨h1, h2⟩ := h k (Nat.lt_succ_self k)
    show bits .or .u8 (bits .or .u8 (dotF F X Y k) (mulS (X k) (Y k)).2) (addS (dotV X Y k) (mulS (X k) (Y k)).1).2 = bits .or .u8 (bits .or .u8 (dotF F X' Y' k) (mulS (X' k) (Y' k)).2) (addS (dotV X' Y' k) (mulS (X' k) (Y' k)).1).2
    rw [hv, hf, h1, h2]
theorem mmR_congr (F : Int) (X : Nat → Int) (Y Y' : Nat → Nat → Int) (C D : Nat) (h : ∀ k j, k < D → j < C → Y k j = Y' k j) : ∀ n, n ≤ D → mmR F X Y C n = mmR F X Y' C n := by
  intro n
  induction n with
  | zero => exact fun _ => rfl
  | succ k ih =>
    intro hk
    show dotF (mmR F X Y C k) X (Y k) C = dotF (mmR F X Y' C k) X (Y' k) C
    rw [ih (by omega)]
    exact dotF_congr _ _ _ _ _ C (fun i hi => ⟨rfl, h k i (by omega) hi⟩)
theorem mmF_congr (F : Int) (Z Y Y' : Nat → Nat → Int) (C D : Nat) (h : ∀ k j, k < D → j < C → Y k j = Y' k j) (n : Nat) : mmF F Z Y C D n = mmF F Z Y' C D n := by
  induction n with
  | zero => rfl
  | succ k ih =>
    show mmR (mmF F Z Y C D k) (Z k) Y C D = mmR (mmF F Z Y' C D k) (Z k) Y' C D
    rw [ih]
    exact mmR_congr _ _ _ _ C D h D (Nat.le_refl _)
end Go.Proofs.Ytpakpgjbgehhjaa
