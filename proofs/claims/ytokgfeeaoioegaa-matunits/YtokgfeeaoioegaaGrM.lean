/-
  Texts put together: FlagM VecF VecG VecH.
-/
import Derived.Test.YtokgfeeaoioegaaProg
import Derived.Test.YtokgfeeaoioegaaGrI
import Derived.Deep.RegionHeld3
/-
  Flags put together: the order does not matter. Numbers below 256.
-/
namespace Go.Proofs.Ytokgfeeaoioegaa
set_option linter.unusedVariables false

theorem or_u8 (a b : Nat) (ha : a < 256) (hb : b < 256) : bits .or .u8 (a : Int) (b : Int) = ((a ||| b : Nat) : Int) := by
  have hlt : a ||| b < 2 ^ 8 := Nat.or_lt_two_pow ha hb
  have key : (BitVec.ofInt 8 (a : Int) ||| BitVec.ofInt 8 (b : Int)).toNat = a ||| b := by
    rw [BitVec.toNat_or, BitVec.toNat_ofInt, BitVec.toNat_ofInt]
    rw [show ((a : Int) % ((2 ^ 8 : Nat) : Int)).toNat = a by omega, show ((b : Int) % ((2 ^ 8 : Nat) : Int)).toNat = b by omega]
  show IntKind.u8.wrap ((BitVec.ofInt 8 (a : Int) ||| BitVec.ofInt 8 (b : Int)).toNat : Nat) = _
  rw [key, IntKind.wrap_u8]
  omega
theorem or_left (a b c : Nat) : a ||| (b ||| c) = b ||| (a ||| c) := by rw [← Nat.or_assoc, Nat.or_comm a b, Nat.or_assoc]
theorem or_four (a b c d : Nat) : (a ||| b) ||| (c ||| d) = (a ||| c) ||| (b ||| d) := by rw [Nat.or_assoc, or_left b c d, ← Nat.or_assoc]
/-- All of the first n, put together. -/
def orN (f : Nat → Nat) : Nat → Nat
  | 0 => 0
  | k + 1 => orN f k ||| f k
theorem orN_lt (f : Nat → Nat) (hf : ∀ k, f k < 256) (n : Nat) : orN f n < 256 := by
  induction n with
  | zero => exact Nat.zero_lt_succ _
  | succ n ih => exact Nat.or_lt_two_pow (n := 8) ih (hf n)
theorem orN_or (f g : Nat → Nat) (n : Nat) : orN (fun k => f k ||| g k) n = orN f n ||| orN g n := by
  induction n with
  | zero => simp [orN]
  | succ n ih =>
    show orN (fun k => f k ||| g k) n ||| (f n ||| g n) = (orN f n ||| f n) ||| (orN g n ||| g n)
    rw [ih]
    exact or_four _ _ _ _
/-- What gets one flag more at each step, told as a whole. -/
theorem fold_is (G : Nat → Int) (f : Nat → Nat) (hf : ∀ k, f k < 256) (F : Nat) (hF : F < 256) (h0 : G 0 = (F : Int)) (hs : ∀ k, G (k + 1) = bits .or .u8 (G k) (f k : Int)) (n : Nat) : G n = ((F ||| orN f n : Nat) : Int) := by
  induction n with
  | zero => rw [h0]; show (F : Int) = ((F ||| 0 : Nat) : Int); rw [Nat.or_zero]
  | succ n ih =>
    rw [hs, ih, or_u8 _ _ (Nat.or_lt_two_pow (n := 8) hF (orN_lt f hf n)) (hf n), Nat.or_assoc]
    rfl
/-- Two flags, one behind the other, are one. -/
theorem or_two (A : Nat) (p q : Nat) (hA : A < 256) (hp : p < 256) (hq : q < 256) : bits .or .u8 (bits .or .u8 (A : Int) (p : Int)) (q : Int) = bits .or .u8 (A : Int) ((p ||| q : Nat) : Int) := by
  rw [or_u8 A p hA hp, or_u8 _ q (Nat.or_lt_two_pow (n := 8) hA hp) hq, or_u8 A _ hA (Nat.or_lt_two_pow (n := 8) hp hq), Nat.or_assoc]
end Go.Proofs.Ytokgfeeaoioegaa

/-
  What vec's Axpy returns, with any Calc: the sums, one behind the other, and all flags. Conditions: the lists lie beside the Calc; at most a million numbers.
-/
namespace Go.Proofs.Ytokgfeeaoioegaa
open Go.RowKit
set_option linter.unusedVariables false

def axpV (a : Int) (X Y : Nat → Int) : Nat → Int := fun i => (addS (mulS a (X i)).1 (Y i)).1
def axpF (F a : Int) (X Y : Nat → Int) : Nat → Int
  | 0 => F
  | k + 1 => bits .or .u8 (bits .or .u8 (axpF F a X Y k) (mulS a (X k)).2) (addS (mulS a (X k)).1 (Y k)).2
theorem IsCalc.drew {w : World} {p : Value} {c : Option Nat} {F : Int} (h : IsCalc w p c F) : IsCalc w.drew p c F := h.later ((Below.refl _ _).drew)
theorem vAxpyBad (p : Value) (a : Int) (A1 A2 : Option Addr) (n1 n2 c1 c2 : Nat) (w : World) (h : (n1 : Int) ≠ (n2 : Int)) :
    Calls Try.prog 42 #[p, .int .u64 a, .slice A1 n1 c1, .slice A2 n2 c2] w fun e w' => e = .returned (.tuple #[.slice none 0 0, .int .i64 4]) ∧ w' = w := by
  go_enter Try.func42, Try.ntmps42
  go_wp2
  go_ret2
  exact ⟨rfl, rfl⟩
set_option maxHeartbeats 2000000 in
theorem vAxpy (p : Value) (c : Option Nat) (F a : Int) (a1 a2 : Option Addr) (n c1 c2 : Nat) (X Y : Nat → Int) (w : World) (hc : IsCalc w p c F) (hx : URow w a1 n c1 X) (hy : URow w a2 n c2 Y) (ax : Apt c a1 n) (ay : Apt c a2 n) (hn : n ≤ 1000000) (f0 : 0 ≤ a) (f1 : a < 18446744073709551616) :
    Calls Try.prog 42 #[p, .int .u64 a, .slice a1 n c1, .slice a2 n c2] w fun e w' => e = .returned (.tuple #[.slice (some ⟨w.heap.size, 0, none⟩) n n, .int .i64 0]) ∧ URow w' (some ⟨w.heap.size, 0, none⟩) n n (axpV a X Y) ∧ IsCalc w' p c (axpF F a X Y n) ∧ Bes c w w' := by
  have HC : Hid (IsCalc w p c F) := hc
  have HX : Hid (URow w a1 n c1 X) := hx
  have HY : Hid (URow w a2 n c2 Y) := hy
  have AX : Hid (Apt c a1 n) := ax
  have AY : Hid (Apt c a2 n) := ay
  have HG : Hid (c ≠ some w.heap.size) := fun e => absurd (hc.lt _ e) (Nat.lt_irrefl _)
  have HR : Hid (∀ i, 0 ≤ axpV a X Y i ∧ axpV a X Y i < 18446744073709551616) := fun i => by
    have m := mulS_rng a (X i)
    have y := hy.2.2.1 i
    have := addS_bd (mulS a (X i)).1 (Y i) m.1 m.2 y.1 y.2
    exact ⟨this.1, this.2.1⟩
  have hcb : (c2 : Int) ≤ 9223372036854775807 := by have := hy.2.1; unfold maxLen at this; omega
  have mk := mk_run n hn
  obtain ⟨O, hO⟩ : ∃ O, O = ((List.replicate n (0 : Int)).map (Value.int .u64)).toArray := ⟨_, rfl⟩
  have HO : Hid (Row1 (w.alloc (.cells O 26)) w.heap.size n 0 (axpV a X Y)) := by rw [hO]; exact Row1.new w n _
  rw [← hO] at mk
  clear hc hx hy ax ay hO
  go_enter Try.func42, Try.ntmps42
  go_wp2
  go_loopw [23] (fun i wr => ∃ k : Nat, i = .int .i64 (k : Int) ∧ k ≤ n ∧ Hid (Row1 wr w.heap.size n k (axpV a X Y)) ∧ Hid (IsCalc wr p c (axpF F a X Y k)) ∧ Hid (Bes c w wr)) (fun i _ => n - (intOf i).toNat)
  case atStart => exact ⟨0, rfl, Nat.zero_le _, HO.out, HC.out.later ((Below.refl _ _).alloc (Nat.le_refl _) _), (Bes.refl _ _).alloc _⟩
  case round =>
    obtain ⟨k, rfl, hk, R, C, B⟩ := hrel
    by_cases hlt : (k : Int) < (n : Int)
    · obtain ⟨_, _, zx, fx⟩ := HX.out.bes B.out AX.out
      obtain ⟨_, _, zy, fy⟩ := HY.out.bes B.out AY.out
      obtain ⟨b1, o1, rfl, l1, e1⟩ := fx (by omega)
      obtain ⟨b2, o2, rfl, l2, e2⟩ := fy (by omega)
      have q1 := e1 k (by omega)
      have q2 := e2 k (by omega)
      obtain ⟨x0, x1⟩ := zx k
      obtain ⟨y0, y1⟩ := zy k
      have hb2 : ¬ b2 = w.heap.size := by
        obtain ⟨b', o', e, hl, _⟩ := HY.out.2.2.2 (by omega)
        injection e with e
        injection e with e3
        omega
      have hcb2 : Hid (c ≠ some b2) := AY.out (by omega) b2 o2 none rfl
      clear zx fx zy fy e1 e2
      have SV : Hid ((addS (mulS a (X k)).1 (Y k)).1 = axpV a X Y k) := rfl
      have SF : Hid (bits .or .u8 (bits .or .u8 (axpF F a X Y k) (mulS a (X k)).2) (addS (mulS a (X k)).1 (Y k)).2 = axpF F a X Y (k + 1)) := rfl
      obtain ⟨m0, m1⟩ := mulS_rng a (X k)
      obtain ⟨x, hx⟩ : ∃ x, X k = x := ⟨_, rfl⟩
      obtain ⟨y, hy⟩ : ∃ y, Y k = y := ⟨_, rfl⟩
      obtain ⟨F1, hF⟩ : ∃ d, axpF F a X Y k = d := ⟨_, rfl⟩
      rw [hx] at q1 x0 x1 SV SF m0 m1
      rw [hy] at q2 y0 y1 SV SF
      rw [hF] at C SF
      obtain ⟨M, hM⟩ : ∃ M, mulS a x = M := ⟨_, rfl⟩
      rw [hM] at SV SF m0 m1
      have HM : Hid (_ = _) := hM
      clear hx hy hF hM
      obtain ⟨m, fm⟩ := M
      simp only at SV SF m0 m1
      obtain ⟨A, hA⟩ : ∃ A, addS m y = A := ⟨_, rfl⟩
      rw [hA] at SV SF
      have HA : Hid (_ = _) := hA
      clear hA
      obtain ⟨s, fs⟩ := A
      simp only at SV SF
      go_wp2
      go_region_held3 (fun w' => w'.cell? ⟨b2, o2 + k, none⟩ = some (.int .u64 y)) (simp [go_sem, *]) (first | (go_at_call 45; refine (uMul p c a x F1 _ (by first | exact C.out.drew | exact C.out) f0 f1 x0 x1).mono ?_; rintro e w1 ⟨rfl, hC1, hB1⟩; rw [HM.out] at hC1 ⊢; have B1 : Bes c wr w1 := (by first | exact ((Bes.refl _ _).drew).trans hB1 | exact hB1); have q2' := (B1.cell (p := ⟨b2, o2 + k, none⟩) l2 hcb2.out).trans q2; have C1 : Hid (IsCalc _ _ _ _) := hC1; have HB1 : Hid (Bes c wr w1) := B1; have hz1 := B1.size; clear hC1 hB1 B1) | (go_at_call 44; refine (uAdd p c m y _ _ (by first | exact C1.out.drew | exact C1.out) m0 m1 y0 y1).mono ?_; rintro e w2 ⟨rfl, hC2, hB2⟩; rw [HA.out] at hC2 ⊢; have B2 : Bes c wr w2 := HB1.out.trans (by first | exact ((Bes.refl _ _).drew).trans hB2 | exact hB2); have q2'' := (B2.cell (p := ⟨b2, o2 + k, none⟩) l2 hcb2.out).trans q2; have C2 : Hid (IsCalc _ _ _ _) := hC2; have HB2 : Hid (Bes c wr w2) := B2; have R2 : Hid (Row1 w2 w.heap.size n k (axpV a X Y)) := R.out.bes B2 HG.out; obtain ⟨z, z1, z2⟩ := R2.out.at k (by omega); clear hC2 hB2 B2))
      go_wp2
      go_roundw
      case rel =>
        have hC := C2.out
        rw [SF.out] at hC
        exact ⟨k + 1, by go_num, by omega, (R2.out.set (by omega) SV.out), hC.bes (Bes.set (c := some w.heap.size) (p := ⟨w.heap.size, k, none⟩) (Bes.refl _ _) (.inr rfl) _) (fun j e e2 => HG.out (e.trans e2.symm)), (B.out.trans HB2.out).set (p := ⟨w.heap.size, k, none⟩) (.inl (Nat.le_refl _)) _⟩
      case measure => simp [intOf]; omega
    · obtain rfl : k = n := by omega
      go_wp2
      go_ret2
      exact ⟨rfl, R.out.row hn HR.out, C.out, B.out⟩
end Go.Proofs.Ytokgfeeaoioegaa

/-
  What vec's Rot returns, with any Calc: sums and differences, and all flags. Conditions: the lists lie beside the Calc; at most a million numbers.
-/
namespace Go.Proofs.Ytokgfeeaoioegaa
open Go.RowKit
set_option linter.unusedVariables false

theorem bes_put (w : World) (g i : Nat) (u : Value) : Bes (some g) w (w.setCell ⟨g, i, none⟩ u) := (Bes.refl _ w).set (p := ⟨g, i, none⟩) (.inr rfl) u
theorem ne_sm {g b : Nat} (h : g ≠ b) : (some g : Option Nat) ≠ some b := fun e => h (Option.some.inj e)
def rotV (c s : Int) (X Y : Nat → Int) : Nat → Int := fun i => (addS (mulS c (X i)).1 (mulS s (Y i)).1).1
def rotW (c s : Int) (X Y : Nat → Int) : Nat → Int := fun i => (addS (mulS c (Y i)).1 (wFlip (mulS s (X i)).1)).1
def rotF (F c s : Int) (X Y : Nat → Int) : Nat → Int
  | 0 => F
  | k + 1 => bits .or .u8 (bits .or .u8 (bits .or .u8 (bits .or .u8 (bits .or .u8 (bits .or .u8 (rotF F c s X Y k) (mulS c (X k)).2) (mulS s (Y k)).2) (addS (mulS c (X k)).1 (mulS s (Y k)).1).2) (mulS c (Y k)).2) (mulS s (X k)).2) (addS (mulS c (Y k)).1 (wFlip (mulS s (X k)).1)).2
theorem vRotBad (p : Value) (c s : Int) (A1 A2 : Option Addr) (n1 n2 c1 c2 : Nat) (w : World) (h : (n1 : Int) ≠ (n2 : Int)) :
    Calls Try.prog 43 #[p, .slice A1 n1 c1, .slice A2 n2 c2, .int .u64 c, .int .u64 s] w fun e w' => e = .returned (.tuple #[.slice none 0 0, .slice none 0 0, .int .i64 4]) ∧ w' = w := by
  go_enter Try.func43, Try.ntmps43
  go_wp2
  refine bodyPost_ret (v := .tuple #[.slice none 0 0, .slice none 0 0, .int .i64 4]) (by simp [results, Try.results43, go_sem]) rfl ⟨rfl, rfl⟩
set_option maxHeartbeats 4000000 in
set_option maxRecDepth 100000 in
theorem vRot (p : Value) (cc : Option Nat) (F c s : Int) (a1 a2 : Option Addr) (n c1 c2 : Nat) (X Y : Nat → Int) (w : World) (hc : IsCalc w p cc F) (hx : URow w a1 n c1 X) (hy : URow w a2 n c2 Y) (ax : Apt cc a1 n) (ay : Apt cc a2 n) (hn : n ≤ 1000000) (f0 : 0 ≤ c) (f1 : c < 18446744073709551616) (g0 : 0 ≤ s) (g1 : s < 18446744073709551616) :
    Calls Try.prog 43 #[p, .slice a1 n c1, .slice a2 n c2, .int .u64 c, .int .u64 s] w fun e w' => ∃ gA gB, e = .returned (.tuple #[.slice (some ⟨gA, 0, none⟩) n n, .slice (some ⟨gB, 0, none⟩) n n, .int .i64 0]) ∧ w.heap.size ≤ gA ∧ w.heap.size ≤ gB ∧ URow w' (some ⟨gA, 0, none⟩) n n (rotV c s X Y) ∧ URow w' (some ⟨gB, 0, none⟩) n n (rotW c s X Y) ∧ IsCalc w' p cc (rotF F c s X Y n) ∧ Bes cc w w' := by
  have HC : Hid (IsCalc w p cc F) := hc
  have HX : Hid (URow w a1 n c1 X) := hx
  have HY : Hid (URow w a2 n c2 Y) := hy
  have AX : Hid (Apt cc a1 n) := ax
  have AY : Hid (Apt cc a2 n) := ay
  have HG : Hid (∀ g, w.heap.size ≤ g → cc ≠ some g) := fun g hg e => absurd (hc.lt _ e) (by omega)
  have hcb : (c2 : Int) ≤ 9223372036854775807 := by have := hy.2.1; unfold maxLen at this; omega
  have RV : Hid (∀ i, 0 ≤ rotV c s X Y i ∧ rotV c s X Y i < 18446744073709551616) := fun i => by
    have m := mulS_rng c (X i)
    have y := mulS_rng s (Y i)
    have := addS_bd _ _ m.1 m.2 y.1 y.2
    exact ⟨this.1, this.2.1⟩
  have RW : Hid (∀ i, 0 ≤ rotW c s X Y i ∧ rotW c s X Y i < 18446744073709551616) := fun i => by
    have m := mulS_rng c (Y i)
    have := addS_bd _ _ m.1 m.2 (wFlip_bd (mulS s (X i)).1).1 (wFlip_bd (mulS s (X i)).1).2
    exact ⟨this.1, this.2.1⟩
  have mk := mk_run n hn
  obtain ⟨O, hO⟩ : ∃ O, O = ((List.replicate n (0 : Int)).map (Value.int .u64)).toArray := ⟨_, rfl⟩
  rw [← hO] at mk
  have HO : Hid (_ = _) := hO
  clear hc hx hy ax ay hO
  go_enter Try.func43, Try.ntmps43
  go_wp2
  go_region
  · go_wp2
    have RA : Row1 ((w.alloc (.cells O 26)).alloc (.cells O 26)) w.heap.size n 0 (rotV c s X Y) := by rw [HO.out]; exact (Row1.new w n _).below ((Below.refl _ _).alloc (Nat.le_refl _) _)
    have RB : Row1 ((w.alloc (.cells O 26)).alloc (.cells O 26)) (w.heap.size + 1) n 0 (rotW c s X Y) := by
      have := Row1.new (w.alloc (.cells O 26)) n (rotW c s X Y)
      simp only [World.size_alloc] at this
      rw [← HO.out] at this
      exact this
    have BW : Bes cc w ((w.alloc (.cells O 26)).alloc (.cells O 26)) := ((Bes.refl _ _).alloc _).alloc _
    have CW : IsCalc ((w.alloc (.cells O 26)).alloc (.cells O 26)) p cc F := HC.out.later (((Below.refl _ _).alloc (Nat.le_refl _) _).alloc (by simp) _)
    have KA : Hid (Row1 (((w.alloc (.cells O 26)).alloc (.cells O 26)).drew) w.heap.size n 0 (rotV c s X Y)) := RA.drew
    have KB : Hid (Row1 (((w.alloc (.cells O 26)).alloc (.cells O 26)).drew) (w.heap.size + 1) n 0 (rotW c s X Y)) := RB.drew
    have KW : Hid (Bes cc w (((w.alloc (.cells O 26)).alloc (.cells O 26)).drew)) := BW.drew
    have KC : Hid (IsCalc (((w.alloc (.cells O 26)).alloc (.cells O 26)).drew) p cc F) := CW.drew
    clear RA RB BW CW
    generalize (((w.alloc (.cells O 26)).alloc (.cells O 26)).drew) = W at KA KB KW KC ⊢
    obtain ⟨gA, hgA⟩ : ∃ g, g = w.heap.size := ⟨_, rfl⟩
    obtain ⟨gB, hgB⟩ : ∃ g, g = (w.heap.size + 1) := ⟨_, rfl⟩
    rw [← hgB] at KB ⊢
    rw [← hgA] at KA ⊢
    have DD : Hid (w.heap.size ≤ gA ∧ w.heap.size ≤ gB ∧ gA ≠ gB) := by refine ⟨?_, ?_, ?_⟩ <;> omega
    clear hgA hgB
    go_loopw [33] (fun i wr => ∃ k : Nat, i = .int .i64 (k : Int) ∧ k ≤ n ∧ Hid (Row1 wr gA n k (rotV c s X Y)) ∧ Hid (Row1 wr gB n k (rotW c s X Y)) ∧ Hid (IsCalc wr p cc (rotF F c s X Y k)) ∧ Hid (Bes cc w wr)) (fun i _ => n - (intOf i).toNat)
    case atStart => exact ⟨0, rfl, Nat.zero_le _, KA, KB, KC, KW⟩
    case round =>
      clear KA KB KC KW
      obtain ⟨k, rfl, hk, RA, RB, C, B⟩ := hrel
      by_cases hlt : (k : Int) < (n : Int)
      · obtain ⟨_, _, zx, fx⟩ := HX.out.bes B.out AX.out
        obtain ⟨_, _, zy, fy⟩ := HY.out.bes B.out AY.out
        obtain ⟨b1, o1, rfl, l1, e1⟩ := fx (by omega)
        obtain ⟨b2, o2, rfl, l2, e2⟩ := fy (by omega)
        have q1 := e1 k (by omega)
        have q2 := e2 k (by omega)
        obtain ⟨x0, x1⟩ := zx k
        obtain ⟨y0, y1⟩ := zy k
        have hb2 : b2 < w.heap.size := by
          obtain ⟨b', o', e, hl, _⟩ := HY.out.2.2.2 (by omega)
          injection e with e
          injection e with e3
          omega
        obtain ⟨dA, dB, dAB⟩ := DD.out
        have n1 : ¬ b2 = gA := by omega
        have n1' : ¬ gA = b2 := by omega
        have hcb2 : Hid (cc ≠ some b2) := AY.out (by omega) b2 o2 none rfl
        clear zx fx zy fy e1 e2
        have SV : Hid (rotV c s X Y k = (addS (mulS c (X k)).1 (mulS s (Y k)).1).1) := rfl
        have SW : Hid (rotW c s X Y k = (addS (mulS c (Y k)).1 (wFlip (mulS s (X k)).1)).1) := rfl
        have SF : Hid (rotF F c s X Y (k + 1) = bits .or .u8 (bits .or .u8 (bits .or .u8 (bits .or .u8 (bits .or .u8 (bits .or .u8 (rotF F c s X Y k) (mulS c (X k)).2) (mulS s (Y k)).2) (addS (mulS c (X k)).1 (mulS s (Y k)).1).2) (mulS c (Y k)).2) (mulS s (X k)).2) (addS (mulS c (Y k)).1 (wFlip (mulS s (X k)).1)).2) := rfl
        obtain ⟨x, hx⟩ : ∃ x, X k = x := ⟨_, rfl⟩
        obtain ⟨y, hy⟩ : ∃ y, Y k = y := ⟨_, rfl⟩
        obtain ⟨F1, hF⟩ : ∃ d, rotF F c s X Y k = d := ⟨_, rfl⟩
        rw [hx] at q1 x0 x1 SV SW SF
        rw [hy] at q2 y0 y1 SV SW SF
        rw [hF] at C SF
        clear hx hy hF
        obtain ⟨u0, u1⟩ := mulS_rng c x
        obtain ⟨v0, v1⟩ := mulS_rng s y
        obtain ⟨r0, r1⟩ := mulS_rng c y
        obtain ⟨t0, t1⟩ := mulS_rng s x
        obtain ⟨M1, h1⟩ : ∃ M, mulS c x = M := ⟨_, rfl⟩
        obtain ⟨M2, h2⟩ : ∃ M, mulS s y = M := ⟨_, rfl⟩
        obtain ⟨M3, h3⟩ : ∃ M, mulS c y = M := ⟨_, rfl⟩
        obtain ⟨M4, h4⟩ : ∃ M, mulS s x = M := ⟨_, rfl⟩
        rw [h1] at SV SF u0 u1
        rw [h2] at SV SF v0 v1
        rw [h3] at SW SF r0 r1
        rw [h4] at SW SF t0 t1
        have H1 : Hid (_ = _) := h1
        have H2 : Hid (_ = _) := h2
        have H3 : Hid (_ = _) := h3
        have H4 : Hid (_ = _) := h4
        clear h1 h2 h3 h4
        obtain ⟨m1, e1⟩ := M1
        obtain ⟨m2, e2⟩ := M2
        obtain ⟨m3, e3⟩ := M3
        obtain ⟨m4, e4⟩ := M4
        simp only at SV SW SF u0 u1 v0 v1 r0 r1 t0 t1
        obtain ⟨A1, h5⟩ : ∃ A, addS m1 m2 = A := ⟨_, rfl⟩
        obtain ⟨A2, h6⟩ : ∃ A, addS m3 (wFlip m4) = A := ⟨_, rfl⟩
        rw [h5] at SV SF
        rw [h6] at SW SF
        have H5 : Hid (_ = _) := h5
        have H6 : Hid (_ = _) := h6
        clear h5 h6
        obtain ⟨s1, g5⟩ := A1
        obtain ⟨s2, g6⟩ := A2
        simp only at SV SW SF
        go_wp2
        go_region_held3 (fun w' => w'.cell? ⟨b2, o2 + k, none⟩ = some (.int .u64 y)) (simp [go_sem, *]) (first | (go_at_call_of 45 c; refine (uMul p cc c x F1 _ (by first | exact C.out.drew | exact C.out) f0 f1 x0 x1).mono ?_; rintro e w1 ⟨rfl, hC1, hB1⟩; rw [H1.out] at hC1 ⊢; have B1 : Bes cc wr w1 := (by first | exact ((Bes.refl _ _).drew).trans hB1 | exact hB1); have q2' := (B1.cell (p := ⟨b2, o2 + k, none⟩) l2 hcb2.out).trans q2; have C1 : Hid (IsCalc _ _ _ _) := hC1; have HB1 : Hid (Bes cc wr w1) := B1; clear hC1 hB1 B1) | (go_at_call_of 45 s; refine (uMul p cc s y _ _ (by first | exact C1.out.drew | exact C1.out) g0 g1 y0 y1).mono ?_; rintro e w2 ⟨rfl, hC2, hB2⟩; rw [H2.out] at hC2 ⊢; have B2 : Bes cc wr w2 := HB1.out.trans (by first | exact ((Bes.refl _ _).drew).trans hB2 | exact hB2); have q2'' := (B2.cell (p := ⟨b2, o2 + k, none⟩) l2 hcb2.out).trans q2; have C2 : Hid (IsCalc _ _ _ _) := hC2; have HB2 : Hid (Bes cc wr w2) := B2; clear hC2 hB2 B2) | (go_at_call 44; refine (uAdd p cc m1 m2 _ _ (by first | exact C2.out.drew | exact C2.out) u0 u1 v0 v1).mono ?_; rintro e w3 ⟨rfl, hC3, hB3⟩; rw [H5.out] at hC3 ⊢; have B3 : Bes cc wr w3 := HB2.out.trans (by first | exact ((Bes.refl _ _).drew).trans hB3 | exact hB3); have q3 := (B3.cell (p := ⟨b2, o2 + k, none⟩) l2 hcb2.out).trans q2; have C3 : Hid (IsCalc _ _ _ _) := hC3; have HB3 : Hid (Bes cc wr w3) := B3; have R3 : Hid (Row1 w3 gA n k (rotV c s X Y)) := RA.out.bes B3 (HG.out gA dA); have T3 : Hid (Row1 w3 gB n k (rotW c s X Y)) := RB.out.bes B3 (HG.out gB dB); obtain ⟨z, z1, z2⟩ := R3.out.at k (by omega); clear hC3 hB3 B3))
        have PA : Bes (some gA) w3 (w3.setCell ⟨gA, k, none⟩ (.int .u64 s1)) := bes_put w3 gA k _
        have R4 : Hid (Row1 (w3.setCell ⟨gA, k, none⟩ (.int .u64 s1)) gA n (k + 1) (rotV c s X Y)) := R3.out.set (by omega) SV.out.symm
        have T4 : Hid (Row1 (w3.setCell ⟨gA, k, none⟩ (.int .u64 s1)) gB n k (rotW c s X Y)) := T3.out.bes PA (ne_sm dAB)
        have C4 : Hid (IsCalc (w3.setCell ⟨gA, k, none⟩ (.int .u64 s1)) p cc _) := C3.out.bes PA (fun j e e2 => HG.out gA dA (e.trans e2.symm))
        have B4 : Hid (Bes cc w (w3.setCell ⟨gA, k, none⟩ (.int .u64 s1))) := (B.out.trans HB3.out).set (p := ⟨gA, k, none⟩) (.inl dA) _
        have q4 : (w3.setCell ⟨gA, k, none⟩ (.int .u64 s1)).cell? ⟨b2, o2 + k, none⟩ = some (.int .u64 y) := (PA.cell (p := ⟨b2, o2 + k, none⟩) (Nat.lt_of_lt_of_le l2 HB3.out.size) (ne_sm n1')).trans q3
        clear PA R3 T3 C3 HB3 q3 z1 z2 RA RB C B
        generalize (w3.setCell ⟨gA, k, none⟩ (.int .u64 s1)) = V at R4 T4 C4 B4 q4 ⊢
        go_wp2_with fail
        refine (uMul p cc c y _ _ C4.out f0 f1 y0 y1).mono ?_
        rintro e w5 ⟨rfl, hC5, hB5⟩
        rw [H3.out] at hC5 ⊢
        have C5 : Hid (IsCalc _ _ _ _) := hC5
        have S5 : Hid (Bes cc V w5) := hB5
        clear hC5 hB5
        go_wp2_with fail
        refine (uMul p cc s x _ _ C5.out g0 g1 x0 x1).mono ?_
        rintro e w6 ⟨rfl, hC6, hB6⟩
        rw [H4.out] at hC6 ⊢
        have C6 : Hid (IsCalc _ _ _ _) := hC6
        have S6 : Hid (Bes cc V w6) := S5.out.trans hB6
        clear hC6 hB6
        go_wp2_with fail
        refine (uSub p cc m3 m4 _ _ C6.out r0 r1 t0 t1).mono ?_
        rintro e w7 ⟨rfl, hC7, hB7⟩
        rw [H6.out] at hC7 ⊢
        have S7 : Hid (Bes cc V w7) := S6.out.trans hB7
        have C7 : Hid (IsCalc w7 p cc (rotF F c s X Y (k + 1))) := by rw [SF.out]; exact hC7
        have R7 : Hid (Row1 w7 gA n (k + 1) (rotV c s X Y)) := R4.out.bes S7.out (HG.out gA dA)
        have T7 : Hid (Row1 w7 gB n k (rotW c s X Y)) := T4.out.bes S7.out (HG.out gB dB)
        obtain ⟨z, z1, z2⟩ := T7.out.at k (by omega)
        have B7 : Hid (Bes cc w w7) := B4.out.trans S7.out
        clear hC7 hB7 S5 S6 S7 C4 C5 C6 B4 R4 T4
        go_wp2
        go_roundw
        case rel =>
          have PB : Bes (some gB) w7 (w7.setCell ⟨gB, k, none⟩ (.int .u64 s2)) := bes_put w7 gB k _
          exact ⟨k + 1, by go_num, by omega, R7.out.bes PB (ne_sm (Ne.symm dAB)), T7.out.set (by omega) SW.out.symm, C7.out.bes PB (fun j e e2 => HG.out gB dB (e.trans e2.symm)), B7.out.set (p := ⟨gB, k, none⟩) (.inl dB) _⟩
        case measure => simp [intOf]; omega
      · obtain rfl : k = n := by omega
        obtain ⟨dA, dB, dAB⟩ := DD.out
        go_wp2
        refine bodyPost_ret (v := .tuple #[.slice (some ⟨gA, 0, none⟩) k k, .slice (some ⟨gB, 0, none⟩) k k, .int .i64 0]) (by simp [results, Try.results43, go_sem]) rfl ?_
        exact ⟨gA, gB, rfl, dA, dB, RA.out.row hn RV.out, RB.out.row hn RW.out, C.out, B.out⟩
  · go_wp2
    have RA : Row1 ((w.alloc (.cells O 26)).alloc (.cells O 26)) (w.heap.size + 1) n 0 (rotV c s X Y) := by
      have := Row1.new (w.alloc (.cells O 26)) n (rotV c s X Y)
      simp only [World.size_alloc] at this
      rw [← HO.out] at this
      exact this
    have RB : Row1 ((w.alloc (.cells O 26)).alloc (.cells O 26)) w.heap.size n 0 (rotW c s X Y) := by rw [HO.out]; exact (Row1.new w n _).below ((Below.refl _ _).alloc (Nat.le_refl _) _)
    have BW : Bes cc w ((w.alloc (.cells O 26)).alloc (.cells O 26)) := ((Bes.refl _ _).alloc _).alloc _
    have CW : IsCalc ((w.alloc (.cells O 26)).alloc (.cells O 26)) p cc F := HC.out.later (((Below.refl _ _).alloc (Nat.le_refl _) _).alloc (by simp) _)
    have KA : Hid (Row1 (((w.alloc (.cells O 26)).alloc (.cells O 26)).drew) (w.heap.size + 1) n 0 (rotV c s X Y)) := RA.drew
    have KB : Hid (Row1 (((w.alloc (.cells O 26)).alloc (.cells O 26)).drew) w.heap.size n 0 (rotW c s X Y)) := RB.drew
    have KW : Hid (Bes cc w (((w.alloc (.cells O 26)).alloc (.cells O 26)).drew)) := BW.drew
    have KC : Hid (IsCalc (((w.alloc (.cells O 26)).alloc (.cells O 26)).drew) p cc F) := CW.drew
    clear RA RB BW CW
    generalize (((w.alloc (.cells O 26)).alloc (.cells O 26)).drew) = W at KA KB KW KC ⊢
    obtain ⟨gA, hgA⟩ : ∃ g, g = (w.heap.size + 1) := ⟨_, rfl⟩
    obtain ⟨gB, hgB⟩ : ∃ g, g = w.heap.size := ⟨_, rfl⟩
    rw [← hgA] at KA ⊢
    rw [← hgB] at KB ⊢
    have DD : Hid (w.heap.size ≤ gA ∧ w.heap.size ≤ gB ∧ gA ≠ gB) := by refine ⟨?_, ?_, ?_⟩ <;> omega
    clear hgA hgB
    go_loopw [33] (fun i wr => ∃ k : Nat, i = .int .i64 (k : Int) ∧ k ≤ n ∧ Hid (Row1 wr gA n k (rotV c s X Y)) ∧ Hid (Row1 wr gB n k (rotW c s X Y)) ∧ Hid (IsCalc wr p cc (rotF F c s X Y k)) ∧ Hid (Bes cc w wr)) (fun i _ => n - (intOf i).toNat)
    case atStart => exact ⟨0, rfl, Nat.zero_le _, KA, KB, KC, KW⟩
    case round =>
      clear KA KB KC KW
      obtain ⟨k, rfl, hk, RA, RB, C, B⟩ := hrel
      by_cases hlt : (k : Int) < (n : Int)
      · obtain ⟨_, _, zx, fx⟩ := HX.out.bes B.out AX.out
        obtain ⟨_, _, zy, fy⟩ := HY.out.bes B.out AY.out
        obtain ⟨b1, o1, rfl, l1, e1⟩ := fx (by omega)
        obtain ⟨b2, o2, rfl, l2, e2⟩ := fy (by omega)
        have q1 := e1 k (by omega)
        have q2 := e2 k (by omega)
        obtain ⟨x0, x1⟩ := zx k
        obtain ⟨y0, y1⟩ := zy k
        have hb2 : b2 < w.heap.size := by
          obtain ⟨b', o', e, hl, _⟩ := HY.out.2.2.2 (by omega)
          injection e with e
          injection e with e3
          omega
        obtain ⟨dA, dB, dAB⟩ := DD.out
        have n1 : ¬ b2 = gA := by omega
        have n1' : ¬ gA = b2 := by omega
        have hcb2 : Hid (cc ≠ some b2) := AY.out (by omega) b2 o2 none rfl
        clear zx fx zy fy e1 e2
        have SV : Hid (rotV c s X Y k = (addS (mulS c (X k)).1 (mulS s (Y k)).1).1) := rfl
        have SW : Hid (rotW c s X Y k = (addS (mulS c (Y k)).1 (wFlip (mulS s (X k)).1)).1) := rfl
        have SF : Hid (rotF F c s X Y (k + 1) = bits .or .u8 (bits .or .u8 (bits .or .u8 (bits .or .u8 (bits .or .u8 (bits .or .u8 (rotF F c s X Y k) (mulS c (X k)).2) (mulS s (Y k)).2) (addS (mulS c (X k)).1 (mulS s (Y k)).1).2) (mulS c (Y k)).2) (mulS s (X k)).2) (addS (mulS c (Y k)).1 (wFlip (mulS s (X k)).1)).2) := rfl
        obtain ⟨x, hx⟩ : ∃ x, X k = x := ⟨_, rfl⟩
        obtain ⟨y, hy⟩ : ∃ y, Y k = y := ⟨_, rfl⟩
        obtain ⟨F1, hF⟩ : ∃ d, rotF F c s X Y k = d := ⟨_, rfl⟩
        rw [hx] at q1 x0 x1 SV SW SF
        rw [hy] at q2 y0 y1 SV SW SF
        rw [hF] at C SF
        clear hx hy hF
        obtain ⟨u0, u1⟩ := mulS_rng c x
        obtain ⟨v0, v1⟩ := mulS_rng s y
        obtain ⟨r0, r1⟩ := mulS_rng c y
        obtain ⟨t0, t1⟩ := mulS_rng s x
        obtain ⟨M1, h1⟩ : ∃ M, mulS c x = M := ⟨_, rfl⟩
        obtain ⟨M2, h2⟩ : ∃ M, mulS s y = M := ⟨_, rfl⟩
        obtain ⟨M3, h3⟩ : ∃ M, mulS c y = M := ⟨_, rfl⟩
        obtain ⟨M4, h4⟩ : ∃ M, mulS s x = M := ⟨_, rfl⟩
        rw [h1] at SV SF u0 u1
        rw [h2] at SV SF v0 v1
        rw [h3] at SW SF r0 r1
        rw [h4] at SW SF t0 t1
        have H1 : Hid (_ = _) := h1
        have H2 : Hid (_ = _) := h2
        have H3 : Hid (_ = _) := h3
        have H4 : Hid (_ = _) := h4
        clear h1 h2 h3 h4
        obtain ⟨m1, e1⟩ := M1
        obtain ⟨m2, e2⟩ := M2
        obtain ⟨m3, e3⟩ := M3
        obtain ⟨m4, e4⟩ := M4
        simp only at SV SW SF u0 u1 v0 v1 r0 r1 t0 t1
        obtain ⟨A1, h5⟩ : ∃ A, addS m1 m2 = A := ⟨_, rfl⟩
        obtain ⟨A2, h6⟩ : ∃ A, addS m3 (wFlip m4) = A := ⟨_, rfl⟩
        rw [h5] at SV SF
        rw [h6] at SW SF
        have H5 : Hid (_ = _) := h5
        have H6 : Hid (_ = _) := h6
        clear h5 h6
        obtain ⟨s1, g5⟩ := A1
        obtain ⟨s2, g6⟩ := A2
        simp only at SV SW SF
        go_wp2
        go_region_held3 (fun w' => w'.cell? ⟨b2, o2 + k, none⟩ = some (.int .u64 y)) (simp [go_sem, *]) (first | (go_at_call_of 45 c; refine (uMul p cc c x F1 _ (by first | exact C.out.drew | exact C.out) f0 f1 x0 x1).mono ?_; rintro e w1 ⟨rfl, hC1, hB1⟩; rw [H1.out] at hC1 ⊢; have B1 : Bes cc wr w1 := (by first | exact ((Bes.refl _ _).drew).trans hB1 | exact hB1); have q2' := (B1.cell (p := ⟨b2, o2 + k, none⟩) l2 hcb2.out).trans q2; have C1 : Hid (IsCalc _ _ _ _) := hC1; have HB1 : Hid (Bes cc wr w1) := B1; clear hC1 hB1 B1) | (go_at_call_of 45 s; refine (uMul p cc s y _ _ (by first | exact C1.out.drew | exact C1.out) g0 g1 y0 y1).mono ?_; rintro e w2 ⟨rfl, hC2, hB2⟩; rw [H2.out] at hC2 ⊢; have B2 : Bes cc wr w2 := HB1.out.trans (by first | exact ((Bes.refl _ _).drew).trans hB2 | exact hB2); have q2'' := (B2.cell (p := ⟨b2, o2 + k, none⟩) l2 hcb2.out).trans q2; have C2 : Hid (IsCalc _ _ _ _) := hC2; have HB2 : Hid (Bes cc wr w2) := B2; clear hC2 hB2 B2) | (go_at_call 44; refine (uAdd p cc m1 m2 _ _ (by first | exact C2.out.drew | exact C2.out) u0 u1 v0 v1).mono ?_; rintro e w3 ⟨rfl, hC3, hB3⟩; rw [H5.out] at hC3 ⊢; have B3 : Bes cc wr w3 := HB2.out.trans (by first | exact ((Bes.refl _ _).drew).trans hB3 | exact hB3); have q3 := (B3.cell (p := ⟨b2, o2 + k, none⟩) l2 hcb2.out).trans q2; have C3 : Hid (IsCalc _ _ _ _) := hC3; have HB3 : Hid (Bes cc wr w3) := B3; have R3 : Hid (Row1 w3 gA n k (rotV c s X Y)) := RA.out.bes B3 (HG.out gA dA); have T3 : Hid (Row1 w3 gB n k (rotW c s X Y)) := RB.out.bes B3 (HG.out gB dB); obtain ⟨z, z1, z2⟩ := R3.out.at k (by omega); clear hC3 hB3 B3))
        have PA : Bes (some gA) w3 (w3.setCell ⟨gA, k, none⟩ (.int .u64 s1)) := bes_put w3 gA k _
        have R4 : Hid (Row1 (w3.setCell ⟨gA, k, none⟩ (.int .u64 s1)) gA n (k + 1) (rotV c s X Y)) := R3.out.set (by omega) SV.out.symm
        have T4 : Hid (Row1 (w3.setCell ⟨gA, k, none⟩ (.int .u64 s1)) gB n k (rotW c s X Y)) := T3.out.bes PA (ne_sm dAB)
        have C4 : Hid (IsCalc (w3.setCell ⟨gA, k, none⟩ (.int .u64 s1)) p cc _) := C3.out.bes PA (fun j e e2 => HG.out gA dA (e.trans e2.symm))
        have B4 : Hid (Bes cc w (w3.setCell ⟨gA, k, none⟩ (.int .u64 s1))) := (B.out.trans HB3.out).set (p := ⟨gA, k, none⟩) (.inl dA) _
        have q4 : (w3.setCell ⟨gA, k, none⟩ (.int .u64 s1)).cell? ⟨b2, o2 + k, none⟩ = some (.int .u64 y) := (PA.cell (p := ⟨b2, o2 + k, none⟩) (Nat.lt_of_lt_of_le l2 HB3.out.size) (ne_sm n1')).trans q3
        clear PA R3 T3 C3 HB3 q3 z1 z2 RA RB C B
        generalize (w3.setCell ⟨gA, k, none⟩ (.int .u64 s1)) = V at R4 T4 C4 B4 q4 ⊢
        go_wp2_with fail
        refine (uMul p cc c y _ _ C4.out f0 f1 y0 y1).mono ?_
        rintro e w5 ⟨rfl, hC5, hB5⟩
        rw [H3.out] at hC5 ⊢
        have C5 : Hid (IsCalc _ _ _ _) := hC5
        have S5 : Hid (Bes cc V w5) := hB5
        clear hC5 hB5
        go_wp2_with fail
        refine (uMul p cc s x _ _ C5.out g0 g1 x0 x1).mono ?_
        rintro e w6 ⟨rfl, hC6, hB6⟩
        rw [H4.out] at hC6 ⊢
        have C6 : Hid (IsCalc _ _ _ _) := hC6
        have S6 : Hid (Bes cc V w6) := S5.out.trans hB6
        clear hC6 hB6
        go_wp2_with fail
        refine (uSub p cc m3 m4 _ _ C6.out r0 r1 t0 t1).mono ?_
        rintro e w7 ⟨rfl, hC7, hB7⟩
        rw [H6.out] at hC7 ⊢
        have S7 : Hid (Bes cc V w7) := S6.out.trans hB7
        have C7 : Hid (IsCalc w7 p cc (rotF F c s X Y (k + 1))) := by rw [SF.out]; exact hC7
        have R7 : Hid (Row1 w7 gA n (k + 1) (rotV c s X Y)) := R4.out.bes S7.out (HG.out gA dA)
        have T7 : Hid (Row1 w7 gB n k (rotW c s X Y)) := T4.out.bes S7.out (HG.out gB dB)
        obtain ⟨z, z1, z2⟩ := T7.out.at k (by omega)
        have B7 : Hid (Bes cc w w7) := B4.out.trans S7.out
        clear hC7 hB7 S5 S6 S7 C4 C5 C6 B4 R4 T4
        go_wp2
        go_roundw
        case rel =>
          have PB : Bes (some gB) w7 (w7.setCell ⟨gB, k, none⟩ (.int .u64 s2)) := bes_put w7 gB k _
          exact ⟨k + 1, by go_num, by omega, R7.out.bes PB (ne_sm (Ne.symm dAB)), T7.out.set (by omega) SW.out.symm, C7.out.bes PB (fun j e e2 => HG.out gB dB (e.trans e2.symm)), B7.out.set (p := ⟨gB, k, none⟩) (.inl dB) _⟩
        case measure => simp [intOf]; omega
      · obtain rfl : k = n := by omega
        obtain ⟨dA, dB, dAB⟩ := DD.out
        go_wp2
        refine bodyPost_ret (v := .tuple #[.slice (some ⟨gA, 0, none⟩) k k, .slice (some ⟨gB, 0, none⟩) k k, .int .i64 0]) (by simp [results, Try.results43, go_sem]) rfl ?_
        exact ⟨gA, gB, rfl, dA, dB, RA.out.row hn RV.out, RB.out.row hn RW.out, C.out, B.out⟩
end Go.Proofs.Ytokgfeeaoioegaa

/-
  The flags of sums and products in another order are the same. Conditions: numbers of 64 bits.
-/
namespace Go.Proofs.Ytokgfeeaoioegaa
open Go.RowKit
set_option linter.unusedVariables false

def orC (A : Int) (ps : List Nat) : Int := List.foldl (fun (x : Int) (p : Nat) => bits .or .u8 x (p : Int)) A ps
def orL : List Nat → Nat
  | [] => 0
  | p :: ps => p ||| orL ps
theorem orL_lt (ps : List Nat) (h : ∀ p ∈ ps, p < 256) : orL ps < 256 := by
  induction ps with
  | nil => exact Nat.zero_lt_succ _
  | cons p ps ih => exact Nat.or_lt_two_pow (n := 8) (h p List.mem_cons_self) (ih (fun q hq => h q (List.mem_cons_of_mem _ hq)))
theorem orC_nat (ps : List Nat) : ∀ (A : Nat), A < 256 → (∀ p ∈ ps, p < 256) → orC (A : Int) ps = ((A ||| orL ps : Nat) : Int) := by
  induction ps with
  | nil => intro A _ _; show (A : Int) = ((A ||| 0 : Nat) : Int); rw [Nat.or_zero]
  | cons p ps ih =>
    intro A hA h
    have hp := h p List.mem_cons_self
    show orC (bits .or .u8 (A : Int) (p : Int)) ps = _
    rw [or_u8 A p hA hp, ih _ (Nat.or_lt_two_pow (n := 8) hA hp) (fun q hq => h q (List.mem_cons_of_mem _ hq))]
    show ((A ||| p ||| orL ps : Nat) : Int) = ((A ||| (p ||| orL ps) : Nat) : Int)
    rw [Nat.or_assoc]
theorem foldC (G : Nat → Int) (ps : Nat → List Nat) (hp : ∀ k, ∀ p ∈ ps k, p < 256) (F : Nat) (hF : F < 256) (h0 : G 0 = (F : Int)) (hs : ∀ k, G (k + 1) = orC (G k) (ps k)) (n : Nat) : G n = ((F ||| orN (fun k => orL (ps k)) n : Nat) : Int) := by
  induction n with
  | zero => rw [h0]; show (F : Int) = ((F ||| 0 : Nat) : Int); rw [Nat.or_zero]
  | succ n ih =>
    rw [hs, ih, orC_nat _ _ (Nat.or_lt_two_pow (n := 8) hF (orN_lt _ (fun k => orL_lt _ (hp k)) n)) (hp n), Nat.or_assoc]
    rfl
def mf (a b : Int) : Nat := (mulS a b).2.toNat
def af (a b : Int) : Nat := (addS a b).2.toNat
theorem mf_eq (a b : Int) : (mulS a b).2 = (mf a b : Int) := by have := mulS_bd a b; unfold mf; omega
theorem mf_lt (a b : Int) : mf a b < 256 := by have := mulS_bd a b; unfold mf; omega
theorem af_eq (a b : Int) (h0 : 0 ≤ a) (h1 : a < 18446744073709551616) (g0 : 0 ≤ b) (g1 : b < 18446744073709551616) : (addS a b).2 = (af a b : Int) := by have := addS_bd a b h0 h1 g0 g1; unfold af; omega
theorem af_lt (a b : Int) (h0 : 0 ≤ a) (h1 : a < 18446744073709551616) (g0 : 0 ≤ b) (g1 : b < 18446744073709551616) : af a b < 256 := by have := addS_bd a b h0 h1 g0 g1; unfold af; omega
/-- The flags of one round of the law: a sum; a turn's sum and difference. -/
def stpF (F a s : Int) (X Y : Nat → Int) : Nat → Int
  | 0 => F
  | k + 1 => bits .or .u8 (bits .or .u8 (bits .or .u8 (bits .or .u8 (bits .or .u8 (bits .or .u8 (bits .or .u8 (bits .or .u8 (stpF F a s X Y k) (mulS a (X k)).2) (addS (mulS a (X k)).1 (Y k)).2) (mulS a (X k)).2) (mulS s (Y k)).2) (addS (mulS a (X k)).1 (mulS s (Y k)).1).2) (mulS a (Y k)).2) (mulS s (X k)).2) (addS (mulS a (Y k)).1 (wFlip (mulS s (X k)).1)).2
def mixF (F a : Int) (X : Nat → Int) : Nat → Int
  | 0 => F
  | k + 1 => bits .or .u8 (bits .or .u8 (mixF F a X k) (mulS a (X k)).2) (addS (asuV X k) (X k % 9223372036854775808)).2
theorem flags_same (a s : Int) (X Y : Nat → Int) (n : Nat) (hX : ∀ i, 0 ≤ X i ∧ X i < 18446744073709551616) (hY : ∀ i, 0 ≤ Y i ∧ Y i < 18446744073709551616) :
    asuF (sclF (rotF (axpF (dotF 0 X Y n) a X Y n) a s X Y n) a X n) X n = mixF (stpF (dotF 0 X Y n) a s X Y n) a X n := by
  obtain ⟨D, hD, hD2⟩ : ∃ D : Nat, dotF 0 X Y n = (D : Int) ∧ D < 256 := ⟨(dotF 0 X Y n).toNat, by have := dotF_rng 0 X Y (by decide) (by decide) n; omega, by have := dotF_rng 0 X Y (by decide) (by decide) n; omega⟩
  rw [hD]
  have q1 : ∀ k, 0 ≤ (mulS a (X k)).1 ∧ (mulS a (X k)).1 < 18446744073709551616 := fun k => mulS_rng _ _
  have q2 : ∀ k, 0 ≤ (mulS s (Y k)).1 ∧ (mulS s (Y k)).1 < 18446744073709551616 := fun k => mulS_rng _ _
  have q3 : ∀ k, 0 ≤ (mulS a (Y k)).1 ∧ (mulS a (Y k)).1 < 18446744073709551616 := fun k => mulS_rng _ _
  have q4 : ∀ k, 0 ≤ wFlip (mulS s (X k)).1 ∧ wFlip (mulS s (X k)).1 < 18446744073709551616 := fun k => wFlip_bd _
  have q5 : ∀ k, 0 ≤ X k % 9223372036854775808 ∧ X k % 9223372036854775808 < 18446744073709551616 := fun k => by omega
  have e1 : ∀ k, (addS (mulS a (X k)).1 (Y k)).2 = (af (mulS a (X k)).1 (Y k) : Int) := fun k => af_eq _ _ (q1 k).1 (q1 k).2 (hY k).1 (hY k).2
  have e2 : ∀ k, (addS (mulS a (X k)).1 (mulS s (Y k)).1).2 = (af (mulS a (X k)).1 (mulS s (Y k)).1 : Int) := fun k => af_eq _ _ (q1 k).1 (q1 k).2 (q2 k).1 (q2 k).2
  have e3 : ∀ k, (addS (mulS a (Y k)).1 (wFlip (mulS s (X k)).1)).2 = (af (mulS a (Y k)).1 (wFlip (mulS s (X k)).1) : Int) := fun k => af_eq _ _ (q3 k).1 (q3 k).2 (q4 k).1 (q4 k).2
  have e4 : ∀ k, (addS (asuV X k) (X k % 9223372036854775808)).2 = (af (asuV X k) (X k % 9223372036854775808) : Int) := fun k => af_eq _ _ (asuV_rng X k).1 (asuV_rng X k).2 (q5 k).1 (q5 k).2
  have l1 : ∀ k, af (mulS a (X k)).1 (Y k) < 256 := fun k => af_lt _ _ (q1 k).1 (q1 k).2 (hY k).1 (hY k).2
  have l2 : ∀ k, af (mulS a (X k)).1 (mulS s (Y k)).1 < 256 := fun k => af_lt _ _ (q1 k).1 (q1 k).2 (q2 k).1 (q2 k).2
  have l3 : ∀ k, af (mulS a (Y k)).1 (wFlip (mulS s (X k)).1) < 256 := fun k => af_lt _ _ (q3 k).1 (q3 k).2 (q4 k).1 (q4 k).2
  have l4 : ∀ k, af (asuV X k) (X k % 9223372036854775808) < 256 := fun k => af_lt _ _ (asuV_rng X k).1 (asuV_rng X k).2 (q5 k).1 (q5 k).2
  have mem : ∀ (p : Nat) (l : List Nat), (∀ q ∈ l, q < 256) → p < 256 → ∀ q ∈ p :: l, q < 256 := fun p l h hp q hq => by
    rcases List.mem_cons.1 hq with rfl | h2
    · exact hp
    · exact h q h2
  have nil : ∀ q ∈ ([] : List Nat), q < 256 := fun q hq => by cases hq
  -- each, as one
  have A := foldC (axpF (D : Int) a X Y) (fun k => [mf a (X k), af (mulS a (X k)).1 (Y k)]) (fun k => mem _ _ (mem _ _ nil (l1 k)) (mf_lt _ _)) D hD2 rfl (fun k => by
    show bits .or .u8 (bits .or .u8 _ (mulS a (X k)).2) (addS (mulS a (X k)).1 (Y k)).2 = bits .or .u8 (bits .or .u8 _ (mf a (X k) : Int)) (af (mulS a (X k)).1 (Y k) : Int)
    rw [mf_eq, e1]) n
  generalize hA : orN (fun k => orL [mf a (X k), af (mulS a (X k)).1 (Y k)]) n = NA at A
  have hAl : D ||| NA < 256 := by rw [← hA]; exact Nat.or_lt_two_pow (n := 8) hD2 (orN_lt _ (fun k => orL_lt _ (mem _ _ (mem _ _ nil (l1 k)) (mf_lt _ _))) n)
  rw [A]
  have mR : ∀ k, ∀ q ∈ [mf a (X k), mf s (Y k), af (mulS a (X k)).1 (mulS s (Y k)).1, mf a (Y k), mf s (X k), af (mulS a (Y k)).1 (wFlip (mulS s (X k)).1)], q < 256 := fun k => mem _ _ (mem _ _ (mem _ _ (mem _ _ (mem _ _ (mem _ _ nil (l3 k)) (mf_lt _ _)) (mf_lt _ _)) (l2 k)) (mf_lt _ _)) (mf_lt _ _)
  have Rr := foldC (rotF ((D ||| NA : Nat) : Int) a s X Y) _ mR (D ||| NA) hAl rfl (fun k => by
    show bits .or .u8 (bits .or .u8 (bits .or .u8 (bits .or .u8 (bits .or .u8 (bits .or .u8 _ (mulS a (X k)).2) (mulS s (Y k)).2) (addS (mulS a (X k)).1 (mulS s (Y k)).1).2) (mulS a (Y k)).2) (mulS s (X k)).2) (addS (mulS a (Y k)).1 (wFlip (mulS s (X k)).1)).2 = bits .or .u8 (bits .or .u8 (bits .or .u8 (bits .or .u8 (bits .or .u8 (bits .or .u8 _ (mf a (X k) : Int)) (mf s (Y k) : Int)) (af (mulS a (X k)).1 (mulS s (Y k)).1 : Int)) (mf a (Y k) : Int)) (mf s (X k) : Int)) (af (mulS a (Y k)).1 (wFlip (mulS s (X k)).1) : Int)
    rw [mf_eq, mf_eq, mf_eq, mf_eq, e2, e3]) n
  generalize hR : orN (fun k => orL [mf a (X k), mf s (Y k), af (mulS a (X k)).1 (mulS s (Y k)).1, mf a (Y k), mf s (X k), af (mulS a (Y k)).1 (wFlip (mulS s (X k)).1)]) n = NR at Rr
  have hRl : D ||| NA ||| NR < 256 := by rw [← hR]; exact Nat.or_lt_two_pow (n := 8) hAl (orN_lt _ (fun k => orL_lt _ (mR k)) n)
  rw [Rr]
  have mS : ∀ k, ∀ q ∈ [mf a (X k)], q < 256 := fun k => mem _ _ nil (mf_lt _ _)
  have Sc := foldC (sclF ((D ||| NA ||| NR : Nat) : Int) a X) _ mS (D ||| NA ||| NR) hRl rfl (fun k => by
    show bits .or .u8 _ (mulS a (X k)).2 = bits .or .u8 _ (mf a (X k) : Int)
    rw [mf_eq]) n
  generalize hS : orN (fun k => orL [mf a (X k)]) n = NS at Sc
  have hSl : D ||| NA ||| NR ||| NS < 256 := by rw [← hS]; exact Nat.or_lt_two_pow (n := 8) hRl (orN_lt _ (fun k => orL_lt _ (mS k)) n)
  rw [Sc]
  have mU : ∀ k, ∀ q ∈ [af (asuV X k) (X k % 9223372036854775808)], q < 256 := fun k => mem _ _ nil (l4 k)
  have Us := foldC (asuF ((D ||| NA ||| NR ||| NS : Nat) : Int) X) _ mU (D ||| NA ||| NR ||| NS) hSl rfl (fun k => by
    show bits .or .u8 _ (addS (asuV X k) (X k % 9223372036854775808)).2 = bits .or .u8 _ (af (asuV X k) (X k % 9223372036854775808) : Int)
    rw [e4]) n
  generalize hU : orN (fun k => orL [af (asuV X k) (X k % 9223372036854775808)]) n = NU at Us
  rw [Us]
  have mT : ∀ k, ∀ q ∈ [mf a (X k), af (mulS a (X k)).1 (Y k), mf a (X k), mf s (Y k), af (mulS a (X k)).1 (mulS s (Y k)).1, mf a (Y k), mf s (X k), af (mulS a (Y k)).1 (wFlip (mulS s (X k)).1)], q < 256 := fun k => mem _ _ (mem _ _ (mR k) (l1 k)) (mf_lt _ _)
  have St := foldC (stpF (D : Int) a s X Y) _ mT D hD2 rfl (fun k => by
    show bits .or .u8 (bits .or .u8 (bits .or .u8 (bits .or .u8 (bits .or .u8 (bits .or .u8 (bits .or .u8 (bits .or .u8 _ (mulS a (X k)).2) (addS (mulS a (X k)).1 (Y k)).2) (mulS a (X k)).2) (mulS s (Y k)).2) (addS (mulS a (X k)).1 (mulS s (Y k)).1).2) (mulS a (Y k)).2) (mulS s (X k)).2) (addS (mulS a (Y k)).1 (wFlip (mulS s (X k)).1)).2 = bits .or .u8 (bits .or .u8 (bits .or .u8 (bits .or .u8 (bits .or .u8 (bits .or .u8 (bits .or .u8 (bits .or .u8 _ (mf a (X k) : Int)) (af (mulS a (X k)).1 (Y k) : Int)) (mf a (X k) : Int)) (mf s (Y k) : Int)) (af (mulS a (X k)).1 (mulS s (Y k)).1 : Int)) (mf a (Y k) : Int)) (mf s (X k) : Int)) (af (mulS a (Y k)).1 (wFlip (mulS s (X k)).1) : Int)
    rw [mf_eq, mf_eq, mf_eq, mf_eq, e1, e2, e3]) n
  have hT : orN (fun k => orL [mf a (X k), af (mulS a (X k)).1 (Y k), mf a (X k), mf s (Y k), af (mulS a (X k)).1 (mulS s (Y k)).1, mf a (Y k), mf s (X k), af (mulS a (Y k)).1 (wFlip (mulS s (X k)).1)]) n = NA ||| NR := by
    rw [← hA, ← hR, ← orN_or]
    congr 1
    funext k
    simp only [orL, Nat.or_zero, Nat.or_assoc]
  rw [hT] at St
  have hTl : D ||| (NA ||| NR) < 256 := by rw [← Nat.or_assoc]; exact hRl
  rw [St]
  have mM : ∀ k, ∀ q ∈ [mf a (X k), af (asuV X k) (X k % 9223372036854775808)], q < 256 := fun k => mem _ _ (mU k) (mf_lt _ _)
  have Mx := foldC (mixF ((D ||| (NA ||| NR) : Nat) : Int) a X) _ mM (D ||| (NA ||| NR)) hTl rfl (fun k => by
    show bits .or .u8 (bits .or .u8 _ (mulS a (X k)).2) (addS (asuV X k) (X k % 9223372036854775808)).2 = bits .or .u8 (bits .or .u8 _ (mf a (X k) : Int)) (af (asuV X k) (X k % 9223372036854775808) : Int)
    rw [mf_eq, e4]) n
  have hM : orN (fun k => orL [mf a (X k), af (asuV X k) (X k % 9223372036854775808)]) n = NS ||| NU := by
    rw [← hS, ← hU, ← orN_or]
    congr 1
    funext k
    simp only [orL, Nat.or_zero]
  rw [hM] at Mx
  rw [Mx]
  simp only [Nat.or_assoc]
/-- A region's condition may become stronger on the way. -/
theorem wpAnyH_strong {P : Program} {ops : Array Oper} {Q : Exit → Act → World → Prop} {md : Region.Mode} {S S' : World → Prop} (hSS : ∀ w, S' w → S w) : ∀ (fuel : Nat) (listed : Array Bool) (a : Act) (w : World), wpAnyH P md ops Q S' fuel listed a w → wpAnyH P md ops Q S fuel listed a w
  | 0, _, _, _, h => h
  | fuel + 1, _, _, _, h => ⟨h.1, fun i hi => wpOp_mono (fun a' w' h' => ⟨hSS _ h'.1, wpAnyH_strong hSS fuel _ a' w' h'.2⟩) (h.2 i hi)⟩
end Go.Proofs.Ytokgfeeaoioegaa
