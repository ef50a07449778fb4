/-
  What vec's Unit, Scal, Asum and Axpy return: new rows, filled one place behind the other. Conditions: the lists lie beside the Calc; at most a million numbers.
-/
import Derived.Test.YtokgfeeaoioegaaVecC
import Derived.Test.YtokgfeeaoioegaaMoreC
import Derived.Test.YtokgfeeaoioegaaPowM
namespace Go.Proofs.Ytokgfeeaoioegaa
open Go.RowKit
set_option linter.unusedVariables false

/-- Block g is a new row of n words, of which the first k are Z's. -/
def Row1 (w : World) (g n k : Nat) (Z : Nat → Int) : Prop := ∃ xs : List Int, RowU w g xs ∧ xs.length = n ∧ ∀ i, i < k → xs[i]?.getD 0 = Z i
theorem Row1.new (w : World) (n : Nat) (Z : Nat → Int) : Row1 (w.alloc (.cells ((List.replicate n (0 : Int)).map (Value.int .u64)).toArray 26)) w.heap.size n 0 Z :=
  ⟨List.replicate n 0, heap_alloc_new w _, List.length_replicate, fun i h => absurd h (Nat.not_lt_zero i)⟩
theorem Row1.lt {w : World} {g n k : Nat} {Z : Nat → Int} (h : Row1 w g n k Z) : g < w.heap.size := by obtain ⟨xs, h1, _⟩ := h; exact h1.lt
theorem Row1.at {w : World} {g n k : Nat} {Z : Nat → Int} (h : Row1 w g n k Z) (i : Nat) (hi : i < n) : ∃ z, w.cell? ⟨g, i, none⟩ = some (.int .u64 z) ∧ w.frozen? ⟨g, i, none⟩ = false := by
  obtain ⟨xs, h1, h2, h3⟩ := h
  exact ⟨_, h1.cell i (by omega), h1.frozen i⟩
theorem Row1.set {w : World} {g n k : Nat} {Z : Nat → Int} (h : Row1 w g n k Z) (hk : k < n) {z : Int} (hz : z = Z k) : Row1 (w.setCell ⟨g, k, none⟩ (.int .u64 z)) g n (k + 1) Z := by
  obtain ⟨xs, h1, h2, h3⟩ := h
  refine ⟨xs.set k z, h1.set k z, by rw [List.length_set]; exact h2, fun i hi => ?_⟩
  rw [List.getElem?_set]
  by_cases e : k = i
  · subst e
    rw [if_pos rfl, if_pos (by omega)]
    exact hz
  · rw [if_neg e]
    exact h3 i (by omega)
theorem Row1.put {w : World} {g n k : Nat} {Z : Nat → Int} (h : Row1 w g n k Z) {p : Addr} (hp : p.block ≠ g) (u : Value) : Row1 (w.setCell p u) g n k Z := by
  obtain ⟨xs, h1, h2⟩ := h
  refine ⟨xs, ?_, h2⟩
  unfold RowU
  rw [Below.heap_setCell _ _ _ _ (Ne.symm hp)]
  exact h1
theorem Row1.below {w w' : World} {g n k : Nat} {Z : Nat → Int} (h : Row1 w g n k Z) (hb : Below w.heap.size w w') : Row1 w' g n k Z := by
  obtain ⟨xs, h1, h2⟩ := h
  exact ⟨xs, h1.below hb, h2⟩
theorem Row1.bes {w w' : World} {c : Option Nat} {g n k : Nat} {Z : Nat → Int} (h : Row1 w g n k Z) (hb : Bes c w w') (hc : c ≠ some g) : Row1 w' g n k Z := by
  obtain ⟨xs, h1, h2⟩ := h
  exact ⟨xs, h1.bes hb hc, h2⟩
theorem Row1.drew {w : World} {g n k : Nat} {Z : Nat → Int} (h : Row1 w g n k Z) : Row1 w.drew g n k Z := h
theorem Row1.row {w : World} {g n : Nat} {Z : Nat → Int} (h : Row1 w g n n Z) (hn : n ≤ 1000000) (hz : ∀ i, 0 ≤ Z i ∧ Z i < 18446744073709551616) : URow w (some ⟨g, 0, none⟩) n n Z := by
  obtain ⟨xs, h1, h2, h3⟩ := h
  refine ⟨Nat.le_refl _, by unfold maxLen; omega, hz, fun hp => ⟨g, 0, rfl, h1.lt, fun i hi => ?_⟩⟩
  rw [Nat.zero_add, h1.cell i (by omega), h3 i hi]
set_option maxHeartbeats 1000000 in
theorem vUnit (a : Option Addr) (n cap : Nat) (X : Nat → Int) (e : Int) (w : World) (hx : URow w a n cap X) (hn : n ≤ 1000000) (e0 : -9223372036854775808 ≤ e) (e1 : e ≤ 9223372036854775807) :
    Calls Try.prog 55 #[.slice a n cap, .int .i64 e] w fun r w' => r = .returned (.slice (some ⟨w.heap.size, 0, none⟩) n n) ∧ URow w' (some ⟨w.heap.size, 0, none⟩) n n (unitS X (max e (-9223372036854775807))) ∧ Below w.heap.size w w' := by
  have HX : Hid (URow w a n cap X) := hx
  have hR : ∀ E i, 0 ≤ unitS X E i ∧ unitS X E i < 18446744073709551616 := fun E i => ⟨(scaleS_bd _ _ (hx.2.2.1 i).1 (hx.2.2.1 i).2).1, (scaleS_bd _ _ (hx.2.2.1 i).1 (hx.2.2.1 i).2).2.1⟩
  have HR : Hid (∀ E i, 0 ≤ unitS X E i ∧ unitS X E i < 18446744073709551616) := hR
  have mk := mk_run n hn
  obtain ⟨O, hO⟩ : ∃ O, O = ((List.replicate n (0 : Int)).map (Value.int .u64)).toArray := ⟨_, rfl⟩
  have HO : Hid (Row1 (w.alloc (.cells O 26)) w.heap.size n 0 (unitS X (max e (-9223372036854775807)))) := by rw [hO]; exact Row1.new w n _
  rw [← hO] at mk
  clear hx hO hR
  obtain ⟨E, hE⟩ : ∃ E, max e (-9223372036854775807) = E := ⟨_, rfl⟩
  rw [hE] at HO ⊢
  have hE0 : -9223372036854775807 ≤ E := by omega
  have hE1 : E ≤ 9223372036854775807 := by omega
  go_enter Try.func55, Try.ntmps55
  go_wp2
  · obtain rfl : E = -9223372036854775807 := by omega
    clear hE hE0 hE1
    go_loopw [15] (fun i wr => ∃ k : Nat, i = .int .i64 (k : Int) ∧ k ≤ n ∧ Hid (Row1 wr w.heap.size n k (unitS X (-9223372036854775807))) ∧ Hid (Below w.heap.size w wr)) (fun i _ => n - (intOf i).toNat)
    case atStart => exact ⟨0, rfl, Nat.zero_le _, HO.out, (Below.refl _ _).alloc (Nat.le_refl _) _⟩
    case round =>
      obtain ⟨k, rfl, hk, R, B⟩ := hrel
      by_cases hlt : (k : Int) < (n : Int)
      · obtain ⟨_, _, zx, fx⟩ := HX.out.below B.out
        obtain ⟨b1, o1, rfl, l1, x1⟩ := fx (by omega)
        have q1 := x1 k (by omega)
        obtain ⟨x0, x2⟩ := zx k
        obtain ⟨z, q2, q3⟩ := R.out.at k (by omega)
        clear zx fx x1
        have SV : Hid ((scaleS (X k) 9223372036854775807).1 = unitS X (-9223372036854775807) k) := rfl
        obtain ⟨x, hx⟩ : ∃ x, X k = x := ⟨_, rfl⟩
        rw [hx] at q1 x0 x2 SV
        clear hx
        go_wp2_with fail
        refine (mScale x 9223372036854775807 _ x0 x2 (by omega) (by omega)).mono ?_
        rintro e w1 ⟨rfl, hb1⟩
        have q2' := (hb1.cell (p := ⟨w.heap.size, k, none⟩) R.out.lt).trans q2
        have q3' := (hb1.frozen (p := ⟨w.heap.size, k, none⟩) R.out.lt).trans q3
        have R1 : Hid (Row1 _ _ _ _ _) := R.out.below hb1
        have B1 : Hid (Below _ _ _) := B.out.trans (hb1.mono B.out.size)
        clear q2 q3 hb1 R B
        go_wp2
        go_roundw
        case rel => exact ⟨k + 1, by go_num, by omega, R1.out.set (by omega) SV.out, B1.out.setCell (Nat.le_refl _) _⟩
        case measure => simp [intOf]; omega
      · obtain rfl : k = n := by omega
        go_wp2
        go_ret
        exact ⟨ret_eq rfl, R.out.row hn (HR.out _), B.out⟩
  · obtain rfl : E = e := by omega
    clear hE hE1
    go_loopw [15] (fun i wr => ∃ k : Nat, i = .int .i64 (k : Int) ∧ k ≤ n ∧ Hid (Row1 wr w.heap.size n k (unitS X E)) ∧ Hid (Below w.heap.size w wr)) (fun i _ => n - (intOf i).toNat)
    case atStart => exact ⟨0, rfl, Nat.zero_le _, HO.out, (Below.refl _ _).alloc (Nat.le_refl _) _⟩
    case round =>
      obtain ⟨k, rfl, hk, R, B⟩ := hrel
      by_cases hlt : (k : Int) < (n : Int)
      · obtain ⟨_, _, zx, fx⟩ := HX.out.below B.out
        obtain ⟨b1, o1, rfl, l1, x1⟩ := fx (by omega)
        have q1 := x1 k (by omega)
        obtain ⟨x0, x2⟩ := zx k
        obtain ⟨z, q2, q3⟩ := R.out.at k (by omega)
        clear zx fx x1
        have SV : Hid ((scaleS (X k) (-E)).1 = unitS X E k) := rfl
        obtain ⟨x, hx⟩ : ∃ x, X k = x := ⟨_, rfl⟩
        rw [hx] at q1 x0 x2 SV
        clear hx
        go_wp2_with fail
        refine (mScale x (-E) _ x0 x2 (by omega) (by omega)).mono ?_
        rintro r w1 ⟨rfl, hb1⟩
        have q2' := (hb1.cell (p := ⟨w.heap.size, k, none⟩) R.out.lt).trans q2
        have q3' := (hb1.frozen (p := ⟨w.heap.size, k, none⟩) R.out.lt).trans q3
        have R1 : Hid (Row1 _ _ _ _ _) := R.out.below hb1
        have B1 : Hid (Below _ _ _) := B.out.trans (hb1.mono B.out.size)
        clear q2 q3 hb1 R B
        go_wp2
        go_roundw
        case rel => exact ⟨k + 1, by go_num, by omega, R1.out.set (by omega) SV.out, B1.out.setCell (Nat.le_refl _) _⟩
        case measure => simp [intOf]; omega
      · obtain rfl : k = n := by omega
        go_wp2
        go_ret
        exact ⟨ret_eq rfl, R.out.row hn (HR.out _), B.out⟩
/-- The sum of all without their signs, and its flags. -/
def asuV (X : Nat → Int) : Nat → Int
  | 0 => 0
  | k + 1 => (addS (asuV X k) (X k % 9223372036854775808)).1
def asuF (F : Int) (X : Nat → Int) : Nat → Int
  | 0 => F
  | k + 1 => bits .or .u8 (asuF F X k) (addS (asuV X k) (X k % 9223372036854775808)).2
theorem asuV_rng (X : Nat → Int) (n : Nat) : 0 ≤ asuV X n ∧ asuV X n < 18446744073709551616 := by
  induction n with
  | zero => exact ⟨show (0 : Int) ≤ 0 by decide, show (0 : Int) < 18446744073709551616 by decide⟩
  | succ n ih =>
    have := addS_bd (asuV X n) (X n % 9223372036854775808) ih.1 ih.2 (by omega) (by omega)
    exact ⟨this.1, this.2.1⟩
set_option maxHeartbeats 1000000 in
theorem vAsum (p : Value) (c : Option Nat) (F : Int) (a : Option Addr) (n cap : Nat) (X : Nat → Int) (w : World) (hc : IsCalc w p c F) (hx : URow w a n cap X) (ax : Apt c a n) :
    Calls Try.prog 49 #[p, .slice a n cap] w fun e w' => e = .returned (.int .u64 (asuV X n)) ∧ IsCalc w' p c (asuF F X n) ∧ Bes c w w' := by
  have HC : Hid (IsCalc w p c F) := hc
  have HX : Hid (URow w a n cap X) := hx
  have AX : Hid (Apt c a n) := ax
  have hn : (n : Int) ≤ 9223372036854775807 := by have := hx.1; have := hx.2.1; unfold maxLen at this; omega
  clear hc hx ax
  go_enter Try.func49, Try.ntmps49
  go_wp2
  go_loopw [5, 10] (fun s i wr => ∃ k : Nat, s = .int .u64 (asuV X k) ∧ i = .int .i64 (k : Int) ∧ k ≤ n ∧ Hid (IsCalc wr p c (asuF F X k)) ∧ Hid (Bes c w wr)) (fun _ i _ => n - (intOf i).toNat)
  case atStart => exact ⟨0, rfl, rfl, Nat.zero_le _, HC, Bes.refl _ _⟩
  case round =>
    obtain ⟨k, rfl, rfl, hk, C, B⟩ := hrel
    by_cases hlt : (k : Int) < (n : Int)
    · obtain ⟨_, _, zx, fx⟩ := HX.out.bes B.out AX.out
      obtain ⟨b1, o1, rfl, l1, e1⟩ := fx (by omega)
      have q1 := e1 k (by omega)
      obtain ⟨x0, x1⟩ := zx k
      obtain ⟨d0, d1⟩ := asuV_rng X k
      clear zx fx e1
      have SV : Hid ((addS (asuV X k) (X k % 9223372036854775808)).1 = asuV X (k + 1)) := rfl
      have SF : Hid (bits .or .u8 (asuF F X k) (addS (asuV X k) (X k % 9223372036854775808)).2 = asuF F X (k + 1)) := rfl
      obtain ⟨x, hx⟩ : ∃ x, X k = x := ⟨_, rfl⟩
      obtain ⟨d, hd⟩ : ∃ d, asuV X k = d := ⟨_, rfl⟩
      obtain ⟨F1, hF⟩ : ∃ d, asuF F X k = d := ⟨_, rfl⟩
      rw [hx] at q1 x0 x1 SV SF
      rw [hd] at d0 d1 SV SF ⊢
      rw [hF] at C SF
      clear hx hd hF
      go_wp2_with fail
      refine (abs_any x _ x0 x1).mono ?_
      rintro e w1 ⟨rfl, rfl⟩
      obtain ⟨y, hy⟩ : ∃ y, x % 9223372036854775808 = y := ⟨_, rfl⟩
      have y0 : 0 ≤ y := by omega
      have y1 : y < 18446744073709551616 := by omega
      rw [hy] at SV SF ⊢
      clear hy
      go_wp2_with fail
      refine (uAdd p c d y _ _ C.out d0 d1 y0 y1).mono ?_
      rintro e w2 ⟨rfl, C2, B2⟩
      rw [SV.out]
      rw [SF.out] at C2
      have HC2 : Hid (IsCalc _ _ _ _) := C2
      have HB2 : Hid (Bes _ _ _) := B.out.trans B2
      clear C2 B2 B C
      go_wp2
      go_roundw
      case rel => exact ⟨k + 1, rfl, by go_num, by omega, HC2, HB2⟩
      case measure => simp [intOf]; omega
    · obtain rfl : k = n := by omega
      go_wp2
      go_ret
      exact ⟨ret_eq rfl, C.out, B.out⟩
/-- The flags of the products of a and X, on top of F. -/
def sclF (F a : Int) (X : Nat → Int) : Nat → Int
  | 0 => F
  | k + 1 => bits .or .u8 (sclF F a X k) (mulS a (X k)).2
def sclV (a : Int) (X : Nat → Int) : Nat → Int := fun i => (mulS a (X i)).1
set_option maxHeartbeats 1000000 in
theorem vScal (p : Value) (c : Option Nat) (F : Int) (f : Int) (a : Option Addr) (n cap : Nat) (X : Nat → Int) (w : World) (hc : IsCalc w p c F) (hx : URow w a n cap X) (ax : Apt c a n) (hn : n ≤ 1000000) (f0 : 0 ≤ f) (f1 : f < 18446744073709551616) :
    Calls Try.prog 47 #[p, .int .u64 f, .slice a n cap] w fun e w' => e = .returned (.slice (some ⟨w.heap.size, 0, none⟩) n n) ∧ URow w' (some ⟨w.heap.size, 0, none⟩) n n (sclV f X) ∧ IsCalc w' p c (sclF F f X n) ∧ Bes c w w' := by
  have HC : Hid (IsCalc w p c F) := hc
  have HX : Hid (URow w a n cap X) := hx
  have AX : Hid (Apt c a n) := ax
  have HG : Hid (c ≠ some w.heap.size) := fun e => absurd (hc.lt _ e) (Nat.lt_irrefl _)
  have HR : Hid (∀ i, 0 ≤ sclV f X i ∧ sclV f X i < 18446744073709551616) := fun i => mulS_rng _ _
  have mk := mk_run n hn
  obtain ⟨O, hO⟩ : ∃ O, O = ((List.replicate n (0 : Int)).map (Value.int .u64)).toArray := ⟨_, rfl⟩
  have HO : Hid (Row1 (w.alloc (.cells O 26)) w.heap.size n 0 (sclV f X)) := by rw [hO]; exact Row1.new w n _
  rw [← hO] at mk
  clear hc hx ax hO
  go_enter Try.func47, Try.ntmps47
  go_wp2
  go_loopw [15] (fun i wr => ∃ k : Nat, i = .int .i64 (k : Int) ∧ k ≤ n ∧ Hid (Row1 wr w.heap.size n k (sclV f X)) ∧ Hid (IsCalc wr p c (sclF F f X k)) ∧ Hid (Bes c w wr)) (fun i _ => n - (intOf i).toNat)
  case atStart => exact ⟨0, rfl, Nat.zero_le _, HO.out, HC.out.later ((Below.refl _ _).alloc (Nat.le_refl _) _), (Bes.refl _ _).alloc _⟩
  case round =>
    obtain ⟨k, rfl, hk, R, C, B⟩ := hrel
    by_cases hlt : (k : Int) < (n : Int)
    · obtain ⟨_, _, zx, fx⟩ := HX.out.bes B.out AX.out
      obtain ⟨b1, o1, rfl, l1, x1⟩ := fx (by omega)
      have q1 := x1 k (by omega)
      obtain ⟨x0, x2⟩ := zx k
      clear zx fx x1
      have SV : Hid ((mulS f (X k)).1 = sclV f X k) := rfl
      have SF : Hid (bits .or .u8 (sclF F f X k) (mulS f (X k)).2 = sclF F f X (k + 1)) := rfl
      obtain ⟨x, hx⟩ : ∃ x, X k = x := ⟨_, rfl⟩
      rw [hx] at q1 x0 x2 SV SF
      clear hx
      go_wp2_with fail
      refine (uMul p c f x _ _ C.out f0 f1 x0 x2).mono ?_
      rintro r w1 ⟨rfl, C1, B1⟩
      rw [SF.out] at C1
      have R1 : Hid (Row1 _ _ _ _ _) := R.out.bes B1 HG.out
      obtain ⟨z, q2, q3⟩ := R1.out.at k (by omega)
      have HC1 : Hid (IsCalc _ _ _ _) := C1
      have HB1 : Hid (Bes _ _ _) := B.out.trans B1
      clear C1 B1 B C R
      go_wp2
      go_roundw
      case rel => exact ⟨k + 1, by go_num, by omega, R1.out.set (by omega) SV.out, HC1.out.bes (Bes.set (c := some w.heap.size) (p := ⟨w.heap.size, k, none⟩) (Bes.refl _ _) (.inr rfl) _) (fun j e e2 => HG.out (e.trans e2.symm)), HB1.out.set (.inl (Nat.le_refl _)) _⟩
      case measure => simp [intOf]; omega
    · obtain rfl : k = n := by omega
      go_wp2
      go_ret
      exact ⟨ret_eq rfl, R.out.row hn HR.out, C.out, B.out⟩
end Go.Proofs.Ytokgfeeaoioegaa
