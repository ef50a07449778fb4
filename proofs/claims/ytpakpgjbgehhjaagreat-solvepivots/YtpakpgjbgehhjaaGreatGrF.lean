/-
  Texts put together: MakeC MakeD CmpC CmpD.
-/
import Derived.Test.YtpakpgjbgehhjaaGreatProg
import Derived.Test.YtpakpgjbgehhjaaGreatGrE
import Derived.Test.YtpakpgjbgehhjaaGreatGrA
import Derived.Test.YtpakpgjbgehhjaaGreatGrC
/-
  What ofWord, Of, Int and Two of package dyad return. Conditions: exponents are small (Two: any).
-/
namespace Go.Proofs.YtpakpgjbgehhjaaGreat
open Go.RowKit
set_option linter.unusedVariables false

theorem SeesU.two (w : World) (x y : Int) : SeesU (w.alloc (.cells #[.int .u64 x, .int .u64 y] 36)) (.slice (some ⟨w.heap.size, 0, none⟩) 2 2) [x, y] := by
  refine ⟨w.heap.size, 0, 2, rfl, by simp, Nat.le_refl _, by unfold maxLen; omega, fun i hi => ?_⟩
  have : i = 0 ∨ i = 1 := by simp at hi; omega
  rcases this with rfl | rfl <;> (rw [World.cell?_alloc_at _ _ _ _ rfl]; rfl)
theorem SeesU.two' (w : World) (b : Nat) (x y : Int) (hb : b = w.heap.size) : SeesU (w.alloc (.cells #[.int .u64 x, .int .u64 y] 36)) (.slice (some ⟨b, 0, none⟩) 2 2) [x, y] := hb ▸ SeesU.two w x y
theorem ofw_math (x e h l : Int) (k : Nat) (x0 : 0 ≤ x) (x1 : x < 18446744073709551616) (h0 : 0 ≤ h) (l0 : 0 ≤ l) (K : wid h l = 2 ^ (e % 64).toNat * wid 0 x % 2 ^ 128) (hk : -(64 * (k : Int)) ≤ e) :
    dv [l, h] * pw (e / 64 + k).toNat = x * ((2 ^ (e + 64 * k).toNat : Nat) : Int) := by
  obtain ⟨X, rfl⟩ := Int.eq_ofNat_of_zero_le x0
  obtain ⟨r, hr⟩ : ∃ r : Nat, (e % 64).toNat = r := ⟨_, rfl⟩
  have hr64 : r < 64 := by omega
  rw [hr] at K
  have hX : wid 0 (X : Int) = X := by unfold wid; omega
  rw [hX] at K
  have hp : 2 ^ r ≤ 2 ^ 63 := Nat.pow_le_pow_right (by decide) (by omega)
  have hlt : 2 ^ r * X < 2 ^ 128 := by
    have : 2 ^ r * X ≤ 2 ^ 63 * X := Nat.mul_le_mul_right _ hp
    omega
  rw [Nat.mod_eq_of_lt hlt] at K
  have e1 : dv [l, h] = ((2 ^ r * X : Nat) : Int) := by
    rw [← K, dv_cons, dv_cons, dv_nil]; unfold wid; omega
  rw [e1, pw_two, show (e + 64 * (k : Int)).toNat = r + 64 * (e / 64 + k).toNat by omega, Nat.pow_add]
  rw [Int.natCast_mul, Int.natCast_mul]
  grind
set_option maxHeartbeats 1000000 in
theorem dOfWord (neg : Bool) (x e : Int) (w : World) (x0 : 0 ≤ x) (x1 : x < 18446744073709551616) (e0 : -2000000 ≤ e) (e1 : e ≤ 2000000) :
    Calls Tryz.prog 47 #[.bool neg, .int .u64 x, .int .i64 e] w fun r w' => ∃ v, r = .returned v ∧ (∀ (k : Nat) (L : Int), -(64 * (k : Int)) ≤ e → e / 64 + 2 ≤ L → 0 ≤ L → Tell w' w.heap.size v k L (sg neg * (x * ((2 ^ (e + 64 * k).toNat : Nat) : Int)))) ∧ Below w.heap.size w w' := by
  have a63 := and_63_i e
  go_enter Tryz.func47, Tryz.ntmps47
  go_wp2_with fail
  refine (wLeft _ _ _ _ (by omega) (by omega) x0 x1 (by omega)).mono ?_
  rintro r w1 ⟨h, l, rfl, k0, k1, k2, k3, k4, hb1⟩
  have hx0 : Below w.heap.size w w1 := Below.trans (by repeat (first | exact Below.refl _ _ | (refine Below.alloc ?_ (by simp <;> omega) _))) (hb1.mono (by simp <;> omega))
  obtain ⟨hc, hf⟩ := bcell hb1
  have hz : w.heap.size < w1.heap.size := by have := hb1.size; simp at this; omega
  have hy : w.heap.size < w1.heap.size + 1 := by omega
  have hy' : w.heap.size < w1.heap.size + 1 + 1 := by omega
  have hy'' : ¬ w.heap.size = w1.heap.size := by omega
  have hy3 : ¬ w.heap.size = w1.heap.size + 1 := by omega
  have K4 : Hid (_ = _) := k4
  clear k4 hb1
  go_wp2_with fail
  go_region_held3 (fun w' => w'.cell? ⟨w1.heap.size, 0, none⟩ = some (.int .u64 h) ∧ w'.cell? ⟨w1.heap.size, 1, none⟩ = some (.int .u64 l)) (simp [go_sem, *]) (first | (go_at_call 66; refine (dPlaceOf _ _ (by omega) (by omega)).mono ?_; rintro e w2 ⟨rfl, hb2⟩; obtain ⟨hc2, hf2⟩ := bcell hb2; have hz2 : w1.heap.size < w2.heap.size := (by have := hb2.size; simp at this; omega); have hy2 : w.heap.size < w2.heap.size := (by omega); have hy9 : w.heap.size < w2.heap.size + 1 := (by omega); have hy8 : ¬ w.heap.size = w2.heap.size := (by omega); have hx2 : Below w.heap.size w w2 := (Below.trans (by repeat (first | exact hx0 | (refine Below.drew ?_) | (refine Below.alloc ?_ (by first | omega | (simp <;> omega)) _) | (refine Below.setCell ?_ (by first | omega | (simp <;> omega)) _) | exact Below.refl _ _)) (hb2.mono (by first | omega | (simp <;> omega))))) | (go_at_call 38; refine (dTrim neg _ 0 2 (w.heap.size + 1) [l, h] _ _ (by first | exact (SeesU.two' _ _ _ _ (by simp)).below ((Below.refl _ _).drew.trans hb2) | exact SeesU.two' _ _ _ _ (by simp) | exact (SeesU.two' _ _ _ _ (by simp)).below hb2 | exact (SeesU.two' _ _ _ _ (by simp)).below (Below.refl _ _).drew) (InW.mk k2 k3 (InW.mk k0 k1 InW.nil)) (by simp) (by first | omega | (simp <;> omega)) (by omega) (by omega)).mono ?_; rintro e w3 ⟨v, rfl, ht, hb3⟩; obtain ⟨neg', a', n', c', p', rfl⟩ := (ht 40000 40000 (by omega) (by simp; omega) (by omega)).form; have T : Hid (∀ (k : Nat) (L : Int), _) := ht; clear ht; obtain ⟨hc3, hf3⟩ := bcell hb3; have hz3 : w1.heap.size < w3.heap.size := (by have := hb3.size; first | omega | (simp at this; omega)); have hyy3 : w.heap.size < w3.heap.size := (by omega); have hx3 : Below w.heap.size w w3 := (Below.trans (by repeat (first | exact hx2 | (refine Below.drew ?_) | (refine Below.alloc ?_ (by first | omega | (simp <;> omega)) _) | (refine Below.setCell ?_ (by first | omega | (simp <;> omega)) _) | exact Below.refl _ _)) (hb3.mono (by first | omega | (simp <;> omega))))))
  all_goals
    go_wp2
    refine bodyPost_ret (v := .agg #[.bool neg', .slice a' n' c', .int .i64 p', .slice none 0 0]) (by simp [results, Tryz.results47, go_sem, *]) rfl ⟨_, rfl, ?_, (by repeat (first | exact hx3 | (refine Below.drew ?_) | (refine Below.alloc ?_ (by first | omega | (simp <;> omega)) _) | (refine Below.setCell ?_ (by first | omega | (simp <;> omega)) _) | exact Below.refl _ _))⟩
    intro k L g1 g2 g3
    have t := (T.out k L (by omega) (by simp; omega) g3).eq (congrArg (sg neg * ·) (ofw_math x e h l k x0 x1 k0 k2 K4.out g1))
    refine Tell.base (b := w.heap.size + 1) ?_ (by omega)
    repeat (first | exact t | (refine Tell.set ?_ (by simp) _))
end Go.Proofs.YtpakpgjbgehhjaaGreat

/-
  What Of, Int and Two of package dyad return: the number of a pattern, a whole number, a power of two. Conditions: Two's exponent is small.
-/
namespace Go.Proofs.YtpakpgjbgehhjaaGreat
open Go.RowKit
set_option linter.unusedVariables false

/-- A pattern's number, times 2^1088; of what is none: 0. -/
def xv (b : Int) : Int := if mag b < 9218868437227405312 then sv b * 16384 else 0
theorem of_math (b : Int) (hf : mag b < 9218868437227405312) : sg (sgn b) * (wMant b * ((2 ^ (wPow b + 64 * (17 : Nat)).toNat : Nat) : Int)) = sv b * 16384 := by
  obtain ⟨p1, p2, p3, p4⟩ := parts_bd b
  have e : wMant b * ((2 ^ (wPow b + 64 * (17 : Nat)).toNat : Nat) : Int) = ((V (mag b) : Nat) : Int) * 16384 := by
    rw [parts_V b hf, show (wPow b + 64 * ((17 : Nat) : Int)).toNat = (wPow b + 1074).toNat + 14 by omega, Nat.pow_add, Int.natCast_mul, Int.natCast_mul, show ((wMant b).toNat : Int) = wMant b by omega]
    generalize ((2 ^ (wPow b + 1074).toNat : Nat) : Int) = q
    rw [show ((2 ^ 14 : Nat) : Int) = 16384 from rfl, Int.mul_assoc]
  rw [e]
  unfold sv sg
  cases sgn b
  · simp
  · simp [Int.neg_mul]
set_option maxHeartbeats 1000000 in
theorem dOf (b : Int) (w : World) (h0 : 0 ≤ b) (h1 : b < 18446744073709551616) :
    Calls Tryz.prog 37 #[.int .u64 b] w fun e w' => ∃ v, e = .returned (.tuple #[v, .bool (decide (mag b < 9218868437227405312))]) ∧ Tell w' w.heap.size v 17 17 (xv b) ∧ Below w.heap.size w w' := by
  obtain ⟨p1, p2, p3, p4⟩ := parts_bd b
  by_cases hf : mag b < 9218868437227405312
  · have hf' : b / 4503599627370496 % 2048 < 2047 := (fin_mag b).2 hf
    have OM : Hid (_ = _) := of_math b hf
    have XV : Hid (xv b = sv b * 16384) := if_pos hf
    have SG : Hid (decide (9223372036854775808 ≤ b) = sgn b) := rfl
    have HD : Hid (decide (mag b < 9218868437227405312) = true) := decide_eq_true hf
    clear hf
    go_enter Tryz.func37, Tryz.ntmps37
    go_wp2_with (first | (go_at_call 10; refine (finite_any _ _ h0 h1).mono ?_; rintro e w' ⟨rfl, rfl⟩) | (go_at_call 65; refine (parts_any _ _ h0 h1).mono ?_; rintro e w' ⟨rfl, rfl⟩) | (go_at_call 24; refine (neg_any _ _ h0 h1).mono ?_; rintro e w' ⟨rfl, rfl⟩; rw [SG.out]) | fail)
    refine (dOfWord _ _ _ _ p1 (by omega) (by omega) (by omega)).mono ?_
    rintro r w1 ⟨v, rfl, ht, hb1⟩
    have t := ht 17 17 (by omega) (by omega) (by omega)
    rw [OM.out, ← XV.out] at t
    obtain ⟨neg', a', n', c', p', rfl⟩ := t.form
    have T : Hid (Tell _ _ _ _ _ _) := t
    have hx : Below w.heap.size w w1 := Below.trans (by repeat (first | (refine Below.drew ?_) | (refine Below.alloc ?_ (by first | omega | (simp <;> omega)) _) | (refine Below.setCell ?_ (by first | omega | (simp <;> omega)) _) | exact Below.refl _ _)) (hb1.mono (by first | omega | (simp <;> omega)))
    obtain ⟨hc, hf⟩ := bcell hb1
    have hz : w.heap.size < w1.heap.size := by have := hb1.size; simp at this; omega
    clear t ht hb1
    go_wp2
    refine bodyPost_ret (v := .tuple #[.agg #[.bool neg', .slice a' n' c', .int .i64 p', .slice none 0 0], .bool true]) (by simp [results, Tryz.results37, go_sem, *]) rfl ⟨_, by rw [HD.out], ?_, (by repeat (first | exact hx | (refine Below.drew ?_) | (refine Below.alloc ?_ (by first | omega | (simp <;> omega)) _) | (refine Below.setCell ?_ (by first | omega | (simp <;> omega)) _) | exact Below.refl _ _))⟩
    refine Tell.base (b := w.heap.size + 1) ?_ (by omega)
    repeat (first | exact T.out.base (by simp) | (refine Tell.set ?_ (by simp) _))
  · have hf' : ¬ b / 4503599627370496 % 2048 < 2047 := fun g => hf ((fin_mag b).1 g)
    have hd' : decide (b / 4503599627370496 % 2048 < 2047) = false := decide_eq_false hf'
    have XV : Hid (xv b = 0) := if_neg hf
    have HD : Hid (decide (mag b < 9218868437227405312) = false) := decide_eq_false hf
    clear hf
    go_enter Tryz.func37, Tryz.ntmps37
    go_wp2_with (first | (go_at_call 10; refine (finite_any _ _ h0 h1).mono ?_; rintro e w' ⟨rfl, rfl⟩) | fail)
    refine bodyPost_ret (v := .tuple #[.agg #[.bool false, .slice none 0 0, .int .i64 0, .slice none 0 0], .bool false]) (by simp [results, Tryz.results37, go_sem, *]) rfl ⟨_, by rw [HD.out], ?_, (by repeat (first | (refine Below.drew ?_) | (refine Below.alloc ?_ (by first | omega | (simp <;> omega)) _) | (refine Below.setCell ?_ (by first | omega | (simp <;> omega)) _) | exact Below.refl _ _))⟩
    rw [XV.out]
    exact Tell.zero _ _ _ _ _ (by omega)
set_option maxHeartbeats 1000000 in
theorem dInt (n : Int) (w : World) (h0 : -9223372036854775808 ≤ n) (h1 : n ≤ 9223372036854775807) :
    Calls Tryz.prog 19 #[.int .i64 n] w fun e w' => ∃ v, e = .returned v ∧ Tell w' w.heap.size v 0 2 n ∧ Below w.heap.size w w' := by
  have key : ∀ (neg : Bool) (x : Int), sg neg * (x * ((2 ^ ((0 : Int) + 64 * (0 : Nat)).toNat : Nat) : Int)) = sg neg * x := by intro neg x; simp
  have KE : Hid (∀ (neg : Bool) (x : Int), sg neg * (x * ((2 ^ ((0 : Int) + 64 * (0 : Nat)).toNat : Nat) : Int)) = sg neg * x) := key
  clear key
  by_cases hn : n < 0
  · have w1 : IntKind.u64.wrap n = n + 18446744073709551616 := by rw [IntKind.wrap_u64]; omega
    have w2 : IntKind.u64.wrap (-(n + 18446744073709551616)) = -n := by rw [IntKind.wrap_u64]; omega
    go_enter Tryz.func19, Tryz.ntmps19
    go_wp2_with fail
    refine (dOfWord _ _ _ _ (by omega) (by omega) (by omega) (by omega)).mono ?_
    rintro r w1 ⟨v, rfl, ht, hb1⟩
    have t := ht 0 2 (by omega) (by omega) (by omega)
    rw [KE.out] at t
    obtain ⟨neg', a', n', c', p', rfl⟩ := t.form
    have T : Hid (Tell _ _ _ _ _ _) := t
    have hx : Below w.heap.size w w1 := Below.trans (by repeat (first | (refine Below.drew ?_) | (refine Below.alloc ?_ (by first | omega | (simp <;> omega)) _) | (refine Below.setCell ?_ (by first | omega | (simp <;> omega)) _) | exact Below.refl _ _)) (hb1.mono (by first | omega | (simp <;> omega)))
    obtain ⟨hc, hf⟩ := bcell hb1
    have hz : w.heap.size < w1.heap.size := by have := hb1.size; simp at this; omega
    clear t ht hb1
    go_wp2
    refine bodyPost_ret (v := .agg #[.bool neg', .slice a' n' c', .int .i64 p', .slice none 0 0]) (by simp [results, Tryz.results19, go_sem, *]) rfl ⟨_, rfl, ?_, (by repeat (first | exact hx | (refine Below.drew ?_) | (refine Below.alloc ?_ (by first | omega | (simp <;> omega)) _) | (refine Below.setCell ?_ (by first | omega | (simp <;> omega)) _) | exact Below.refl _ _))⟩
    refine Tell.base (b := w.heap.size + 1) ?_ (by omega)
    repeat (first | exact (T.out.base (by simp)).eq (by simp [sg]) | (refine Tell.set ?_ (by simp) _))
  · have w1 : IntKind.u64.wrap n = n := by rw [IntKind.wrap_u64]; omega
    go_enter Tryz.func19, Tryz.ntmps19
    go_wp2_with fail
    refine (dOfWord _ _ _ _ (by omega) (by omega) (by omega) (by omega)).mono ?_
    rintro r w1 ⟨v, rfl, ht, hb1⟩
    have t := ht 0 2 (by omega) (by omega) (by omega)
    rw [KE.out] at t
    obtain ⟨neg', a', n', c', p', rfl⟩ := t.form
    have T : Hid (Tell _ _ _ _ _ _) := t
    have hx : Below w.heap.size w w1 := Below.trans (by repeat (first | (refine Below.drew ?_) | (refine Below.alloc ?_ (by first | omega | (simp <;> omega)) _) | (refine Below.setCell ?_ (by first | omega | (simp <;> omega)) _) | exact Below.refl _ _)) (hb1.mono (by first | omega | (simp <;> omega)))
    obtain ⟨hc, hf⟩ := bcell hb1
    have hz : w.heap.size < w1.heap.size := by have := hb1.size; simp at this; omega
    clear t ht hb1
    go_wp2
    refine bodyPost_ret (v := .agg #[.bool neg', .slice a' n' c', .int .i64 p', .slice none 0 0]) (by simp [results, Tryz.results19, go_sem, *]) rfl ⟨_, rfl, ?_, (by repeat (first | exact hx | (refine Below.drew ?_) | (refine Below.alloc ?_ (by first | omega | (simp <;> omega)) _) | (refine Below.setCell ?_ (by first | omega | (simp <;> omega)) _) | exact Below.refl _ _))⟩
    refine Tell.base (b := w.heap.size + 1) ?_ (by omega)
    repeat (first | exact (T.out.base (by simp)).eq (by simp [sg]) | (refine Tell.set ?_ (by simp) _))
/-- What Two counts an exponent as. -/
def clampT (e : Int) : Int := min (max e (-1048576)) 1048576
set_option maxHeartbeats 1000000 in
theorem dTwo (e : Int) (w : World) :
    Calls Tryz.prog 20 #[.int .i64 e] w fun r w' => ∃ v, r = .returned v ∧ (∀ (k : Nat) (L : Int), -(64 * (k : Int)) ≤ clampT e → clampT e / 64 + 2 ≤ L → 0 ≤ L → Tell w' w.heap.size v k L ((2 ^ (clampT e + 64 * k).toNat : Nat) : Int)) ∧ Below w.heap.size w w' := by
  have key : (e < -1048576 ∧ clampT e = -1048576) ∨ (1048576 < e ∧ clampT e = 1048576) ∨ ((-1048576 ≤ e ∧ e ≤ 1048576) ∧ clampT e = e) := by unfold clampT; omega
  rcases key with ⟨h1, h2⟩ | ⟨h1, h2⟩ | ⟨⟨h1, h3⟩, h2⟩
  all_goals
    rw [h2]
    clear h2
    go_enter Tryz.func20, Tryz.ntmps20
    go_wp2_with fail
    refine (dOfWord _ _ _ _ (by omega) (by omega) (by omega) (by omega)).mono ?_
    rintro r w1 ⟨v, rfl, ht, hb1⟩
    obtain ⟨neg', a', n', c', p', rfl⟩ := (ht 40000 40000 (by omega) (by omega) (by omega)).form
    have T : Hid (∀ (k : Nat) (L : Int), _) := ht
    have hx : Below w.heap.size w w1 := Below.trans (by repeat (first | (refine Below.drew ?_) | (refine Below.alloc ?_ (by first | omega | (simp <;> omega)) _) | (refine Below.setCell ?_ (by first | omega | (simp <;> omega)) _) | exact Below.refl _ _)) (hb1.mono (by first | omega | (simp <;> omega)))
    obtain ⟨hc, hf⟩ := bcell hb1
    have hz : w.heap.size < w1.heap.size := by have := hb1.size; simp at this; omega
    clear ht hb1
    go_wp2
    refine bodyPost_ret (v := .agg #[.bool neg', .slice a' n' c', .int .i64 p', .slice none 0 0]) (by simp [results, Tryz.results20, go_sem, *]) rfl ⟨_, rfl, ?_, (by repeat (first | exact hx | (refine Below.drew ?_) | (refine Below.alloc ?_ (by first | omega | (simp <;> omega)) _) | (refine Below.setCell ?_ (by first | omega | (simp <;> omega)) _) | exact Below.refl _ _))⟩
    intro k L g1 g2 g3
    have t := (T.out k L g1 g2 g3).eq (show _ = ((2 ^ (_ + 64 * (k : Int)).toNat : Nat) : Int) by unfold sg; simp only [Bool.false_eq_true, if_false]; rw [Int.one_mul, Int.one_mul])
    refine Tell.base (b := w.heap.size + 1) ?_ (by omega)
    repeat (first | exact t.base (by simp) | (refine Tell.set ?_ (by simp) _))
end Go.Proofs.YtpakpgjbgehhjaaGreat

/-
  What top, cmpFromTop, cmpSizes, Cmp and Same of package dyad return: how two numbers stand. Conditions: lists are short, places small.
-/
namespace Go.Proofs.YtpakpgjbgehhjaaGreat
open Go.RowKit
set_option linter.unusedVariables false
set_option linter.unusedSimpArgs false

theorem dTop (na : Bool) (A1 : Option Addr) (n c : Nat) (p : Int) (w : World) (hn : n ≤ 1000000) (p0 : -1000000 ≤ p) (p1 : p ≤ 1000000) :
    Calls Tryz.prog 73 #[.agg #[.bool na, .slice A1 n c, .int .i64 p, .slice none 0 0]] w fun e w' => e = .returned (.agg #[.int .i64 (p + n), .slice none 0 0]) ∧ Below w.heap.size w w' := by
  go_enter Tryz.func73, Tryz.ntmps73
  go_wp2_with fail
  go_region_held3 (fun w' => w'.cell? ⟨w.heap.size, 1, none⟩ = some (.slice A1 n c) ∧ w'.cell? ⟨w.heap.size, 2, none⟩ = some (.int .i64 p) ∧ w'.cell? ⟨w.heap.size, 3, none⟩ = some (.slice none 0 0)) (simp [go_sem, *]) (first | (go_at_call 66; refine (dPlaceOf _ _ (by omega) (by omega)).mono ?_; rintro e w1 ⟨rfl, hb1⟩; obtain ⟨hc1, hf1⟩ := bcell hb1; have hz1 : w.heap.size + 1 < w1.heap.size := (by have := hb1.size; simp at this; omega); have hy1 : w.heap.size < w1.heap.size := (by omega); have hx1 : Below w.heap.size w w1 := (Below.trans (by repeat (first | (refine Below.drew ?_) | (refine Below.alloc ?_ (by first | omega | (simp <;> omega)) _) | (refine Below.setCell ?_ (by first | omega | (simp <;> omega)) _) | exact Below.refl _ _)) (hb1.mono (by first | omega | (simp <;> omega)))); clear hb1) | (go_at_call 40; refine (dPlus _ _ _ (by omega) (by omega) (by omega) (by omega)).mono ?_; rintro e w2 ⟨rfl, hb2⟩; obtain ⟨hc2, hf2⟩ := bcell hb2; have hz2 : w.heap.size + 1 < w2.heap.size := (by have := hb2.size; omega); have hy2 : w.heap.size < w2.heap.size := (by omega); have hx2 : Below w.heap.size w w2 := (hx1.trans (hb2.mono (by omega))); clear hb2))
  go_wp2
  refine bodyPost_ret (v := .agg #[.int .i64 (p + n), .slice none 0 0]) (by simp [results, Tryz.results73, go_sem, *]) rfl ⟨rfl, (by repeat (first | exact hx2 | (refine Below.drew ?_) | (refine Below.alloc ?_ (by first | omega | (simp <;> omega)) _) | (refine Below.setCell ?_ (by first | omega | (simp <;> omega)) _) | exact Below.refl _ _))⟩
/-- Words with zeros beneath, m in all. -/
def padW (m : Nat) (xs : List Int) : List Int := List.replicate (m - xs.length) 0 ++ xs
theorem pad_len (m : Nat) (xs : List Int) (h : xs.length ≤ m) : (padW m xs).length = m := by unfold padW; simp; omega
theorem pad_dv (m : Nat) (xs : List Int) : dv (padW m xs) = pw (m - xs.length) * dv xs := by
  unfold padW
  rw [dv_append, dv_zeros, List.length_replicate, Int.zero_add]
theorem pad_in (m : Nat) (xs : List Int) (h : InW xs) : InW (padW m xs) := (InW.zeros _).append h
theorem pad_get (m i : Nat) (xs : List Int) (h : xs.length ≤ m) (hi : i < m) : (if (xs.length : Int) - 1 - (i : Int) < 0 then 0 else xs[((xs.length : Int) - 1 - (i : Int)).toNat]?.getD 0) = (padW m xs)[m - 1 - i]?.getD 0 := by
  unfold padW
  rw [List.getElem?_append, List.length_replicate]
  by_cases g : (xs.length : Int) - 1 - (i : Int) < 0
  · rw [if_pos g, if_pos (by omega), List.getElem?_replicate, if_pos (by omega)]; rfl
  · rw [if_neg g, if_neg (by omega), show m - 1 - i - (m - xs.length) = ((xs.length : Int) - 1 - (i : Int)).toNat by omega]
theorem cmp_top (X Y : List Int) (hX : InW X) (hY : InW Y) (m j : Nat) (lX : X.length = m) (lY : Y.length = m) (hj : j < m) (hd : X.drop (j + 1) = Y.drop (j + 1)) (h : X[j]?.getD 0 < Y[j]?.getD 0) : dv X < dv Y := by
  rw [dv_split X (j + 1) (by omega), dv_split Y (j + 1) (by omega), hd, dv_take_succ X j (by omega), dv_take_succ Y j (by omega)]
  have a := dv_lt (hX.take j)
  have b := dv_nonneg (hY.take j)
  rw [List.length_take, Nat.min_eq_left (by omega)] at a
  have c := Int.mul_le_mul_of_nonneg_right (show X[j]?.getD 0 + 1 ≤ Y[j]?.getD 0 by omega) (Int.le_of_lt (pw_pos j))
  rw [Int.add_mul, Int.one_mul] at c
  omega
theorem cmpZ_top (X Y : List Int) (hX : InW X) (hY : InW Y) (m j : Nat) (lX : X.length = m) (lY : Y.length = m) (hj : j < m) (hd : X.drop (j + 1) = Y.drop (j + 1)) (h : X[j]?.getD 0 ≠ Y[j]?.getD 0) : cmpZ (X[j]?.getD 0) (Y[j]?.getD 0) = cmpZ (dv X) (dv Y) := by
  unfold cmpZ
  rcases Int.lt_or_gt_of_ne h with g | g
  · have := cmp_top X Y hX hY m j lX lY hj hd g
    rw [if_pos g, if_pos this]
  · have := cmp_top Y X hY hX m j lY lX hj hd.symm g
    rw [if_neg (by omega), if_neg (by omega), if_neg (by omega), if_neg (by omega)]
theorem drop_same (X Y : List Int) (m j : Nat) (lX : X.length = m) (lY : Y.length = m) (hj : j < m) (hd : X.drop (j + 1) = Y.drop (j + 1)) (h : X[j]?.getD 0 = Y[j]?.getD 0) : X.drop j = Y.drop j := by
  rw [drop_cons_get X j (by omega), drop_cons_get Y j (by omega), hd, h]
set_option maxHeartbeats 1000000 in
theorem dCmpTop (sa sb : Value) (xs ys : List Int) (w : World) (B : Nat) (ha : SeesW w B sa xs) (hb : SeesW w B sb ys) (hx : InW xs) (hy : InW ys) (lx : xs.length ≤ 200000) (ly : ys.length ≤ 200000) (m : Nat) (hm : m = max xs.length ys.length) :
    Calls Tryz.prog 76 #[sa, sb] w fun e w' => e = .returned (.int .i64 (cmpZ (pw (m - xs.length) * dv xs) (pw (m - ys.length) * dv ys))) ∧ w' = w := by
  rw [← pad_dv, ← pad_dv]
  have LX := pad_len m xs (by omega)
  have LY := pad_len m ys (by omega)
  have IX := pad_in m xs hx
  have IY := pad_in m ys hy
  have PX : Hid (∀ i : Nat, i < m → (if (xs.length : Int) - 1 - (i : Int) < 0 then 0 else xs[((xs.length : Int) - 1 - (i : Int)).toNat]?.getD 0) = (padW m xs)[m - 1 - i]?.getD 0) := fun i hi => pad_get m i xs (by omega) hi
  have PY : Hid (∀ i : Nat, i < m → (if (ys.length : Int) - 1 - (i : Int) < 0 then 0 else ys[((ys.length : Int) - 1 - (i : Int)).toNat]?.getD 0) = (padW m ys)[m - 1 - i]?.getD 0) := fun i hi => pad_get m i ys (by omega) hi
  obtain ⟨X, hX⟩ : ∃ X, X = padW m xs := ⟨_, rfl⟩
  obtain ⟨Y, hY⟩ : ∃ Y, Y = padW m ys := ⟨_, rfl⟩
  rw [← hX] at LX IX PX ⊢
  rw [← hY] at LY IY PY ⊢
  have HA : Hid (SeesW w B sa xs) := ha
  have HB : Hid (SeesW w B sb ys) := hb
  obtain ⟨A1, c1, rfl⟩ := ha.len
  obtain ⟨A2, c2, rfl⟩ := hb.len
  have KX : Hid (X.length = m) := LX
  have KY : Hid (Y.length = m) := LY
  have hmx : max (xs.length : Int) (ys.length : Int) = (m : Int) := by omega
  clear hX hY LX LY hx hy ha hb
  obtain ⟨n1, hn1⟩ : ∃ n, n = xs.length := ⟨_, rfl⟩
  obtain ⟨n2, hn2⟩ : ∃ n, n = ys.length := ⟨_, rfl⟩
  have N1 : Hid (_ = _) := hn1
  have N2 : Hid (_ = _) := hn2
  rw [← hn1] at lx hm hmx PX HA ⊢
  rw [← hn2] at ly hm hmx PY HB ⊢
  clear hn1 hn2
  have hm0 : m ≤ 200000 := by omega
  have HM : Hid (m = max n1 n2) := hm
  clear hm
  by_cases hlt : (n1 : Int) < (n2 : Int)
  · obtain rfl : m = n2 := by have := HM.out; omega
    clear hmx
    go_enter Tryz.func76, Tryz.ntmps76
    go_wp2
    go_loop [13] (fun iv => ∃ i : Nat, iv = .int .i64 (i : Int) ∧ i ≤ m ∧ Hid (X.drop (m - i) = Y.drop (m - i))) (fun iv => m - (intOf iv).toNat)
    case atStart => exact ⟨0, rfl, Nat.zero_le _, by show _ = _; rw [Nat.sub_zero, List.drop_of_length_le (by rw [KX.out]; exact Nat.le_refl _), List.drop_of_length_le (by rw [KY.out]; exact Nat.le_refl _)]⟩
    case round =>
      obtain ⟨i, rfl, hi, D⟩ := hrel
      by_cases him : i < m
      · have x0 := IX.get (m - 1 - i)
        have y0 := IY.get (m - 1 - i)
        obtain ⟨x, hx⟩ : ∃ x, x = X[m - 1 - i]?.getD 0 := ⟨_, rfl⟩
        obtain ⟨y, hy⟩ : ∃ y, y = Y[m - 1 - i]?.getD 0 := ⟨_, rfl⟩
        rw [← hx] at x0
        rw [← hy] at y0
        have HX : Hid (_ = _) := hx
        have HY : Hid (_ = _) := hy
        clear hx hy
        obtain ⟨x0, x1⟩ := x0
        obtain ⟨y0, y1⟩ := y0
        by_cases hxy : x = y
        · have R : Hid (X.drop (m - (i + 1)) = Y.drop (m - (i + 1))) := by
            show _ = _
            have d := D.out
            rw [show m - i = m - (i + 1) + 1 by omega] at d
            refine drop_same X Y m _ KX.out KY.out (by omega) d ?_
            rw [show m - (i + 1) = m - 1 - i by omega, ← HX.out, ← HY.out, hxy]
          subst hxy
          clear D
          go_wp2_with (first | (go_at_call_of 102 A1; refine (dWordAt _ xs _ B _ HA.out (by have := N1.out; omega) (by omega) (by omega)).mono ?_; rintro e w' ⟨rfl, rfl⟩; rw [PX.out i him, ← HX.out]) | (go_at_call_of 102 A2; refine (dWordAt _ ys _ B _ HB.out (by have := N2.out; omega) (by omega) (by omega)).mono ?_; rintro e w' ⟨rfl, rfl⟩; rw [PY.out i him, ← HY.out]))
          go_round
          case rel => exact ⟨i + 1, by go_num, by omega, R⟩
          case measure => simp [intOf]; omega
        · have R : Hid (cmpZ x y = cmpZ (dv X) (dv Y)) := by
            show _ = _
            have d := D.out
            rw [show m - i = m - 1 - i + 1 by omega] at d
            have := cmpZ_top X Y IX IY m (m - 1 - i) KX.out KY.out (by omega) d (by rw [← HX.out, ← HY.out]; exact hxy)
            rw [← HX.out, ← HY.out] at this
            exact this
          go_wp2_with (first | (go_at_call_of 102 A1; refine (dWordAt _ xs _ B _ HA.out (by have := N1.out; omega) (by omega) (by omega)).mono ?_; rintro e w' ⟨rfl, rfl⟩; rw [PX.out i him, ← HX.out]) | (go_at_call_of 102 A2; refine (dWordAt _ ys _ B _ HB.out (by have := N2.out; omega) (by omega) (by omega)).mono ?_; rintro e w' ⟨rfl, rfl⟩; rw [PY.out i him, ← HY.out]) | (go_at_call 103; refine (dCmpU _ _ _).mono ?_; rintro e w' ⟨rfl, rfl⟩; rw [R.out]))
          go_ret
          exact ⟨rfl, rfl⟩
      · have R : Hid (cmpZ (dv X) (dv Y) = 0) := by
          show _ = _
          have d := D.out
          rw [show m - i = 0 by omega, List.drop_zero, List.drop_zero] at d
          rw [d]
          unfold cmpZ
          rw [if_neg (by omega), if_pos rfl]
        go_wp2
        go_ret
        exact ⟨by rw [R.out]; rfl, rfl⟩
  · obtain rfl : m = n1 := by have := HM.out; omega
    clear hmx
    go_enter Tryz.func76, Tryz.ntmps76
    go_wp2
    go_loop [13] (fun iv => ∃ i : Nat, iv = .int .i64 (i : Int) ∧ i ≤ m ∧ Hid (X.drop (m - i) = Y.drop (m - i))) (fun iv => m - (intOf iv).toNat)
    case atStart => exact ⟨0, rfl, Nat.zero_le _, by show _ = _; rw [Nat.sub_zero, List.drop_of_length_le (by rw [KX.out]; exact Nat.le_refl _), List.drop_of_length_le (by rw [KY.out]; exact Nat.le_refl _)]⟩
    case round =>
      obtain ⟨i, rfl, hi, D⟩ := hrel
      by_cases him : i < m
      · have x0 := IX.get (m - 1 - i)
        have y0 := IY.get (m - 1 - i)
        obtain ⟨x, hx⟩ : ∃ x, x = X[m - 1 - i]?.getD 0 := ⟨_, rfl⟩
        obtain ⟨y, hy⟩ : ∃ y, y = Y[m - 1 - i]?.getD 0 := ⟨_, rfl⟩
        rw [← hx] at x0
        rw [← hy] at y0
        have HX : Hid (_ = _) := hx
        have HY : Hid (_ = _) := hy
        clear hx hy
        obtain ⟨x0, x1⟩ := x0
        obtain ⟨y0, y1⟩ := y0
        by_cases hxy : x = y
        · have R : Hid (X.drop (m - (i + 1)) = Y.drop (m - (i + 1))) := by
            show _ = _
            have d := D.out
            rw [show m - i = m - (i + 1) + 1 by omega] at d
            refine drop_same X Y m _ KX.out KY.out (by omega) d ?_
            rw [show m - (i + 1) = m - 1 - i by omega, ← HX.out, ← HY.out, hxy]
          subst hxy
          clear D
          go_wp2_with (first | (go_at_call_of 102 A1; refine (dWordAt _ xs _ B _ HA.out (by have := N1.out; omega) (by omega) (by omega)).mono ?_; rintro e w' ⟨rfl, rfl⟩; rw [PX.out i him, ← HX.out]) | (go_at_call_of 102 A2; refine (dWordAt _ ys _ B _ HB.out (by have := N2.out; omega) (by omega) (by omega)).mono ?_; rintro e w' ⟨rfl, rfl⟩; rw [PY.out i him, ← HY.out]))
          go_round
          case rel => exact ⟨i + 1, by go_num, by omega, R⟩
          case measure => simp [intOf]; omega
        · have R : Hid (cmpZ x y = cmpZ (dv X) (dv Y)) := by
            show _ = _
            have d := D.out
            rw [show m - i = m - 1 - i + 1 by omega] at d
            have := cmpZ_top X Y IX IY m (m - 1 - i) KX.out KY.out (by omega) d (by rw [← HX.out, ← HY.out]; exact hxy)
            rw [← HX.out, ← HY.out] at this
            exact this
          go_wp2_with (first | (go_at_call_of 102 A1; refine (dWordAt _ xs _ B _ HA.out (by have := N1.out; omega) (by omega) (by omega)).mono ?_; rintro e w' ⟨rfl, rfl⟩; rw [PX.out i him, ← HX.out]) | (go_at_call_of 102 A2; refine (dWordAt _ ys _ B _ HB.out (by have := N2.out; omega) (by omega) (by omega)).mono ?_; rintro e w' ⟨rfl, rfl⟩; rw [PY.out i him, ← HY.out]) | (go_at_call 103; refine (dCmpU _ _ _).mono ?_; rintro e w' ⟨rfl, rfl⟩; rw [R.out]))
          go_ret
          exact ⟨rfl, rfl⟩
      · have R : Hid (cmpZ (dv X) (dv Y) = 0) := by
          show _ = _
          have d := D.out
          rw [show m - i = 0 by omega, List.drop_zero, List.drop_zero] at d
          rw [d]
          unfold cmpZ
          rw [if_neg (by omega), if_pos rfl]
        go_wp2
        go_ret
        exact ⟨by rw [R.out]; rfl, rfl⟩
end Go.Proofs.YtpakpgjbgehhjaaGreat

/-
  What cmpSizes, Cmp and Same of package dyad return: how two numbers stand. Conditions: lists are short, places small.
-/
namespace Go.Proofs.YtpakpgjbgehhjaaGreat
open Go.RowKit
set_option linter.unusedVariables false
set_option linter.unusedSimpArgs false

theorem cmpZ_mul (u a b : Int) (hu : 0 < u) : cmpZ (u * a) (u * b) = cmpZ a b := by
  have h1 : u * a < u * b ↔ a < b := ⟨fun h => Int.lt_of_mul_lt_mul_left h (Int.le_of_lt hu), fun h => Int.mul_lt_mul_of_pos_left h hu⟩
  have h2 : u * a = u * b ↔ a = b := ⟨fun h => Int.eq_of_mul_eq_mul_left (by omega) h, fun h => by rw [h]⟩
  unfold cmpZ
  by_cases g1 : a < b
  · rw [if_pos g1, if_pos (h1.2 g1)]
  · rw [if_neg g1, if_neg (fun h => g1 (h1.1 h))]
    by_cases g2 : a = b
    · rw [if_pos g2, if_pos (h2.2 g2)]
    · rw [if_neg g2, if_neg (fun h => g2 (h2.1 h))]
theorem size_lt (xs ys : List Int) (hx : Norm xs) (hy : Norm ys) (nx : xs ≠ []) (ny : ys ≠ []) (p q : Int) (K : Nat) (hp : -(K : Int) ≤ p) (hq : -(K : Int) ≤ q) (h : p + xs.length < q + ys.length) : dv xs * pw (p + K).toNat < dv ys * pw (q + K).toNat := by
  have a := (hx.pos nx).2.1
  have b := (hy.pos ny).1
  have ly : 0 < ys.length := List.length_pos_iff.2 ny
  have c := Int.mul_lt_mul_of_pos_right a (pw_pos (p + K).toNat)
  have d := Int.mul_le_mul_of_nonneg_right b (Int.le_of_lt (pw_pos (q + K).toNat))
  rw [← pw_add] at c d
  have e := pw_le (xs.length + (p + K).toNat) (ys.length - 1 + (q + K).toNat) (by omega)
  omega
theorem size_cmp (xs ys : List Int) (hx : Norm xs) (hy : Norm ys) (hxy : xs = [] ↔ ys = []) (p q : Int) (K : Nat) (hp : -(K : Int) ≤ p) (hq : -(K : Int) ≤ q) (hp0 : xs = [] → p = 0) (hq0 : ys = [] → q = 0) (hne : p + xs.length ≠ q + ys.length) :
    cmpZ (p + xs.length - (q + ys.length)) 0 = cmpZ (dv xs * pw (p + K).toNat) (dv ys * pw (q + K).toNat) := by
  have nx : xs ≠ [] := fun e => hne (by rw [e, hxy.1 e, hp0 e, hq0 (hxy.1 e)])
  have ny : ys ≠ [] := fun e => nx (hxy.2 e)
  unfold cmpZ
  rcases Int.lt_or_gt_of_ne hne with g | g
  · have := size_lt xs ys hx hy nx ny p q K hp hq g
    rw [if_pos (by omega), if_pos this]
  · have := size_lt ys xs hy hx ny nx q p K hq hp g
    rw [if_neg (by omega), if_neg (by omega), if_neg (by omega), if_neg (by omega)]
theorem size_same (xs ys : List Int) (p q : Int) (K m : Nat) (hp : -(K : Int) ≤ p) (hq : -(K : Int) ≤ q) (hm : m = max xs.length ys.length) (he : p + xs.length = q + ys.length) :
    cmpZ (pw (m - xs.length) * dv xs) (pw (m - ys.length) * dv ys) = cmpZ (dv xs * pw (p + K).toNat) (dv ys * pw (q + K).toNat) := by
  obtain ⟨s, h1, h2⟩ : ∃ s : Nat, (p + K).toNat = s + (m - xs.length) ∧ (q + K).toNat = s + (m - ys.length) := by
    rcases Nat.le_total xs.length ys.length with h | h
    · exact ⟨(q + K).toNat, by omega, by omega⟩
    · exact ⟨(p + K).toNat, by omega, by omega⟩
  rw [h1, h2, pw_add, pw_add, ← cmpZ_mul (pw s) _ _ (pw_pos s)]
  congr 1 <;> grind
set_option maxHeartbeats 2000000 in
theorem dCmpSizes (na nb : Bool) (sa sb : Value) (xs ys : List Int) (p q : Int) (w : World) (B : Nat) (ha : SeesW w B sa xs) (hb : SeesW w B sb ys) (hx : Norm xs) (hy : Norm ys) (hxy : xs = [] ↔ ys = []) (lx : xs.length ≤ 200000) (ly : ys.length ≤ 200000) (p0 : -100000 ≤ p) (p1 : p ≤ 100000) (q0 : -100000 ≤ q) (q1 : q ≤ 100000)
    (K : Nat) (hp : -(K : Int) ≤ p) (hq : -(K : Int) ≤ q) (hp0 : xs = [] → p = 0) (hq0 : ys = [] → q = 0) :
    Calls Tryz.prog 45 #[.agg #[.bool na, sa, .int .i64 p, .slice none 0 0], .agg #[.bool nb, sb, .int .i64 q, .slice none 0 0]] w fun e w' => e = .returned (.int .i64 (cmpZ (dv xs * pw (p + K).toNat) (dv ys * pw (q + K).toNat))) ∧ Below w.heap.size w w' := by
  have HA : Hid (SeesW w B sa xs) := ha
  have HB : Hid (SeesW w B sb ys) := hb
  obtain ⟨A1, c1, rfl⟩ := ha.len
  obtain ⟨A2, c2, rfl⟩ := hb.len
  have C1 : Hid (p + xs.length ≠ q + ys.length → cmpZ (p + xs.length - (q + ys.length)) 0 = cmpZ (dv xs * pw (p + K).toNat) (dv ys * pw (q + K).toNat)) := size_cmp xs ys hx hy hxy p q K hp hq hp0 hq0
  have C2 : Hid (p + xs.length = q + ys.length → cmpZ (pw (max xs.length ys.length - xs.length) * dv xs) (pw (max xs.length ys.length - ys.length) * dv ys) = cmpZ (dv xs * pw (p + K).toNat) (dv ys * pw (q + K).toNat)) := size_same xs ys p q K _ hp hq rfl
  obtain ⟨R, hR⟩ : ∃ R, R = cmpZ (dv xs * pw (p + K).toNat) (dv ys * pw (q + K).toNat) := ⟨_, rfl⟩
  rw [← hR] at C1 C2 ⊢
  have IX := hx.1
  have IY := hy.1
  have LX : Hid (_ ≤ _) := lx
  have LY : Hid (_ ≤ _) := ly
  obtain ⟨n1, hn1⟩ : ∃ n, n = xs.length := ⟨_, rfl⟩
  obtain ⟨n2, hn2⟩ : ∃ n, n = ys.length := ⟨_, rfl⟩
  have N1 : Hid (_ = _) := hn1
  have N2 : Hid (_ = _) := hn2
  rw [← hn1] at lx HA ⊢ 
  rw [← hn2] at ly HB ⊢
  clear hR hx hy hxy hp hq hp0 hq0 ha hb hn1 hn2
  obtain ⟨z, hz⟩ : ∃ z, z = cmpZ (p + n1 - (q + n2)) 0 := ⟨_, rfl⟩
  have hzb := cmpZ_bd (p + n1 - (q + n2)) 0
  rw [← hz] at hzb
  have HZ : Hid (_ = _) := hz
  have hz0 : z = 0 ↔ p + n1 = q + n2 := by
    rw [hz]
    unfold cmpZ
    by_cases g : p + n1 - (q + n2) < 0
    · rw [if_pos g]; omega
    · rw [if_neg g]
      by_cases g2 : p + n1 - (q + n2) = 0
      · rw [if_pos g2]; omega
      · rw [if_neg g2]; omega
  have HZ0 : Hid (_ ↔ _) := hz0
  clear hz hz0
  by_cases he : z = 0
  all_goals
    go_enter Tryz.func45, Tryz.ntmps45
    go_wp2_with fail
    go_region_held3 (fun w' => w'.cell? ⟨w.heap.size, 0, none⟩ = some (.bool na) ∧ w'.cell? ⟨w.heap.size, 1, none⟩ = some (.slice A1 n1 c1) ∧ w'.cell? ⟨w.heap.size, 2, none⟩ = some (.int .i64 p) ∧ w'.cell? ⟨w.heap.size, 3, none⟩ = some (.slice none 0 0) ∧ w'.cell? ⟨w.heap.size + 1, 0, none⟩ = some (.bool nb) ∧ w'.cell? ⟨w.heap.size + 1, 1, none⟩ = some (.slice A2 n2 c2) ∧ w'.cell? ⟨w.heap.size + 1, 2, none⟩ = some (.int .i64 q) ∧ w'.cell? ⟨w.heap.size + 1, 3, none⟩ = some (.slice none 0 0)) (simp [go_sem, *]) (first | (go_at_call_of 73 A1; refine (dTop _ _ _ _ _ _ (by omega) (by omega) (by omega)).mono ?_; rintro e w1 ⟨rfl, hb1⟩; obtain ⟨hc1, hf1⟩ := bcell hb1; have hz1 : w.heap.size + 1 < w1.heap.size := (by have := hb1.size; simp at this; omega); have hy1 : w.heap.size < w1.heap.size := (by omega); have hx1 : Below w.heap.size w w1 := (Below.trans (by repeat (first | (refine Below.drew ?_) | (refine Below.alloc ?_ (by first | omega | (simp <;> omega)) _) | (refine Below.setCell ?_ (by first | omega | (simp <;> omega)) _) | exact Below.refl _ _)) (hb1.mono (by first | omega | (simp <;> omega)))); clear hb1) | (go_at_call_of 73 A2; refine (dTop _ _ _ _ _ _ (by omega) (by omega) (by omega)).mono ?_; rintro e w2 ⟨rfl, hb2⟩; obtain ⟨hc2, hf2⟩ := bcell hb2; have hz2 : w.heap.size + 1 < w2.heap.size := (by have := hb2.size; omega); have hy2 : w.heap.size < w2.heap.size := (by omega); have hx2 : Below w.heap.size w w2 := (hx1.trans (hb2.mono (by omega))); clear hb2) | (go_at_call 74; refine (dMinus _ _ _ (by omega) (by omega) (by omega) (by omega)).mono ?_; rintro e w3 ⟨rfl, hb3⟩; obtain ⟨hc3, hf3⟩ := bcell hb3; have hz3 : w.heap.size + 1 < w3.heap.size := (by have := hb3.size; omega); have hy3 : w.heap.size < w3.heap.size := (by omega); have hx3 : Below w.heap.size w w3 := (hx2.trans (hb3.mono (by omega))); clear hb3) | (go_at_call 75; refine (dSignP _ _).mono ?_; rintro e w4 ⟨rfl, hb4⟩; rw [← HZ.out]; obtain ⟨hc4, hf4⟩ := bcell hb4; have hz4 : w.heap.size + 1 < w4.heap.size := (by have := hb4.size; omega); have hy4 : w.heap.size < w4.heap.size := (by omega); have hx4 : Below w.heap.size w w4 := (hx3.trans (hb4.mono (by omega))); clear hb4))
  · subst he
    go_wp2_with fail
    refine (dCmpTop _ _ xs ys _ B (HA.out.below hx4) (HB.out.below hx4) IX IY LX.out LY.out _ rfl).mono ?_
    rintro e w' ⟨rfl, rfl⟩
    rw [C2.out (by rw [← N1.out, ← N2.out]; first | exact HZ0.out.1 rfl | exact HZ0.out.1 trivial)]
    go_wp2
    go_ret
    exact ⟨rfl, hx4⟩
  · go_wp2_with fail
    go_ret
    refine ⟨ret_eq (int_eq ?_), hx4⟩
    have := C1.out (by rw [← N1.out, ← N2.out]; exact fun h => he (HZ0.out.2 h))
    rw [← N1.out, ← N2.out, ← HZ.out] at this
    exact this
theorem tell_sign {neg : Bool} {ws : List Int} {p : Int} {K : Nat} (h : Norm ws) : cmpZ (sg neg * (dv ws * pw (p + K).toNat)) 0 = if ws = [] then 0 else if neg then -1 else 1 := by
  by_cases hn : ws = []
  · rw [if_pos hn, hn, dv_nil, Int.zero_mul, Int.mul_zero]; rfl
  · rw [if_neg hn, sgnX neg _ (wpos h hn _)]
theorem cmp_less (X Y : Int) (h : cmpZ X 0 < cmpZ Y 0) : cmpZ X Y = -1 := by
  have : X < Y := by
    unfold cmpZ at h
    split at h <;> split at h <;> (try split at h) <;> (try split at h) <;> omega
  unfold cmpZ
  rw [if_pos this]
theorem cmp_more (X Y : Int) (h : cmpZ Y 0 < cmpZ X 0) : cmpZ X Y = 1 := by
  have : Y < X := by
    unfold cmpZ at h
    split at h <;> split at h <;> (try split at h) <;> (try split at h) <;> omega
  unfold cmpZ
  rw [if_neg (by omega), if_neg (by omega)]
theorem cmp_even (na nb : Bool) (xs ys : List Int) (P Q : Int) (hx : 0 ≤ P) (hy : 0 ≤ Q) (h : cmpZ (sg na * P) 0 = cmpZ (sg nb * Q) 0) : cmpZ (sg na * P) 0 * cmpZ P Q = cmpZ (sg na * P) (sg nb * Q) := by
  have h0 : sg na = 1 ∨ sg na = -1 := by cases na <;> simp [sg]
  have h1 : sg nb = 1 ∨ sg nb = -1 := by cases nb <;> simp [sg]
  unfold cmpZ at *
  rcases h0 with e0 | e0 <;> rcases h1 with e1 | e1 <;> rw [e0] at h ⊢ <;> rw [e1] at h ⊢
  all_goals
    simp only [Int.one_mul, Int.neg_mul] at h ⊢
    rcases Int.lt_trichotomy P 0 with a | a | a <;> rcases Int.lt_trichotomy Q 0 with b | b | b <;> (try omega)
    all_goals
      repeat' split at h
      all_goals (try omega)
      all_goals (repeat' split) <;> omega
set_option maxHeartbeats 4000000 in
theorem dCmp (a b : Value) (w : World) (B K : Nat) (L X Y : Int) (ha : Tell w B a K L X) (hb : Tell w B b K L Y) (hk : K ≤ 100000) (hL : L ≤ 100000) :
    Calls Tryz.prog 18 #[a, b] w fun e w' => e = .returned (.int .i64 (cmpZ X Y)) ∧ Below w.heap.size w w' := by
  have HA : Hid (Tell w B a K L X) := ha
  have HB : Hid (Tell w B b K L Y) := hb
  obtain ⟨na, xs, p, ⟨sa, rfl, a1, a9⟩, a2, a3, a4, a5⟩ := ha
  obtain ⟨nb, ys, q, ⟨sb, rfl, b1, b9⟩, b2, b3, b4, b5⟩ := hb
  have la := tell_len a3 a4 hk hL
  have lb := tell_len b3 b4 hk hL
  have S1 : Hid (SeesW w B sa xs) := a1
  have S2 : Hid (SeesW w B sb ys) := b1
  obtain ⟨A1, c1, rfl⟩ := a1.len
  obtain ⟨A2, c2, rfl⟩ := b1.len
  have sx : cmpZ X 0 = if xs = [] then 0 else if na then -1 else 1 := by rw [a5]; exact tell_sign a2
  have sy : cmpZ Y 0 = if ys = [] then 0 else if nb then -1 else 1 := by rw [b5]; exact tell_sign b2
  have E : Hid (cmpZ X 0 = cmpZ Y 0 → (xs = [] ↔ ys = [])) := by
    intro h
    rw [sx, sy] at h
    by_cases g1 : xs = [] <;> by_cases g2 : ys = [] <;> simp [g1, g2] at h ⊢
    · cases nb <;> simp at h
    · cases na <;> simp at h
  have F : Hid (cmpZ X 0 = cmpZ Y 0 → cmpZ X 0 * cmpZ (dv xs * pw (p + K).toNat) (dv ys * pw (q + K).toNat) = cmpZ X Y) := by
    intro h
    rw [a5, b5] at h ⊢
    exact cmp_even na nb xs ys _ _ (a2.nonneg _) (b2.nonneg _) h
  obtain ⟨z, hz⟩ : ∃ z, z = cmpZ X 0 := ⟨_, rfl⟩
  obtain ⟨y, hy⟩ : ∃ y, y = cmpZ Y 0 := ⟨_, rfl⟩
  have zb := cmpZ_bd X 0
  have yb := cmpZ_bd Y 0
  have tb := cmpZ_bd (dv xs * pw (p + K).toNat) (dv ys * pw (q + K).toNat)
  have CL : Hid (z < y → cmpZ X Y = -1) := by rw [hz, hy]; exact cmp_less X Y
  have CM : Hid (y < z → cmpZ X Y = 1) := by rw [hz, hy]; exact cmp_more X Y
  rw [← hz] at zb E F
  rw [← hy] at yb E F
  have HX : Hid (_ = _) := hz
  have HY : Hid (_ = _) := hy
  have A2' : Hid (Norm xs) := a2
  have B2' : Hid (Norm ys) := b2
  have A9 : Hid (xs = [] → p = 0) := a9
  have B9 : Hid (ys = [] → q = 0) := b9
  obtain ⟨l1, l2, l3⟩ := la
  obtain ⟨m1, m2, m3⟩ := lb
  have LX : Hid (_ ≤ _) := l1
  have LY : Hid (_ ≤ _) := m1
  obtain ⟨n1, hn1⟩ : ∃ n, n = xs.length := ⟨_, rfl⟩
  obtain ⟨n2, hn2⟩ : ∃ n, n = ys.length := ⟨_, rfl⟩
  rw [← hn1] at HA S1 l1 ⊢
  rw [← hn2] at HB S2 m1 ⊢
  have P3 : Hid (_ ≤ _) := a3
  have Q3 : Hid (_ ≤ _) := b3
  clear hz hy sx sy a1 a2 a4 a5 b1 b2 b4 b5 a9 b9 hn1 hn2 a3 b3
  obtain ⟨zb0, zb1⟩ := zb
  obtain ⟨yb0, yb1⟩ := yb
  obtain ⟨tb0, tb1⟩ := tb
  rcases Int.lt_trichotomy z y with h | h | h
  · go_enter Tryz.func18, Tryz.ntmps18
    go_wp2_with (first | (go_at_call_of 43 A1; refine (dSign _ _ B K L X (HA.out.below (by repeat (first | (refine Below.drew ?_) | (refine Below.alloc ?_ (by first | omega | (simp <;> omega)) _) | (refine Below.setCell ?_ (by first | omega | (simp <;> omega)) _) | exact Below.refl _ _)))).mono ?_; rintro e w1 ⟨rfl, hb1⟩; rw [← HX.out]; obtain ⟨hc1, hf1⟩ := bcell hb1; have hz1 : w.heap.size + 1 < w1.heap.size := (by have := hb1.size; simp at this; omega); have hy1 : w.heap.size < w1.heap.size := (by omega); have hx1 : Below w.heap.size w w1 := (Below.trans (by repeat (first | (refine Below.drew ?_) | (refine Below.alloc ?_ (by first | omega | (simp <;> omega)) _) | (refine Below.setCell ?_ (by first | omega | (simp <;> omega)) _) | exact Below.refl _ _)) (hb1.mono (by first | omega | (simp <;> omega)))); clear hb1) | (go_at_call_of 43 A2; refine (dSign _ _ B K L Y (HB.out.below hx1)).mono ?_; rintro e w2 ⟨rfl, hb2⟩; rw [← HY.out]; obtain ⟨hc2, hf2⟩ := bcell hb2; have hz2 : w.heap.size + 1 < w2.heap.size := (by have := hb2.size; omega); have hy2 : w.heap.size < w2.heap.size := (by omega); have hx2 : Below w.heap.size w w2 := (hx1.trans (hb2.mono (by omega))); clear hb2))
    go_ret
    exact ⟨by rw [CL.out h]; rfl, hx2⟩
  · subst h
    obtain ⟨t, ht⟩ : ∃ t, t = cmpZ (dv xs * pw (p + K).toNat) (dv ys * pw (q + K).toNat) := ⟨_, rfl⟩
    have HT : Hid (_ = _) := ht
    rw [← ht] at tb0 tb1 F
    clear ht
    have E' : Hid (xs = [] ↔ ys = []) := E.out rfl
    have F' : Hid (_ = _) := F.out rfl
    clear E F CL CM
    have wr : IntKind.i64.wrap (z * t) = z * t := by
      have : z * t = -1 ∨ z * t = 0 ∨ z * t = 1 := by
        rcases (show z = -1 ∨ z = 0 ∨ z = 1 by omega) with rfl | rfl | rfl <;> omega
      rw [IntKind.wrap_i64]; omega
    go_enter Tryz.func18, Tryz.ntmps18
    go_wp2_with (first | (go_at_call_of 43 A1; refine (dSign _ _ B K L X (HA.out.below (by repeat (first | (refine Below.drew ?_) | (refine Below.alloc ?_ (by first | omega | (simp <;> omega)) _) | (refine Below.setCell ?_ (by first | omega | (simp <;> omega)) _) | exact Below.refl _ _)))).mono ?_; rintro e w1 ⟨rfl, hb1⟩; rw [← HX.out]; obtain ⟨hc1, hf1⟩ := bcell hb1; have hz1 : w.heap.size + 1 < w1.heap.size := (by have := hb1.size; simp at this; omega); have hy1 : w.heap.size < w1.heap.size := (by omega); have hx1 : Below w.heap.size w w1 := (Below.trans (by repeat (first | (refine Below.drew ?_) | (refine Below.alloc ?_ (by first | omega | (simp <;> omega)) _) | (refine Below.setCell ?_ (by first | omega | (simp <;> omega)) _) | exact Below.refl _ _)) (hb1.mono (by first | omega | (simp <;> omega)))); clear hb1) | (go_at_call_of 43 A2; refine (dSign _ _ B K L Y (HB.out.below hx1)).mono ?_; rintro e w2 ⟨rfl, hb2⟩; rw [← HY.out]; obtain ⟨hc2, hf2⟩ := bcell hb2; have hz2 : w.heap.size + 1 < w2.heap.size := (by have := hb2.size; omega); have hy2 : w.heap.size < w2.heap.size := (by omega); have hx2 : Below w.heap.size w w2 := (hx1.trans (hb2.mono (by omega))); clear hb2) | (go_at_call_of 43 A2; refine (dSign _ _ B K L Y (HB.out.below hx2)).mono ?_; rintro e w3 ⟨rfl, hb3⟩; rw [← HY.out]; obtain ⟨hc3, hf3⟩ := bcell hb3; have hz3 : w.heap.size + 1 < w3.heap.size := (by have := hb3.size; omega); have hy3 : w.heap.size < w3.heap.size := (by omega); have hx3 : Below w.heap.size w w3 := (hx2.trans (hb3.mono (by omega))); clear hb3) | (go_at_call 45; refine (dCmpSizes _ _ _ _ xs ys _ _ _ B (S1.out.below hx3) (S2.out.below hx3) A2'.out B2'.out E'.out LX.out LY.out (by omega) (by omega) (by omega) (by omega) K P3.out Q3.out A9.out B9.out).mono ?_; rintro e w4 ⟨rfl, hb4⟩; rw [← HT.out]; have hx4 : Below w.heap.size w w4 := (hx3.trans (hb4.mono (by omega))); clear hb4))
    go_ret
    exact ⟨ret_eq (int_eq F'.out), hx4⟩
  · have h' : ¬ z < y := by omega
    go_enter Tryz.func18, Tryz.ntmps18
    go_wp2_with (first | (go_at_call_of 43 A1; refine (dSign _ _ B K L X (HA.out.below (by repeat (first | (refine Below.drew ?_) | (refine Below.alloc ?_ (by first | omega | (simp <;> omega)) _) | (refine Below.setCell ?_ (by first | omega | (simp <;> omega)) _) | exact Below.refl _ _)))).mono ?_; rintro e w1 ⟨rfl, hb1⟩; rw [← HX.out]; obtain ⟨hc1, hf1⟩ := bcell hb1; have hz1 : w.heap.size + 1 < w1.heap.size := (by have := hb1.size; simp at this; omega); have hy1 : w.heap.size < w1.heap.size := (by omega); have hx1 : Below w.heap.size w w1 := (Below.trans (by repeat (first | (refine Below.drew ?_) | (refine Below.alloc ?_ (by first | omega | (simp <;> omega)) _) | (refine Below.setCell ?_ (by first | omega | (simp <;> omega)) _) | exact Below.refl _ _)) (hb1.mono (by first | omega | (simp <;> omega)))); clear hb1) | (go_at_call_of 43 A2; refine (dSign _ _ B K L Y (HB.out.below hx1)).mono ?_; rintro e w2 ⟨rfl, hb2⟩; rw [← HY.out]; obtain ⟨hc2, hf2⟩ := bcell hb2; have hz2 : w.heap.size + 1 < w2.heap.size := (by have := hb2.size; omega); have hy2 : w.heap.size < w2.heap.size := (by omega); have hx2 : Below w.heap.size w w2 := (hx1.trans (hb2.mono (by omega))); clear hb2) | (go_at_call_of 43 A2; refine (dSign _ _ B K L Y (HB.out.below hx2)).mono ?_; rintro e w3 ⟨rfl, hb3⟩; rw [← HY.out]; obtain ⟨hc3, hf3⟩ := bcell hb3; have hz3 : w.heap.size + 1 < w3.heap.size := (by have := hb3.size; omega); have hy3 : w.heap.size < w3.heap.size := (by omega); have hx3 : Below w.heap.size w w3 := (hx2.trans (hb3.mono (by omega))); clear hb3))
    go_ret
    exact ⟨by rw [CM.out h]; rfl, hx3⟩
end Go.Proofs.YtpakpgjbgehhjaaGreat
