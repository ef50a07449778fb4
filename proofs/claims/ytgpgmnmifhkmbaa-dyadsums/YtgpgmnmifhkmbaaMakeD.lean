/-
  What Of, Int and Two of package dyad return: the number of a pattern, a whole number, a power of two. Conditions: Two's exponent is small.
-/
import Derived.Test.YtgpgmnmifhkmbaaMakeC
namespace Go.Proofs.Ytgpgmnmifhkmbaa
open Go.RowKit
set_option linter.unusedVariables false

/-- A pattern's number, times 2^1088; of what is none: 0. -/
def xv (b : Int) : Int := if mag b < 9218868437227405312 then sv b * 16384 else 0
theorem of_math (b : Int) (hf : mag b < 9218868437227405312) : sg (sgn b) * (wMant b * ((2 ^ (wPow b + 64 * (17 : Nat)).toNat : Nat) : Int)) = sv b * 16384 := by
  obtain ⟨p1, p2, p3, p4⟩ := parts_bd b
  have e : wMant b * ((2 ^ (wPow b + 64 * (17 : Nat)).toNat : Nat) : Int) = ((V (mag b) : Nat) : Int) * 16384 := by
    rw [parts_V b hf, show (wPow b + 64 * ((17 : Nat) : Int)).toNat = (wPow b + 1074).toNat + 14 by omega, Nat.pow_add, Int.natCast_mul, Int.natCast_mul, show ((wMant b).toNat : Int) = wMant b by omega]
    generalize ((2 ^ (wPow b + 1074).toNat : Nat) : Int) = q
    rw [show ((2 ^ 14 : Nat) : Int) = 16384 from rfl, Int.mul_assoc]
  rw [e]
  unfold sv sg
  cases sgn b
  · simp
  · simp [Int.neg_mul]
set_option maxHeartbeats 1000000 in
theorem dOf (b : Int) (w : World) (h0 : 0 ≤ b) (h1 : b < 18446744073709551616) :
    Calls Try.prog 19 #[.int .u64 b] w fun e w' => ∃ v, e = .returned (.tuple #[v, .bool (decide (mag b < 9218868437227405312))]) ∧ Tell w' w.heap.size v 17 17 (xv b) ∧ Below w.heap.size w w' := by
  obtain ⟨p1, p2, p3, p4⟩ := parts_bd b
  by_cases hf : mag b < 9218868437227405312
  · have hf' : b / 4503599627370496 % 2048 < 2047 := (fin_mag b).2 hf
    have OM : Hid (_ = _) := of_math b hf
    have XV : Hid (xv b = sv b * 16384) := if_pos hf
    have SG : Hid (decide (9223372036854775808 ≤ b) = sgn b) := rfl
    have HD : Hid (decide (mag b < 9218868437227405312) = true) := decide_eq_true hf
    clear hf
    go_enter Try.func19, Try.ntmps19
    go_wp2_with (first | (go_at_call 20; refine (finite_any _ _ h0 h1).mono ?_; rintro e w' ⟨rfl, rfl⟩) | (go_at_call 10; refine (parts_any _ _ h0 h1).mono ?_; rintro e w' ⟨rfl, rfl⟩) | (go_at_call 9; refine (neg_any _ _ h0 h1).mono ?_; rintro e w' ⟨rfl, rfl⟩; rw [SG.out]) | fail)
    refine (dOfWord _ _ _ _ p1 (by omega) (by omega) (by omega)).mono ?_
    rintro r w1 ⟨v, rfl, ht, hb1⟩
    have t := ht 17 17 (by omega) (by omega) (by omega)
    rw [OM.out, ← XV.out] at t
    obtain ⟨neg', a', n', c', p', rfl⟩ := t.form
    have T : Hid (Tell _ _ _ _ _ _) := t
    have hx : Below w.heap.size w w1 := Below.trans (by repeat (first | (refine Below.drew ?_) | (refine Below.alloc ?_ (by first | omega | (simp <;> omega)) _) | (refine Below.setCell ?_ (by first | omega | (simp <;> omega)) _) | exact Below.refl _ _)) (hb1.mono (by first | omega | (simp <;> omega)))
    obtain ⟨hc, hf⟩ := bcell hb1
    have hz : w.heap.size < w1.heap.size := by have := hb1.size; simp at this; omega
    clear t ht hb1
    go_wp2
    refine bodyPost_ret (v := .tuple #[.agg #[.bool neg', .slice a' n' c', .int .i64 p', .slice none 0 0], .bool true]) (by simp [results, Try.results19, go_sem, *]) rfl ⟨_, by rw [HD.out], ?_, (by repeat (first | exact hx | (refine Below.drew ?_) | (refine Below.alloc ?_ (by first | omega | (simp <;> omega)) _) | (refine Below.setCell ?_ (by first | omega | (simp <;> omega)) _) | exact Below.refl _ _))⟩
    refine Tell.base (b := w.heap.size + 1) ?_ (by omega)
    repeat (first | exact T.out.base (by simp) | (refine Tell.set ?_ (by simp) _))
  · have hf' : ¬ b / 4503599627370496 % 2048 < 2047 := fun g => hf ((fin_mag b).1 g)
    have hd' : decide (b / 4503599627370496 % 2048 < 2047) = false := decide_eq_false hf'
    have XV : Hid (xv b = 0) := if_neg hf
    have HD : Hid (decide (mag b < 9218868437227405312) = false) := decide_eq_false hf
    clear hf
    go_enter Try.func19, Try.ntmps19
    go_wp2_with (first | (go_at_call 20; refine (finite_any _ _ h0 h1).mono ?_; rintro e w' ⟨rfl, rfl⟩) | fail)
    refine bodyPost_ret (v := .tuple #[.agg #[.bool false, .slice none 0 0, .int .i64 0, .slice none 0 0], .bool false]) (by simp [results, Try.results19, go_sem, *]) rfl ⟨_, by rw [HD.out], ?_, (by repeat (first | (refine Below.drew ?_) | (refine Below.alloc ?_ (by first | omega | (simp <;> omega)) _) | (refine Below.setCell ?_ (by first | omega | (simp <;> omega)) _) | exact Below.refl _ _))⟩
    rw [XV.out]
    exact Tell.zero _ _ _ _ _ (by omega)
set_option maxHeartbeats 1000000 in
theorem dInt (n : Int) (w : World) (h0 : -9223372036854775808 ≤ n) (h1 : n ≤ 9223372036854775807) :
    Calls Try.prog 29 #[.int .i64 n] w fun e w' => ∃ v, e = .returned v ∧ Tell w' w.heap.size v 0 2 n ∧ Below w.heap.size w w' := by
  have key : ∀ (neg : Bool) (x : Int), sg neg * (x * ((2 ^ ((0 : Int) + 64 * (0 : Nat)).toNat : Nat) : Int)) = sg neg * x := by intro neg x; simp
  have KE : Hid (∀ (neg : Bool) (x : Int), sg neg * (x * ((2 ^ ((0 : Int) + 64 * (0 : Nat)).toNat : Nat) : Int)) = sg neg * x) := key
  clear key
  by_cases hn : n < 0
  · have w1 : IntKind.u64.wrap n = n + 18446744073709551616 := by rw [IntKind.wrap_u64]; omega
    have w2 : IntKind.u64.wrap (-(n + 18446744073709551616)) = -n := by rw [IntKind.wrap_u64]; omega
    go_enter Try.func29, Try.ntmps29
    go_wp2_with fail
    refine (dOfWord _ _ _ _ (by omega) (by omega) (by omega) (by omega)).mono ?_
    rintro r w1 ⟨v, rfl, ht, hb1⟩
    have t := ht 0 2 (by omega) (by omega) (by omega)
    rw [KE.out] at t
    obtain ⟨neg', a', n', c', p', rfl⟩ := t.form
    have T : Hid (Tell _ _ _ _ _ _) := t
    have hx : Below w.heap.size w w1 := Below.trans (by repeat (first | (refine Below.drew ?_) | (refine Below.alloc ?_ (by first | omega | (simp <;> omega)) _) | (refine Below.setCell ?_ (by first | omega | (simp <;> omega)) _) | exact Below.refl _ _)) (hb1.mono (by first | omega | (simp <;> omega)))
    obtain ⟨hc, hf⟩ := bcell hb1
    have hz : w.heap.size < w1.heap.size := by have := hb1.size; simp at this; omega
    clear t ht hb1
    go_wp2
    refine bodyPost_ret (v := .agg #[.bool neg', .slice a' n' c', .int .i64 p', .slice none 0 0]) (by simp [results, Try.results29, go_sem, *]) rfl ⟨_, rfl, ?_, (by repeat (first | exact hx | (refine Below.drew ?_) | (refine Below.alloc ?_ (by first | omega | (simp <;> omega)) _) | (refine Below.setCell ?_ (by first | omega | (simp <;> omega)) _) | exact Below.refl _ _))⟩
    refine Tell.base (b := w.heap.size + 1) ?_ (by omega)
    repeat (first | exact (T.out.base (by simp)).eq (by simp [sg]) | (refine Tell.set ?_ (by simp) _))
  · have w1 : IntKind.u64.wrap n = n := by rw [IntKind.wrap_u64]; omega
    go_enter Try.func29, Try.ntmps29
    go_wp2_with fail
    refine (dOfWord _ _ _ _ (by omega) (by omega) (by omega) (by omega)).mono ?_
    rintro r w1 ⟨v, rfl, ht, hb1⟩
    have t := ht 0 2 (by omega) (by omega) (by omega)
    rw [KE.out] at t
    obtain ⟨neg', a', n', c', p', rfl⟩ := t.form
    have T : Hid (Tell _ _ _ _ _ _) := t
    have hx : Below w.heap.size w w1 := Below.trans (by repeat (first | (refine Below.drew ?_) | (refine Below.alloc ?_ (by first | omega | (simp <;> omega)) _) | (refine Below.setCell ?_ (by first | omega | (simp <;> omega)) _) | exact Below.refl _ _)) (hb1.mono (by first | omega | (simp <;> omega)))
    obtain ⟨hc, hf⟩ := bcell hb1
    have hz : w.heap.size < w1.heap.size := by have := hb1.size; simp at this; omega
    clear t ht hb1
    go_wp2
    refine bodyPost_ret (v := .agg #[.bool neg', .slice a' n' c', .int .i64 p', .slice none 0 0]) (by simp [results, Try.results29, go_sem, *]) rfl ⟨_, rfl, ?_, (by repeat (first | exact hx | (refine Below.drew ?_) | (refine Below.alloc ?_ (by first | omega | (simp <;> omega)) _) | (refine Below.setCell ?_ (by first | omega | (simp <;> omega)) _) | exact Below.refl _ _))⟩
    refine Tell.base (b := w.heap.size + 1) ?_ (by omega)
    repeat (first | exact (T.out.base (by simp)).eq (by simp [sg]) | (refine Tell.set ?_ (by simp) _))
/-- What Two counts an exponent as. -/
def clampT (e : Int) : Int := min (max e (-1048576)) 1048576
theorem clampT_bd (e : Int) : -1048576 ≤ clampT e ∧ clampT e ≤ 1048576 := by unfold clampT; omega
set_option maxHeartbeats 1000000 in
theorem dTwo (e : Int) (w : World) :
    Calls Try.prog 30 #[.int .i64 e] w fun r w' => ∃ v, r = .returned v ∧ (∀ (k : Nat) (L : Int), -(64 * (k : Int)) ≤ clampT e → clampT e / 64 + 2 ≤ L → 0 ≤ L → Tell w' w.heap.size v k L ((2 ^ (clampT e + 64 * k).toNat : Nat) : Int)) ∧ Below w.heap.size w w' := by
  have key : (e < -1048576 ∧ clampT e = -1048576) ∨ (1048576 < e ∧ clampT e = 1048576) ∨ ((-1048576 ≤ e ∧ e ≤ 1048576) ∧ clampT e = e) := by unfold clampT; omega
  rcases key with ⟨h1, h2⟩ | ⟨h1, h2⟩ | ⟨⟨h1, h3⟩, h2⟩
  all_goals
    rw [h2]
    clear h2
    go_enter Try.func30, Try.ntmps30
    go_wp2_with fail
    refine (dOfWord _ _ _ _ (by omega) (by omega) (by omega) (by omega)).mono ?_
    rintro r w1 ⟨v, rfl, ht, hb1⟩
    obtain ⟨neg', a', n', c', p', rfl⟩ := (ht 40000 40000 (by omega) (by omega) (by omega)).form
    have T : Hid (∀ (k : Nat) (L : Int), _) := ht
    have hx : Below w.heap.size w w1 := Below.trans (by repeat (first | (refine Below.drew ?_) | (refine Below.alloc ?_ (by first | omega | (simp <;> omega)) _) | (refine Below.setCell ?_ (by first | omega | (simp <;> omega)) _) | exact Below.refl _ _)) (hb1.mono (by first | omega | (simp <;> omega)))
    obtain ⟨hc, hf⟩ := bcell hb1
    have hz : w.heap.size < w1.heap.size := by have := hb1.size; simp at this; omega
    clear ht hb1
    go_wp2
    refine bodyPost_ret (v := .agg #[.bool neg', .slice a' n' c', .int .i64 p', .slice none 0 0]) (by simp [results, Try.results30, go_sem, *]) rfl ⟨_, rfl, ?_, (by repeat (first | exact hx | (refine Below.drew ?_) | (refine Below.alloc ?_ (by first | omega | (simp <;> omega)) _) | (refine Below.setCell ?_ (by first | omega | (simp <;> omega)) _) | exact Below.refl _ _))⟩
    intro k L g1 g2 g3
    have t := (T.out k L g1 g2 g3).eq (show _ = ((2 ^ (_ + 64 * (k : Int)).toNat : Nat) : Int) by unfold sg; simp only [Bool.false_eq_true, if_false]; rw [Int.one_mul, Int.one_mul])
    refine Tell.base (b := w.heap.size + 1) ?_ (by omega)
    repeat (first | exact t.base (by simp) | (refine Tell.set ?_ (by simp) _))
end Go.Proofs.Ytgpgmnmifhkmbaa
