/-
  What Up of package dyad returns where the nearest pattern is beneath; what of and head of the statements of layer 7 return. Conditions: places are small.
-/
import Derived.Test.YtgpgmnmifhkmbaaNearC
import Derived.Test.YtgpgmnmifhkmbaaSubC
import Derived.Test.YtgpgmnmifhkmbaaMulE
namespace Go.Proofs.Ytgpgmnmifhkmbaa
open Go.RowKit
set_option linter.unusedVariables false
set_option linter.unusedSimpArgs false

theorem box_keep {Wa W : World} (h : Below Wa.heap.size Wa W) {b : Nat} {v0 v1 v2 v3 : Value} (lb : b < Wa.heap.size) (K : Wa.cell? ⟨b, 0, none⟩ = some v0 ∧ Wa.cell? ⟨b, 1, none⟩ = some v1 ∧ Wa.cell? ⟨b, 2, none⟩ = some v2 ∧ Wa.cell? ⟨b, 3, none⟩ = some v3) : W.cell? ⟨b, 0, none⟩ = some v0 ∧ W.cell? ⟨b, 1, none⟩ = some v1 ∧ W.cell? ⟨b, 2, none⟩ = some v2 ∧ W.cell? ⟨b, 3, none⟩ = some v3 :=
  ⟨(h.cell (p := ⟨b, 0, none⟩) lb).trans K.1, (h.cell (p := ⟨b, 1, none⟩) lb).trans K.2.1, (h.cell (p := ⟨b, 2, none⟩) lb).trans K.2.2.1, (h.cell (p := ⟨b, 3, none⟩) lb).trans K.2.2.2⟩
theorem box3 {Wa W : World} (h : Below Wa.heap.size Wa W) {b c d : Nat} {v0 v1 v2 v3 u0 u1 u2 u3 t0 t1 t2 t3 : Value} (lb : b < Wa.heap.size) (lc : c < Wa.heap.size) (ld : d < Wa.heap.size)
    (K : Wa.cell? ⟨b, 0, none⟩ = some v0 ∧ Wa.cell? ⟨b, 1, none⟩ = some v1 ∧ Wa.cell? ⟨b, 2, none⟩ = some v2 ∧ Wa.cell? ⟨b, 3, none⟩ = some v3) (K' : Wa.cell? ⟨c, 0, none⟩ = some u0 ∧ Wa.cell? ⟨c, 1, none⟩ = some u1 ∧ Wa.cell? ⟨c, 2, none⟩ = some u2 ∧ Wa.cell? ⟨c, 3, none⟩ = some u3) (K'' : Wa.cell? ⟨d, 0, none⟩ = some t0 ∧ Wa.cell? ⟨d, 1, none⟩ = some t1 ∧ Wa.cell? ⟨d, 2, none⟩ = some t2 ∧ Wa.cell? ⟨d, 3, none⟩ = some t3) :
    (W.cell? ⟨b, 0, none⟩ = some v0 ∧ W.cell? ⟨b, 1, none⟩ = some v1 ∧ W.cell? ⟨b, 2, none⟩ = some v2 ∧ W.cell? ⟨b, 3, none⟩ = some v3) ∧ (W.cell? ⟨c, 0, none⟩ = some u0 ∧ W.cell? ⟨c, 1, none⟩ = some u1 ∧ W.cell? ⟨c, 2, none⟩ = some u2 ∧ W.cell? ⟨c, 3, none⟩ = some u3) ∧ (W.cell? ⟨d, 0, none⟩ = some t0 ∧ W.cell? ⟨d, 1, none⟩ = some t1 ∧ W.cell? ⟨d, 2, none⟩ = some t2 ∧ W.cell? ⟨d, 3, none⟩ = some t3) := ⟨box_keep h lb K, box_keep h lc K', box_keep h ld K''⟩
theorem tell_base {w : World} {B : Nat} {v : Value} {k : Nat} {L X : Int} (h : Tell w B v k L X) : ∃ B', B' = B ∧ Tell w B' v k L X := ⟨B, rfl, h⟩
theorem box4 {Wa W : World} (h : Below Wa.heap.size Wa W) {b c d f : Nat} {v0 v1 v2 v3 u0 u1 u2 u3 t0 t1 t2 t3 s0 s1 s2 s3 : Value} (lb : b < Wa.heap.size) (lc : c < Wa.heap.size) (ld : d < Wa.heap.size) (lf : f < Wa.heap.size)
    (K : Wa.cell? ⟨b, 0, none⟩ = some v0 ∧ Wa.cell? ⟨b, 1, none⟩ = some v1 ∧ Wa.cell? ⟨b, 2, none⟩ = some v2 ∧ Wa.cell? ⟨b, 3, none⟩ = some v3) (K' : Wa.cell? ⟨c, 0, none⟩ = some u0 ∧ Wa.cell? ⟨c, 1, none⟩ = some u1 ∧ Wa.cell? ⟨c, 2, none⟩ = some u2 ∧ Wa.cell? ⟨c, 3, none⟩ = some u3) (K'' : Wa.cell? ⟨d, 0, none⟩ = some t0 ∧ Wa.cell? ⟨d, 1, none⟩ = some t1 ∧ Wa.cell? ⟨d, 2, none⟩ = some t2 ∧ Wa.cell? ⟨d, 3, none⟩ = some t3) (K3 : Wa.cell? ⟨f, 0, none⟩ = some s0 ∧ Wa.cell? ⟨f, 1, none⟩ = some s1 ∧ Wa.cell? ⟨f, 2, none⟩ = some s2 ∧ Wa.cell? ⟨f, 3, none⟩ = some s3) :
    (W.cell? ⟨b, 0, none⟩ = some v0 ∧ W.cell? ⟨b, 1, none⟩ = some v1 ∧ W.cell? ⟨b, 2, none⟩ = some v2 ∧ W.cell? ⟨b, 3, none⟩ = some v3) ∧ (W.cell? ⟨c, 0, none⟩ = some u0 ∧ W.cell? ⟨c, 1, none⟩ = some u1 ∧ W.cell? ⟨c, 2, none⟩ = some u2 ∧ W.cell? ⟨c, 3, none⟩ = some u3) ∧ (W.cell? ⟨d, 0, none⟩ = some t0 ∧ W.cell? ⟨d, 1, none⟩ = some t1 ∧ W.cell? ⟨d, 2, none⟩ = some t2 ∧ W.cell? ⟨d, 3, none⟩ = some t3) ∧ (W.cell? ⟨f, 0, none⟩ = some s0 ∧ W.cell? ⟨f, 1, none⟩ = some s1 ∧ W.cell? ⟨f, 2, none⟩ = some s2 ∧ W.cell? ⟨f, 3, none⟩ = some s3) := ⟨box_keep h lb K, box_keep h lc K', box_keep h ld K'', box_keep h lf K3⟩
theorem box5 {Wa W : World} (h : Below Wa.heap.size Wa W) {b c d f g : Nat} {v0 v1 v2 v3 u0 u1 u2 u3 t0 t1 t2 t3 s0 s1 s2 s3 r0 r1 r2 r3 : Value} (lb : b < Wa.heap.size) (lc : c < Wa.heap.size) (ld : d < Wa.heap.size) (lf : f < Wa.heap.size) (lg : g < Wa.heap.size)
    (K : Wa.cell? ⟨b, 0, none⟩ = some v0 ∧ Wa.cell? ⟨b, 1, none⟩ = some v1 ∧ Wa.cell? ⟨b, 2, none⟩ = some v2 ∧ Wa.cell? ⟨b, 3, none⟩ = some v3) (K' : Wa.cell? ⟨c, 0, none⟩ = some u0 ∧ Wa.cell? ⟨c, 1, none⟩ = some u1 ∧ Wa.cell? ⟨c, 2, none⟩ = some u2 ∧ Wa.cell? ⟨c, 3, none⟩ = some u3) (K'' : Wa.cell? ⟨d, 0, none⟩ = some t0 ∧ Wa.cell? ⟨d, 1, none⟩ = some t1 ∧ Wa.cell? ⟨d, 2, none⟩ = some t2 ∧ Wa.cell? ⟨d, 3, none⟩ = some t3) (K3 : Wa.cell? ⟨f, 0, none⟩ = some s0 ∧ Wa.cell? ⟨f, 1, none⟩ = some s1 ∧ Wa.cell? ⟨f, 2, none⟩ = some s2 ∧ Wa.cell? ⟨f, 3, none⟩ = some s3) (K4 : Wa.cell? ⟨g, 0, none⟩ = some r0 ∧ Wa.cell? ⟨g, 1, none⟩ = some r1 ∧ Wa.cell? ⟨g, 2, none⟩ = some r2 ∧ Wa.cell? ⟨g, 3, none⟩ = some r3) :
    (W.cell? ⟨b, 0, none⟩ = some v0 ∧ W.cell? ⟨b, 1, none⟩ = some v1 ∧ W.cell? ⟨b, 2, none⟩ = some v2 ∧ W.cell? ⟨b, 3, none⟩ = some v3) ∧ (W.cell? ⟨c, 0, none⟩ = some u0 ∧ W.cell? ⟨c, 1, none⟩ = some u1 ∧ W.cell? ⟨c, 2, none⟩ = some u2 ∧ W.cell? ⟨c, 3, none⟩ = some u3) ∧ (W.cell? ⟨d, 0, none⟩ = some t0 ∧ W.cell? ⟨d, 1, none⟩ = some t1 ∧ W.cell? ⟨d, 2, none⟩ = some t2 ∧ W.cell? ⟨d, 3, none⟩ = some t3) ∧ (W.cell? ⟨f, 0, none⟩ = some s0 ∧ W.cell? ⟨f, 1, none⟩ = some s1 ∧ W.cell? ⟨f, 2, none⟩ = some s2 ∧ W.cell? ⟨f, 3, none⟩ = some s3) ∧ (W.cell? ⟨g, 0, none⟩ = some r0 ∧ W.cell? ⟨g, 1, none⟩ = some r1 ∧ W.cell? ⟨g, 2, none⟩ = some r2 ∧ W.cell? ⟨g, 3, none⟩ = some r3) := ⟨box_keep h lb K, box_keep h lc K', box_keep h ld K'', box_keep h lf K3, box_keep h lg K4⟩
theorem cell4 {w : World} {b : Nat} {u0 u1 u2 u3 : Value} (h0 : (w.cell? ⟨b, 0, none⟩).isSome = true) (h1 : (w.cell? ⟨b, 1, none⟩).isSome = true) (h2 : (w.cell? ⟨b, 2, none⟩).isSome = true) (h3 : (w.cell? ⟨b, 3, none⟩).isSome = true) :
    let W := (((w.setCell ⟨b, 0, none⟩ u0).setCell ⟨b, 1, none⟩ u1).setCell ⟨b, 2, none⟩ u2).setCell ⟨b, 3, none⟩ u3
    W.cell? ⟨b, 0, none⟩ = some u0 ∧ W.cell? ⟨b, 1, none⟩ = some u1 ∧ W.cell? ⟨b, 2, none⟩ = some u2 ∧ W.cell? ⟨b, 3, none⟩ = some u3 := by
  refine ⟨?_, ?_, ?_, ?_⟩ <;> simp [cell_some, cell_if, h0, h1, h2, h3]
theorem cmpZ_swap (x y : Int) : cmpZ y x = - cmpZ x y := by
  unfold cmpZ
  rcases Int.lt_trichotomy x y with h | h | h
  · rw [if_neg (by omega), if_neg (by omega), if_pos h]; rfl
  · rw [if_neg (by omega), if_pos h.symm, if_neg (by omega), if_pos h]; rfl
  · rw [if_pos h, if_neg (by omega), if_neg (by omega)]
theorem cmpZ_zero (x y : Int) : decide (x = y) = decide (cmpZ x y = 0) := by
  unfold cmpZ
  rcases Int.lt_trichotomy x y with h | h | h
  · rw [if_pos h]; simp; omega
  · rw [if_neg (by omega), if_pos h]; simp [h]
  · rw [if_neg (by omega), if_neg (by omega)]; simp; omega
theorem cmpZ_neg (x : Int) : cmpZ (-x) 0 = - cmpZ x 0 := by
  unfold cmpZ
  rcases Int.lt_trichotomy x 0 with h | h | h
  · rw [if_neg (by omega), if_neg (by omega), if_pos h]; rfl
  · subst h; rfl
  · rw [if_pos (by omega), if_neg (by omega), if_neg (by omega)]
/-- A count of calls. -/
def Cnt (n : Nat) : Prop := n = n
theorem Cnt.mk (n : Nat) : Cnt n := rfl
set_option maxHeartbeats 2000000 in
theorem dUp (v : Value) (w : World) (B : Nat) (L X : Int) (b : Int) (h : Tell w B v 17 L X) (hL : L ≤ 400) (hL0 : 17 ≤ L) (hb : (rk 17 X).1 = b) (b0 : 0 ≤ b) (b1 : b < 18446744073709551616) (hf : mag b < 9218868437227405312) (hlt : xv b < X) :
    Calls Try.prog 31 #[v] w fun e w' => e = .returned (.int .u64 (wNext b)) ∧ Below w.heap.size w w' := by
  have H : Hid (Tell w B v 17 L X) := h
  have HF : Hid (decide (mag b < 9218868437227405312) = true) := decide_eq_true hf
  have HC : Hid (cmpZ (xv b) X = -1) := if_pos hlt
  have HB : Hid (_ = _) := hb
  obtain ⟨na, A1, n1, c1, p, rfl⟩ := h.form
  clear h hf hlt hb
  go_enter Try.func31, Try.ntmps31
  go_wp2_with (first | (go_at_call 22; refine (dNearN _ _ B 17 L X (H.out.below (by repeat (first | (refine Below.drew ?_) | (refine Below.alloc ?_ (by first | omega | (simp <;> omega)) _) | (refine Below.setCell ?_ (by first | omega | (simp <;> omega)) _) | exact Below.refl _ _))) (by omega) hL).mono ?_; rintro e w1 ⟨rfl, hb1⟩; rw [HB.out]; obtain ⟨hc1, hf1⟩ := bcell hb1; have hv1 : w.heap.size < w1.heap.size := (by have := hb1.size; simp at this; omega); have hx1 : Below w.heap.size w w1 := (Below.trans (by repeat (first | (refine Below.drew ?_) | (refine Below.alloc ?_ (by first | omega | (simp <;> omega)) _) | (refine Below.setCell ?_ (by first | omega | (simp <;> omega)) _) | exact Below.refl _ _)) (hb1.mono (by first | omega | (simp <;> omega)))); clear hb1) | (go_at_call 19; refine (dOf _ _ b0 b1).mono ?_; rintro e w2 ⟨r, rfl, ht, hb2⟩; rw [HF.out]; obtain ⟨neg', a', n', c', p', rfl⟩ := ht.form; have T : Hid (Tell _ _ _ _ _ _) := ht; obtain ⟨hc2, hf2⟩ := bcell hb2; have hv2 : w.heap.size < w2.heap.size := (by have := hb2.size; omega); have hx2 : Below w.heap.size w w2 := (hx1.trans (hb2.mono (by omega))); clear hb2 ht) | (go_at_call 26; refine (dCmp _ _ _ 0 17 L (xv b) X (((T.out.base (Nat.zero_le _)).wide L (by omega)).below (by repeat (first | (refine Below.drew ?_) | (refine Below.alloc ?_ (by first | omega | (simp <;> omega)) _) | (refine Below.setCell ?_ (by first | omega | (simp <;> omega)) _) | exact Below.refl _ _))) ((H.out.base (Nat.zero_le _)).below (by repeat (first | exact hx2 | (refine Below.drew ?_) | (refine Below.alloc ?_ (by first | omega | (simp <;> omega)) _) | (refine Below.setCell ?_ (by first | omega | (simp <;> omega)) _) | exact Below.refl _ _))) (by omega) (by omega)).mono ?_; rintro e w3 ⟨rfl, hb3⟩; rw [HC.out]; have hx3 : Below w.heap.size w w3 := (Below.trans (by repeat (first | exact hx2 | (refine Below.drew ?_) | (refine Below.alloc ?_ (by first | omega | (simp <;> omega)) _) | (refine Below.setCell ?_ (by first | omega | (simp <;> omega)) _) | exact Below.refl _ _)) (hb3.mono (by first | omega | (simp <;> omega)))); clear hb3) | (go_at_call 32; refine (next_any _ _ b0 b1).mono ?_; rintro e w' ⟨rfl, rfl⟩))
  go_ret
  exact ⟨rfl, hx3⟩
set_option maxHeartbeats 2000000 in
theorem lOf (b : Int) (w : World) (h0 : 0 ≤ b) (h1 : b < 18446744073709551616) :
    Calls Try.prog 13 #[.int .u64 b] w fun e w' => ∃ v, e = .returned v ∧ Tell w' w.heap.size v 17 17 (xv b) ∧ Below w.heap.size w w' := by
  go_enter Try.func13, Try.ntmps13
  go_wp2_with (first | (go_at_call 19; refine (dOf _ _ h0 h1).mono ?_; rintro e w1 ⟨r, rfl, ht, hb1⟩; obtain ⟨neg', a', n', c', p', rfl⟩ := ht.form; have T : Hid (Tell _ _ _ _ _ _) := ht; obtain ⟨hc1, hf1⟩ := bcell hb1; have hv1 : w.heap.size < w1.heap.size := (by have := hb1.size; simp at this; omega); have hx1 : Below w.heap.size w w1 := (Below.trans (by repeat (first | (refine Below.drew ?_) | (refine Below.alloc ?_ (by first | omega | (simp <;> omega)) _) | (refine Below.setCell ?_ (by first | omega | (simp <;> omega)) _) | exact Below.refl _ _)) (hb1.mono (by first | omega | (simp <;> omega)))); have hn1 : ¬ w.heap.size = w1.heap.size := (by omega); have hm1 : w.heap.size < w1.heap.size + 1 := (by omega); clear hb1 ht))
  refine bodyPost_ret (v := .agg #[.bool neg', .slice a' n' c', .int .i64 p', .slice none 0 0]) (by simp [results, Try.results13, go_sem, *]) rfl ⟨_, rfl, ?_, (by repeat (first | exact hx1 | (refine Below.drew ?_) | (refine Below.alloc ?_ (by first | omega | (simp <;> omega)) _) | (refine Below.setCell ?_ (by first | omega | (simp <;> omega)) _) | exact Below.refl _ _))⟩
  refine Tell.base (b := w.heap.size + 1) ?_ (by omega)
  repeat (first | exact T.out.base (by simp) | (refine Tell.set ?_ (by simp) _) | (refine Tell.below ?_ ((Below.refl _ _).alloc (Nat.le_refl _) _)))
theorem V_one' (k : Nat) (hk : k = 1022) : V 4607182418800017408 = 4503599627370496 * 2 ^ k := by rw [hk]; exact V_one
theorem xv_one (q k : Nat) (hk : k = 1022) (hq : q = 2 ^ k) : xv 4607182418800017408 = (q : Int) * 73786976294838206464 := by
  unfold xv
  rw [if_pos (by rw [mag_one]; decide)]
  unfold sv
  rw [mag_one, V_one' k hk, ← hq, show sgn 4607182418800017408 = false by decide +kernel]
  simp only [Bool.false_eq_true, if_false]
  omega
theorem two_head (q k : Nat) (hq : q = 2 ^ k) : (2 : Nat) ^ (k + 6) = q * 64 := by
  rw [hq, Nat.pow_add]
theorem head_num (q k : Nat) (hk : k = 1022) (hq : q = 2 ^ k) : rk 17 ((q : Int) * 73786976294838206464 + ((q * 64 : Nat) : Int)) = (4607182418800017408, 1) := by
  have e : (q : Int) * 73786976294838206464 + ((q * 64 : Nat) : Int) = ((73786976294838206528 * q : Nat) : Int) := by omega
  rw [e]
  have hs : decide (((73786976294838206528 * q : Nat) : Int) < 0) = false := by
    rw [decide_eq_false_iff_not]
    omega
  unfold rk
  rw [hs, Int.natAbs_natCast, hq, numP_scale, flagP_scale]
  have n1 : numP 73786976294838206528 (-(64 * ((17 : Nat) : Int)) + (k : Int)) = 4607182418800017408 := by rw [hk]; decide +kernel
  have n2 : flagP 73786976294838206528 (-(64 * ((17 : Nat) : Int)) + (k : Int)) = 1 := by rw [hk]; decide +kernel
  rw [n1, n2]
  rfl
theorem clamp60 : clampT (-60) = -60 := by decide
set_option maxHeartbeats 4000000 in
theorem lHead7 (w : World) : Calls Try.prog 7 #[] w fun e w' => e = .returned (.bool true) ∧ Below w.heap.size w w' := by
  obtain ⟨k, hk⟩ : ∃ k : Nat, k = 1022 := ⟨_, rfl⟩
  obtain ⟨q, hq⟩ : ∃ q : Nat, q = 2 ^ k := ⟨_, rfl⟩
  have X1 : Hid (_ = _) := xv_one q k hk hq
  have X2 : Hid ((2 : Nat) ^ (k + 6) = q * 64) := two_head q k hq
  have HN : Hid (rk 17 ((q : Int) * 73786976294838206464 + ((q * 64 : Nat) : Int)) = (4607182418800017408, 1)) := head_num q k hk hq
  have hq0 : 0 < q := by rw [hq]; exact Nat.two_pow_pos _
  have LT : Hid (xv 4607182418800017408 < (q : Int) * 73786976294838206464 + ((q * 64 : Nat) : Int)) := by
    show _ < _
    rw [X1.out]
    omega
  have NX : Hid (wNext 4607182418800017408 = 4607182418800017409) := by show _ = _; decide +kernel
  have MF : Hid (mag 4607182418800017408 < 9218868437227405312) := by show _ < _; rw [mag_one]; decide
  have HK : Hid (k = 1022) := hk
  clear hq hk
  go_enter Try.func7, Try.ntmps7
  go_wp2_with fail
  refine (lOf _ _ (by omega) (by omega)).mono ?_
  rintro e w1 ⟨v1, rfl, t1, hb1⟩
  have T1 : Hid (Tell _ _ _ _ _ _) := t1
  obtain ⟨neg1, a1, n1, c1, p1, rfl⟩ := t1.form
  clear t1
  go_wp2_with fail
  refine (dTwo _ _).mono ?_
  rintro e w2 ⟨v2, rfl, t2, hb2⟩
  have t2' := t2 17 17 (by rw [clamp60]; omega) (by rw [clamp60]; omega) (by omega)
  rw [clamp60, show ((-60 : Int) + 64 * ((17 : Nat) : Int)).toNat = k + 6 by have := HK.out; omega, X2.out] at t2'
  have T2 : Hid (Tell _ _ _ _ _ _) := t2'
  obtain ⟨neg2, a2, n2, c2, p2, rfl⟩ := t2'.form
  clear t2 t2'
  have hx2 : Below w.heap.size w w2 := hb1.trans (hb2.mono hb1.size)
  have T1' : Hid (Tell w2 _ _ _ _ _) := T1.out.below hb2
  clear hb1 hb2 T1
  go_wp2_with fail
  refine (dAdd _ _ _ 0 17 17 _ _ (T1'.out.base (Nat.zero_le _)) (T2.out.base (Nat.zero_le _)) (by omega) (by omega) (by omega)).mono ?_
  rintro e w3 ⟨v3, rfl, t3, hb3⟩
  rw [X1.out] at t3
  have T3 : Hid (Tell _ _ _ _ _ _) := t3
  obtain ⟨neg3, a3, n3, c3, p3, rfl⟩ := t3.form
  have hx3 : Below w.heap.size w w3 := hx2.trans (hb3.mono hx2.size)
  clear t3 hb3 T1' T2 hx2
  go_wp2_with (first | (go_at_call 22; refine (dNearN _ _ 0 17 (17 + 1) _ ((T3.out.base (Nat.zero_le _)).below (by repeat (first | (refine Below.drew ?_) | (refine Below.alloc ?_ (by first | omega | (simp <;> omega)) _) | (refine Below.setCell ?_ (by first | omega | (simp <;> omega)) _) | exact Below.refl _ _))) (by omega) (by omega)).mono ?_; rintro e w4 ⟨rfl, hb4⟩; rw [HN.out]; obtain ⟨hc4, hf4⟩ := bcell hb4; have hv4 : w3.heap.size < w4.heap.size := (by have := hb4.size; simp at this; omega); have hx4 : Below w3.heap.size w3 w4 := (Below.trans (by repeat (first | (refine Below.drew ?_) | (refine Below.alloc ?_ (by first | omega | (simp <;> omega)) _) | (refine Below.setCell ?_ (by first | omega | (simp <;> omega)) _) | exact Below.refl _ _)) (hb4.mono (by first | omega | (simp <;> omega)))); clear hb4) | (go_at_call 31; refine (dUp _ _ 0 (17 + 1) _ 4607182418800017408 ((T3.out.base (Nat.zero_le _)).below hx4) (by omega) (by omega) (by rw [HN.out]) (by omega) (by omega) MF.out LT.out).mono ?_; rintro e w5 ⟨rfl, hb5⟩; rw [NX.out]; have hx5 : Below w3.heap.size w3 w5 := (hx4.trans (hb5.mono (by have := hx4.size; omega))); clear hb5) | (go_at_call 32; refine (next_any _ _ (by omega) (by omega)).mono ?_; rintro e w' ⟨rfl, rfl⟩; rw [NX.out]))
  go_ret
  exact ⟨rfl, hx3.trans (hx5.mono hx3.size)⟩
end Go.Proofs.Ytgpgmnmifhkmbaa
