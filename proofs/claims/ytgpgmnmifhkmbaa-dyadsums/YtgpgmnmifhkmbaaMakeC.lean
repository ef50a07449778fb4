/-
  What ofWord, Of, Int and Two of package dyad return. Conditions: exponents are small (Two: any).
-/
import Derived.Test.YtgpgmnmifhkmbaaTrimC
import Derived.Test.YtgpgmnmifhkmbaaPartM
import Derived.Test.YtgpgmnmifhkmbaaSoftM
import Derived.Test.YtgpgmnmifhkmbaaWordC
namespace Go.Proofs.Ytgpgmnmifhkmbaa
open Go.RowKit
set_option linter.unusedVariables false

theorem SeesU.two (w : World) (x y : Int) : SeesU (w.alloc (.cells #[.int .u64 x, .int .u64 y] 22)) (.slice (some ⟨w.heap.size, 0, none⟩) 2 2) [x, y] := by
  refine ⟨w.heap.size, 0, 2, rfl, by simp, Nat.le_refl _, by unfold maxLen; omega, fun i hi => ?_⟩
  have : i = 0 ∨ i = 1 := by simp at hi; omega
  rcases this with rfl | rfl <;> (rw [World.cell?_alloc_at _ _ _ _ rfl]; rfl)
theorem SeesU.two' (w : World) (b : Nat) (x y : Int) (hb : b = w.heap.size) : SeesU (w.alloc (.cells #[.int .u64 x, .int .u64 y] 22)) (.slice (some ⟨b, 0, none⟩) 2 2) [x, y] := hb ▸ SeesU.two w x y
theorem shr6 (e : Int) : e >>> 6 = e / 64 := by rw [Int.shiftRight_eq_div_pow]; rfl
theorem ofw_math (x e h l : Int) (k : Nat) (x0 : 0 ≤ x) (x1 : x < 18446744073709551616) (h0 : 0 ≤ h) (l0 : 0 ≤ l) (K : wid h l = 2 ^ (e % 64).toNat * wid 0 x % 2 ^ 128) (hk : -(64 * (k : Int)) ≤ e) :
    dv [l, h] * pw (e / 64 + k).toNat = x * ((2 ^ (e + 64 * k).toNat : Nat) : Int) := by
  obtain ⟨X, rfl⟩ := Int.eq_ofNat_of_zero_le x0
  obtain ⟨r, hr⟩ : ∃ r : Nat, (e % 64).toNat = r := ⟨_, rfl⟩
  have hr64 : r < 64 := by omega
  rw [hr] at K
  have hX : wid 0 (X : Int) = X := by unfold wid; omega
  rw [hX] at K
  have hp : 2 ^ r ≤ 2 ^ 63 := Nat.pow_le_pow_right (by decide) (by omega)
  have hlt : 2 ^ r * X < 2 ^ 128 := by
    have : 2 ^ r * X ≤ 2 ^ 63 * X := Nat.mul_le_mul_right _ hp
    omega
  rw [Nat.mod_eq_of_lt hlt] at K
  have e1 : dv [l, h] = ((2 ^ r * X : Nat) : Int) := by
    rw [← K, dv_cons, dv_cons, dv_nil]; unfold wid; omega
  rw [e1, pw_two, show (e + 64 * (k : Int)).toNat = r + 64 * (e / 64 + k).toNat by omega, Nat.pow_add]
  rw [Int.natCast_mul, Int.natCast_mul]
  grind
set_option maxHeartbeats 1000000 in
theorem dOfWord (neg : Bool) (x e : Int) (w : World) (x0 : 0 ≤ x) (x1 : x < 18446744073709551616) (e0 : -2000000 ≤ e) (e1 : e ≤ 2000000) :
    Calls Try.prog 48 #[.bool neg, .int .u64 x, .int .i64 e] w fun r w' => ∃ v, r = .returned v ∧ (∀ (k : Nat) (L : Int), -(64 * (k : Int)) ≤ e → e / 64 + 2 ≤ L → 0 ≤ L → Tell w' w.heap.size v k L (sg neg * (x * ((2 ^ (e + 64 * k).toNat : Nat) : Int)))) ∧ Below w.heap.size w w' := by
  have a63 := and_63_i e
  go_enter Try.func48, Try.ntmps48
  go_wp2_with fail
  refine (wLeft _ _ _ _ (by omega) (by omega) x0 x1 (by omega)).mono ?_
  rintro r w1 ⟨h, l, rfl, k0, k1, k2, k3, k4, hb1⟩
  have hx0 : Below w.heap.size w w1 := Below.trans (by repeat (first | exact Below.refl _ _ | (refine Below.alloc ?_ (by simp <;> omega) _))) (hb1.mono (by simp <;> omega))
  obtain ⟨hc, hf⟩ := bcell hb1
  have hz : w.heap.size < w1.heap.size := by have := hb1.size; simp at this; omega
  have hy : w.heap.size < w1.heap.size + 1 := by omega
  have hy' : w.heap.size < w1.heap.size + 1 + 1 := by omega
  have hy'' : ¬ w.heap.size = w1.heap.size := by omega
  have hy3 : ¬ w.heap.size = w1.heap.size + 1 := by omega
  have K4 : Hid (_ = _) := k4
  clear k4 hb1
  go_wp2_with fail
  go_region_held3 (fun w' => w'.cell? ⟨w1.heap.size, 0, none⟩ = some (.int .u64 h) ∧ w'.cell? ⟨w1.heap.size, 1, none⟩ = some (.int .u64 l)) (simp [go_sem, *]) (first | (go_at_call 70; refine (dPlaceOf _ _ (by omega) (by omega)).mono ?_; rintro e w2 ⟨rfl, hb2⟩; obtain ⟨hc2, hf2⟩ := bcell hb2; have hz2 : w1.heap.size < w2.heap.size := (by have := hb2.size; simp at this; omega); have hy2 : w.heap.size < w2.heap.size := (by omega); have hy9 : w.heap.size < w2.heap.size + 1 := (by omega); have hy8 : ¬ w.heap.size = w2.heap.size := (by omega); have hx2 : Below w.heap.size w w2 := (Below.trans (by repeat (first | exact hx0 | (refine Below.drew ?_) | (refine Below.alloc ?_ (by first | omega | (simp <;> omega)) _) | (refine Below.setCell ?_ (by first | omega | (simp <;> omega)) _) | exact Below.refl _ _)) (hb2.mono (by first | omega | (simp <;> omega))))) | (go_at_call 44; refine (dTrim neg _ 0 2 (w.heap.size + 1) [l, h] _ _ (by first | exact (SeesU.two' _ _ _ _ (by simp)).below ((Below.refl _ _).drew.trans hb2) | exact SeesU.two' _ _ _ _ (by simp) | exact (SeesU.two' _ _ _ _ (by simp)).below hb2 | exact (SeesU.two' _ _ _ _ (by simp)).below (Below.refl _ _).drew) (InW.mk k2 k3 (InW.mk k0 k1 InW.nil)) (by simp) (by first | omega | (simp <;> omega)) (by omega) (by omega)).mono ?_; rintro e w3 ⟨v, rfl, ht, hb3⟩; obtain ⟨neg', a', n', c', p', rfl⟩ := (ht 40000 40000 (by omega) (by simp; omega) (by omega)).form; have T : Hid (∀ (k : Nat) (L : Int), _) := ht; clear ht; obtain ⟨hc3, hf3⟩ := bcell hb3; have hz3 : w1.heap.size < w3.heap.size := (by have := hb3.size; first | omega | (simp at this; omega)); have hyy3 : w.heap.size < w3.heap.size := (by omega); have hx3 : Below w.heap.size w w3 := (Below.trans (by repeat (first | exact hx2 | (refine Below.drew ?_) | (refine Below.alloc ?_ (by first | omega | (simp <;> omega)) _) | (refine Below.setCell ?_ (by first | omega | (simp <;> omega)) _) | exact Below.refl _ _)) (hb3.mono (by first | omega | (simp <;> omega))))))
  all_goals
    go_wp2
    refine bodyPost_ret (v := .agg #[.bool neg', .slice a' n' c', .int .i64 p', .slice none 0 0]) (by simp [results, Try.results48, go_sem, *]) rfl ⟨_, rfl, ?_, (by repeat (first | exact hx3 | (refine Below.drew ?_) | (refine Below.alloc ?_ (by first | omega | (simp <;> omega)) _) | (refine Below.setCell ?_ (by first | omega | (simp <;> omega)) _) | exact Below.refl _ _))⟩
    intro k L g1 g2 g3
    have t := (T.out k L (by omega) (by simp; omega) g3).eq (congrArg (sg neg * ·) (ofw_math x e h l k x0 x1 k0 k2 K4.out g1))
    refine Tell.base (b := w.heap.size + 1) ?_ (by omega)
    repeat (first | exact t | (refine Tell.set ?_ (by simp) _))
end Go.Proofs.Ytgpgmnmifhkmbaa
