/-
  What Mul of package dyad returns: a product. Conditions: lists are short, places small.
-/
import Derived.Test.YtgpgmnmifhkmbaaMulD
import Derived.Test.YtgpgmnmifhkmbaaTrimC
namespace Go.Proofs.Ytgpgmnmifhkmbaa
open Go.RowKit
set_option linter.unusedVariables false
set_option linter.unusedSimpArgs false

theorem mul_math (na nb : Bool) (P Q p q : Int) (K1 K2 : Nat) (h1 : -(K1 : Int) ≤ p) (h2 : -(K2 : Int) ≤ q) :
    sg (na != nb) * (P * Q * pw (p + q + (K1 + K2 : Nat)).toNat) = sg na * (P * pw (p + K1).toNat) * (sg nb * (Q * pw (q + K2).toNat)) := by
  rw [sg_mul, show (p + q + ((K1 + K2 : Nat) : Int)).toNat = (p + K1).toNat + (q + K2).toNat by omega, pw_add]
  grind
set_option maxHeartbeats 4000000 in
theorem dMul (a b : Value) (w : World) (B K1 K2 : Nat) (L1 L2 X Y : Int) (ha : Tell w B a K1 L1 X) (hb : Tell w B b K2 L2 Y) (hk1 : K1 ≤ 90000) (hL1 : L1 ≤ 90000) (hk2 : K2 ≤ 90000) (hL2 : L2 ≤ 90000) (h01 : 0 ≤ L1) (h02 : 0 ≤ L2) :
    Calls Try.prog 17 #[a, b] w fun e w' => ∃ r, e = .returned r ∧ Tell w' w.heap.size r (K1 + K2) (L1 + L2) (X * Y) ∧ Below w.heap.size w w' := by
  obtain ⟨na, xs, p, ⟨sa, rfl, a1, a9⟩, a2, a3, a4, a5⟩ := ha
  obtain ⟨nb, ys, q, ⟨sb, rfl, b1, b9⟩, b2, b3, b4, b5⟩ := hb
  have la := tell_len a3 a4 (by omega) (by omega)
  have lb := tell_len b3 b4 (by omega) (by omega)
  have S1 : Hid (SeesW w B sa xs) := a1
  have S2 : Hid (SeesW w B sb ys) := b1
  obtain ⟨A1, c1, rfl⟩ := a1.len
  obtain ⟨A2, c2, rfl⟩ := b1.len
  have I1 : Hid (InW xs) := a2.1
  have I2 : Hid (InW ys) := b2.1
  have MM : Hid (sg (na != nb) * (dv xs * dv ys * pw (p + q + (K1 + K2 : Nat)).toNat) = X * Y) := by rw [a5, b5]; exact mul_math na nb _ _ p q K1 K2 a3 b3
  obtain ⟨l1, l2, l3⟩ := la
  obtain ⟨m1, m2, m3⟩ := lb
  have LX : Hid (_ ≤ _) := l1
  have LY : Hid (_ ≤ _) := m1
  obtain ⟨n1, hn1⟩ : ∃ n, n = xs.length := ⟨_, rfl⟩
  obtain ⟨n2, hn2⟩ : ∃ n, n = ys.length := ⟨_, rfl⟩
  have N1 : Hid (_ = _) := hn1
  have N2 : Hid (_ = _) := hn2
  rw [← hn1] at S1 l1 a4 ⊢
  rw [← hn2] at S2 m1 b4 ⊢
  have A4 : Hid (_ ≤ _) := a4
  have B4 : Hid (_ ≤ _) := b4
  have P3 : Hid (_ ≤ _) := a3
  have Q3 : Hid (_ ≤ _) := b3
  obtain ⟨nn, hnn⟩ : ∃ x, x = (na != nb) := ⟨_, rfl⟩
  have hnn' : (!(na == nb)) = nn := hnn.symm
  rw [← hnn] at MM
  clear a1 a2 a4 a5 b1 b2 b4 b5 a9 b9 hn1 hn2 a3 b3 hnn
  go_enter Try.func17, Try.ntmps17
  go_wp2_with fail
  go_region_held3 (fun w' => w'.cell? ⟨w.heap.size, 0, none⟩ = some (.bool na) ∧ w'.cell? ⟨w.heap.size, 1, none⟩ = some (.slice A1 n1 c1) ∧ w'.cell? ⟨w.heap.size, 2, none⟩ = some (.int .i64 p) ∧ w'.cell? ⟨w.heap.size, 3, none⟩ = some (.slice none 0 0) ∧ w'.cell? ⟨w.heap.size + 1, 0, none⟩ = some (.bool nb) ∧ w'.cell? ⟨w.heap.size + 1, 1, none⟩ = some (.slice A2 n2 c2) ∧ w'.cell? ⟨w.heap.size + 1, 2, none⟩ = some (.int .i64 q) ∧ w'.cell? ⟨w.heap.size + 1, 3, none⟩ = some (.slice none 0 0)) (simp [go_sem, *]) (first | (go_at_call 45; refine (dProduct _ _ xs ys _ B (S1.out.below (by repeat (first | (refine Below.drew ?_) | (refine Below.alloc ?_ (by first | omega | (simp <;> omega)) _) | (refine Below.setCell ?_ (by first | omega | (simp <;> omega)) _) | exact Below.refl _ _))) (S2.out.below (by repeat (first | (refine Below.drew ?_) | (refine Below.alloc ?_ (by first | omega | (simp <;> omega)) _) | (refine Below.setCell ?_ (by first | omega | (simp <;> omega)) _) | exact Below.refl _ _))) I1.out I2.out LX.out LY.out).mono ?_; rintro e w1 ⟨zs, rfl, Lz, Rz, Iz, Dz, hb1⟩; obtain ⟨hc1, hf1⟩ := bcell hb1; have hz1 : w.heap.size + 1 + 1 < w1.heap.size := (by have := hb1.size; simp at this; omega); have hy1 : w.heap.size + 1 < w1.heap.size := (by omega); have hv1 : w.heap.size < w1.heap.size := (by omega); have hx1 : Below w.heap.size w w1 := (Below.trans (by repeat (first | (refine Below.drew ?_) | (refine Below.alloc ?_ (by first | omega | (simp <;> omega)) _) | (refine Below.setCell ?_ (by first | omega | (simp <;> omega)) _) | exact Below.refl _ _)) (hb1.mono (by first | omega | (simp <;> omega)))); have LZ : Hid (zs.length = xs.length + ys.length) := Lz; have IZ : Hid (InW _) := Iz; have DZ : Hid (_ = _) := Dz; simp at Rz; have RZ : Hid (RowU _ _ _) := Rz; clear hb1 Lz Iz Dz Rz) | (go_at_call 46; refine (dPlus _ _ _ (by omega) (by omega) (by omega) (by omega)).mono ?_; rintro e w2 ⟨rfl, hb2⟩; obtain ⟨hc2, hf2⟩ := bcell hb2; have hz2 : w.heap.size + 1 + 1 < w2.heap.size := (by have := hb2.size; omega); have hy2 : w.heap.size + 1 < w2.heap.size := (by omega); have hv2 : w.heap.size < w2.heap.size := (by omega); have hx2 : Below w.heap.size w w2 := (hx1.trans (hb2.mono (by omega))); have RZ2 : Hid (RowU w2 _ _) := RZ.out.below hb2; clear hb2) | (go_at_call 44; refine (dTrim _ _ 0 _ (w.heap.size + 3) zs _ _ (RZ2.out.sees_all _ (Nat.le_refl _) (by have := LX.out; have := LY.out; have := LZ.out; unfold maxLen; omega)) IZ.out (by have := LX.out; have := LY.out; have := LZ.out; omega) (by omega) (by omega) (by omega)).mono ?_; rintro e w3 ⟨r, rfl, ht, hb3⟩; obtain ⟨neg', a', n', c', p', rfl⟩ := (ht 300000 1000000 (by omega) (by have := LX.out; have := LY.out; have := LZ.out; omega) (by omega)).form; have T := (ht (K1 + K2) (L1 + L2) (by have := P3.out; have := Q3.out; omega) (by rw [LZ.out, ← N1.out, ← N2.out]; have := A4.out; have := B4.out; omega) (by omega)).eq (show _ = X * Y by rw [DZ.out]; exact MM.out); have TT : Hid (Tell _ _ _ _ _ _) := T; obtain ⟨hc3, hf3⟩ := bcell hb3; have hz3 : w.heap.size + 1 + 1 < w3.heap.size := (by have := hb3.size; omega); have hy3 : w.heap.size + 1 < w3.heap.size := (by omega); have hv3 : w.heap.size < w3.heap.size := (by omega); have hx3 : Below w.heap.size w w3 := (hx2.trans (hb3.mono (by omega))); clear hb3 ht T))
  go_wp2
  refine bodyPost_ret (v := .agg #[.bool neg', .slice a' n' c', .int .i64 p', .slice none 0 0]) (by simp [results, Try.results17, go_sem, *]) rfl ⟨_, rfl, ?_, (by repeat (first | exact hx3 | (refine Below.drew ?_) | (refine Below.alloc ?_ (by first | omega | (simp <;> omega)) _) | (refine Below.setCell ?_ (by first | omega | (simp <;> omega)) _) | exact Below.refl _ _))⟩
  refine Tell.base (b := w.heap.size + 3) ?_ (by omega)
  repeat (first | exact TT.out | (refine Tell.set ?_ (by simp) _))
end Go.Proofs.Ytgpgmnmifhkmbaa
