/-
  What Add and Sub of package dyad return: sums and differences. Conditions: lists are short, places small.
-/
import Derived.Test.YtgpgmnmifhkmbaaAddC
import Derived.Test.YtgpgmnmifhkmbaaCmpD
namespace Go.Proofs.Ytgpgmnmifhkmbaa
open Go.RowKit
set_option linter.unusedVariables false
set_option linter.unusedSimpArgs false

theorem sg_two (na nb : Bool) (h : na ≠ nb) (P Q : Int) : sg na * (P - Q) = sg na * P + sg nb * Q := by cases na <;> cases nb <;> simp [sg] at h ⊢ <;> omega
theorem cmp_le (P Q : Int) (h : ¬ cmpZ P Q < 0) : Q ≤ P := by
  unfold cmpZ at h
  split at h <;> omega
theorem cmp_lt (P Q : Int) (h : cmpZ P Q < 0) : P ≤ Q := by
  unfold cmpZ at h
  repeat' split at h
  all_goals omega
set_option maxHeartbeats 8000000 in
theorem dAdd (a b : Value) (w : World) (B K : Nat) (L X Y : Int) (ha : Tell w B a K L X) (hb : Tell w B b K L Y) (hk : K ≤ 90000) (hL : L ≤ 90000) (hL0 : 0 ≤ L) :
    Calls Try.prog 14 #[a, b] w fun e w' => ∃ r, e = .returned r ∧ Tell w' w.heap.size r K (L + 1) (X + Y) ∧ Below w.heap.size w w' := by
  have HA : Hid (Tell w B a K L X) := ha
  have HB : Hid (Tell w B b K L Y) := hb
  obtain ⟨na, xs, p, ⟨sa, rfl, a1, a9⟩, a2, a3, a4, a5⟩ := ha
  obtain ⟨nb, ys, q, ⟨sb, rfl, b1, b9⟩, b2, b3, b4, b5⟩ := hb
  have la := tell_len a3 a4 (by omega) (by omega)
  have lb := tell_len b3 b4 (by omega) (by omega)
  have S1 : Hid (SeesW w B sa xs) := a1
  have S2 : Hid (SeesW w B sb ys) := b1
  obtain ⟨A1, c1, rfl⟩ := a1.len
  obtain ⟨A2, c2, rfl⟩ := b1.len
  have sx : cmpZ X 0 = if xs = [] then 0 else if na then -1 else 1 := by rw [a5]; exact tell_sign a2
  have sy : cmpZ Y 0 = if ys = [] then 0 else if nb then -1 else 1 := by rw [b5]; exact tell_sign b2
  obtain ⟨z, hz⟩ : ∃ z, z = cmpZ X 0 := ⟨_, rfl⟩
  obtain ⟨y, hy⟩ : ∃ y, y = cmpZ Y 0 := ⟨_, rfl⟩
  have zb := cmpZ_bd X 0
  have yb := cmpZ_bd Y 0
  have PX : Hid (sg (decide (z < 0)) * (X.natAbs : Int) = X) := by rw [hz]; exact pos_sg X
  have PY : Hid (sg (decide (y < 0)) * (Y.natAbs : Int) = Y) := by rw [hy]; exact pos_sg Y
  have X0 : Hid (z = 0 → X = 0) := by
    intro h
    rw [hz, sx] at h
    by_cases g : xs = []
    · rw [a5, g, dv_nil, Int.zero_mul, Int.mul_zero]
    · rw [if_neg g] at h; split at h <;> omega
  have Y0 : Hid (y = 0 → Y = 0) := by
    intro h
    rw [hy, sy] at h
    by_cases g : ys = []
    · rw [b5, g, dv_nil, Int.zero_mul, Int.mul_zero]
    · rw [if_neg g] at h; split at h <;> omega
  have XN : Hid (z ≠ 0 → xs ≠ []) := by intro h g; rw [hz, sx, if_pos g] at h; exact h rfl
  have YN : Hid (y ≠ 0 → ys ≠ []) := by intro h g; rw [hy, sy, if_pos g] at h; exact h rfl
  rw [← hz] at zb
  rw [← hy] at yb
  have HX : Hid (_ = _) := hz
  have HY : Hid (_ = _) := hy
  have A2' : Hid (Norm xs) := a2
  have B2' : Hid (Norm ys) := b2
  have A5 : Hid (_ = _) := a5
  have B5 : Hid (_ = _) := b5
  have A4 : Hid (_ ≤ _) := a4
  have B4 : Hid (_ ≤ _) := b4
  have A9 : Hid (xs = [] → p = 0) := a9
  have B9 : Hid (ys = [] → q = 0) := b9
  obtain ⟨l1, l2, l3⟩ := la
  obtain ⟨m1, m2, m3⟩ := lb
  have LX : Hid (_ ≤ _) := l1
  have LY : Hid (_ ≤ _) := m1
  obtain ⟨n1, hn1⟩ : ∃ n, n = xs.length := ⟨_, rfl⟩
  obtain ⟨n2, hn2⟩ : ∃ n, n = ys.length := ⟨_, rfl⟩
  rw [← hn1] at HA S1 l1 ⊢
  rw [← hn2] at HB S2 m1 ⊢
  have P3 : Hid (_ ≤ _) := a3
  have Q3 : Hid (_ ≤ _) := b3
  clear hz hy sx sy a1 a2 a4 a5 b1 b2 b4 b5 a9 b9 hn1 hn2 a3 b3
  obtain ⟨zb0, zb1⟩ := zb
  obtain ⟨yb0, yb1⟩ := yb
  by_cases h0 : z = 0
  · have e0 : X = 0 := X0.out h0
    clear X0 XN
    subst h0
    go_enter Try.func14, Try.ntmps14
    go_wp2_with (first | (go_at_call_of 21 A1; refine (dSign _ _ B K L X (HA.out.below (by repeat (first | (refine Below.drew ?_) | (refine Below.alloc ?_ (by first | omega | (simp <;> omega)) _) | (refine Below.setCell ?_ (by first | omega | (simp <;> omega)) _) | exact Below.refl _ _)))).mono ?_; rintro e w1 ⟨rfl, hb1⟩; rw [← HX.out]; obtain ⟨hc1, hf1⟩ := bcell hb1; have hz1 : w.heap.size + 1 + 1 < w1.heap.size := (by have := hb1.size; first | omega | (simp at this; omega)); have hy1 : w.heap.size + 1 < w1.heap.size := (by omega); have hv1 : w.heap.size < w1.heap.size := (by omega); have hx1 : Below w.heap.size w w1 := (Below.trans (by repeat (first | (refine Below.drew ?_) | (refine Below.alloc ?_ (by first | omega | (simp <;> omega)) _) | (refine Below.setCell ?_ (by first | omega | (simp <;> omega)) _) | exact Below.refl _ _)) (hb1.mono (by first | omega | (simp <;> omega)))); clear hb1))
    go_region_held3 (fun w' => w'.cell? ⟨w.heap.size + 1, 0, none⟩ = some (.bool nb) ∧ w'.cell? ⟨w.heap.size + 1, 1, none⟩ = some (.slice A2 n2 c2) ∧ w'.cell? ⟨w.heap.size + 1, 2, none⟩ = some (.int .i64 q) ∧ w'.cell? ⟨w.heap.size + 1, 3, none⟩ = some (.slice none 0 0)) (simp [go_sem, *]) (first | (go_at_call_of 21 A2; refine (dSign _ _ B K L Y (HB.out.below (by repeat (first | exact hx1 | (refine Below.drew ?_) | (refine Below.alloc ?_ (by first | omega | (simp <;> omega)) _) | (refine Below.setCell ?_ (by first | omega | (simp <;> omega)) _) | exact Below.refl _ _)))).mono ?_; rintro e w2 ⟨rfl, hb2⟩; rw [← HY.out]; replace hb2 : Below w1.heap.size w1 w2 := ((Below.refl _ _).drew).trans hb2; obtain ⟨hc2, hf2⟩ := bcell hb2; have hz2 : w.heap.size + 1 + 1 < w2.heap.size := (by have := hb2.size; first | omega | (simp at this; omega)); have hy2 : w.heap.size + 1 < w2.heap.size := (by omega); have hv2 : w.heap.size < w2.heap.size := (by omega); have hx2 : Below w.heap.size w w2 := (Below.trans (by repeat (first | exact hx1 | (refine Below.drew ?_) | (refine Below.alloc ?_ (by first | omega | (simp <;> omega)) _) | (refine Below.setCell ?_ (by first | omega | (simp <;> omega)) _) | exact Below.refl _ _)) (hb2.mono (by first | omega | (simp <;> omega)))); clear hb2) | (go_at_call 36; refine (dWithSignT _ _ _ B K L Y (HB.out.below hx2) (by omega) (by omega)).mono ?_; rintro e w3 ⟨r, rfl, ht, hb3⟩; rw [PY.out] at ht; obtain ⟨neg', a', n', c', p', rfl⟩ := ht.form; have T : Hid (Tell _ _ _ _ _ _) := ht; clear ht; obtain ⟨hc3, hf3⟩ := bcell hb3; have hz3 : w.heap.size + 1 + 1 < w3.heap.size := (by have := hb3.size; first | omega | (simp at this; omega)); have hy3 : w.heap.size + 1 < w3.heap.size := (by omega); have hv3 : w.heap.size < w3.heap.size := (by omega); have hx3 : Below w.heap.size w w3 := (Below.trans (by repeat (first | exact hx2 | (refine Below.drew ?_) | (refine Below.alloc ?_ (by first | omega | (simp <;> omega)) _) | (refine Below.setCell ?_ (by first | omega | (simp <;> omega)) _) | exact Below.refl _ _)) (hb3.mono (by first | omega | (simp <;> omega)))); clear hb3))
    go_wp2
    refine bodyPost_ret (v := .agg #[.bool neg', .slice a' n' c', .int .i64 p', .slice none 0 0]) (by simp [results, Try.results14, go_sem, *]) rfl ⟨_, rfl, ?_, (by repeat (first | exact hx3 | (refine Below.drew ?_) | (refine Below.alloc ?_ (by first | omega | (simp <;> omega)) _) | (refine Below.setCell ?_ (by first | omega | (simp <;> omega)) _) | exact Below.refl _ _))⟩
    refine Tell.base (b := w.heap.size + 3) ?_ (by omega)
    repeat (first | exact ((T.out.base (by omega)).wide _ (by omega)).eq (by rw [e0, Int.zero_add]) | (refine Tell.set ?_ (by simp) _))
  · by_cases g0 : y = 0
    · have e0 : Y = 0 := Y0.out g0
      clear Y0 YN
      subst g0
      go_enter Try.func14, Try.ntmps14
      go_wp2_with (first | (go_at_call_of 21 A1; refine (dSign _ _ B K L X (HA.out.below (by repeat (first | (refine Below.drew ?_) | (refine Below.alloc ?_ (by first | omega | (simp <;> omega)) _) | (refine Below.setCell ?_ (by first | omega | (simp <;> omega)) _) | exact Below.refl _ _)))).mono ?_; rintro e w1 ⟨rfl, hb1⟩; rw [← HX.out]; obtain ⟨hc1, hf1⟩ := bcell hb1; have hz1 : w.heap.size + 1 + 1 < w1.heap.size := (by have := hb1.size; first | omega | (simp at this; omega)); have hy1 : w.heap.size + 1 < w1.heap.size := (by omega); have hv1 : w.heap.size < w1.heap.size := (by omega); have hx1 : Below w.heap.size w w1 := (Below.trans (by repeat (first | (refine Below.drew ?_) | (refine Below.alloc ?_ (by first | omega | (simp <;> omega)) _) | (refine Below.setCell ?_ (by first | omega | (simp <;> omega)) _) | exact Below.refl _ _)) (hb1.mono (by first | omega | (simp <;> omega)))); clear hb1) | (go_at_call_of 21 A2; refine (dSign _ _ B K L Y (HB.out.below (by repeat (first | exact hx1 | (refine Below.drew ?_) | (refine Below.alloc ?_ (by first | omega | (simp <;> omega)) _) | (refine Below.setCell ?_ (by first | omega | (simp <;> omega)) _) | exact Below.refl _ _)))).mono ?_; rintro e w2 ⟨rfl, hb2⟩; rw [← HY.out]; obtain ⟨hc2, hf2⟩ := bcell hb2; have hz2 : w.heap.size + 1 + 1 < w2.heap.size := (by have := hb2.size; first | omega | (simp at this; omega)); have hy2 : w.heap.size + 1 < w2.heap.size := (by omega); have hv2 : w.heap.size < w2.heap.size := (by omega); have hx2 : Below w.heap.size w w2 := (Below.trans (by repeat (first | exact hx1 | (refine Below.drew ?_) | (refine Below.alloc ?_ (by first | omega | (simp <;> omega)) _) | (refine Below.setCell ?_ (by first | omega | (simp <;> omega)) _) | exact Below.refl _ _)) (hb2.mono (by first | omega | (simp <;> omega)))); clear hb2))
      go_region_held3 (fun w' => w'.cell? ⟨w.heap.size, 0, none⟩ = some (.bool na) ∧ w'.cell? ⟨w.heap.size, 1, none⟩ = some (.slice A1 n1 c1) ∧ w'.cell? ⟨w.heap.size, 2, none⟩ = some (.int .i64 p) ∧ w'.cell? ⟨w.heap.size, 3, none⟩ = some (.slice none 0 0)) (simp [go_sem, *]) (first | (go_at_call_of 21 A1; refine (dSign _ _ B K L X (HA.out.below (by repeat (first | exact hx2 | (refine Below.drew ?_) | (refine Below.alloc ?_ (by first | omega | (simp <;> omega)) _) | (refine Below.setCell ?_ (by first | omega | (simp <;> omega)) _) | exact Below.refl _ _)))).mono ?_; rintro e w3 ⟨rfl, hb3⟩; rw [← HX.out]; replace hb3 : Below w2.heap.size w2 w3 := ((Below.refl _ _).drew).trans hb3; obtain ⟨hc3, hf3⟩ := bcell hb3; have hz3 : w.heap.size + 1 + 1 < w3.heap.size := (by have := hb3.size; first | omega | (simp at this; omega)); have hy3 : w.heap.size + 1 < w3.heap.size := (by omega); have hv3 : w.heap.size < w3.heap.size := (by omega); have hx3 : Below w.heap.size w w3 := (Below.trans (by repeat (first | exact hx2 | (refine Below.drew ?_) | (refine Below.alloc ?_ (by first | omega | (simp <;> omega)) _) | (refine Below.setCell ?_ (by first | omega | (simp <;> omega)) _) | exact Below.refl _ _)) (hb3.mono (by first | omega | (simp <;> omega)))); clear hb3) | (go_at_call 36; refine (dWithSignT _ _ _ B K L X (HA.out.below hx3) (by omega) (by omega)).mono ?_; rintro e w4 ⟨r, rfl, ht, hb4⟩; rw [PX.out] at ht; obtain ⟨neg', a', n', c', p', rfl⟩ := ht.form; have T : Hid (Tell _ _ _ _ _ _) := ht; clear ht; obtain ⟨hc4, hf4⟩ := bcell hb4; have hz4 : w.heap.size + 1 + 1 < w4.heap.size := (by have := hb4.size; first | omega | (simp at this; omega)); have hy4 : w.heap.size + 1 < w4.heap.size := (by omega); have hv4 : w.heap.size < w4.heap.size := (by omega); have hx4 : Below w.heap.size w w4 := (Below.trans (by repeat (first | exact hx3 | (refine Below.drew ?_) | (refine Below.alloc ?_ (by first | omega | (simp <;> omega)) _) | (refine Below.setCell ?_ (by first | omega | (simp <;> omega)) _) | exact Below.refl _ _)) (hb4.mono (by first | omega | (simp <;> omega)))); clear hb4))
      go_wp2
      refine bodyPost_ret (v := .agg #[.bool neg', .slice a' n' c', .int .i64 p', .slice none 0 0]) (by simp [results, Try.results14, go_sem, *]) rfl ⟨_, rfl, ?_, (by repeat (first | exact hx4 | (refine Below.drew ?_) | (refine Below.alloc ?_ (by first | omega | (simp <;> omega)) _) | (refine Below.setCell ?_ (by first | omega | (simp <;> omega)) _) | exact Below.refl _ _))⟩
      refine Tell.base (b := w.heap.size + 3) ?_ (by omega)
      repeat (first | exact ((T.out.base (by omega)).wide _ (by omega)).eq (by rw [e0, Int.add_zero]) | (refine Tell.set ?_ (by simp) _))
    · have nx := XN.out h0
      have ny := YN.out g0
      have NX : Hid (xs ≠ []) := nx
      have NY : Hid (ys ≠ []) := ny
      clear nx ny XN YN X0 Y0 PX PY
      by_cases hs : na = nb
      · subst hs
        go_enter Try.func14, Try.ntmps14
        go_wp2_with (first | (go_at_call_of 21 A1; refine (dSign _ _ B K L X (HA.out.below (by repeat (first | (refine Below.drew ?_) | (refine Below.alloc ?_ (by first | omega | (simp <;> omega)) _) | (refine Below.setCell ?_ (by first | omega | (simp <;> omega)) _) | exact Below.refl _ _)))).mono ?_; rintro e w1 ⟨rfl, hb1⟩; rw [← HX.out]; obtain ⟨hc1, hf1⟩ := bcell hb1; have hz1 : w.heap.size + 1 + 1 < w1.heap.size := (by have := hb1.size; first | omega | (simp at this; omega)); have hy1 : w.heap.size + 1 < w1.heap.size := (by omega); have hv1 : w.heap.size < w1.heap.size := (by omega); have hx1 : Below w.heap.size w w1 := (Below.trans (by repeat (first | (refine Below.drew ?_) | (refine Below.alloc ?_ (by first | omega | (simp <;> omega)) _) | (refine Below.setCell ?_ (by first | omega | (simp <;> omega)) _) | exact Below.refl _ _)) (hb1.mono (by first | omega | (simp <;> omega)))); clear hb1) | (go_at_call_of 21 A2; refine (dSign _ _ B K L Y (HB.out.below (by repeat (first | exact hx1 | (refine Below.drew ?_) | (refine Below.alloc ?_ (by first | omega | (simp <;> omega)) _) | (refine Below.setCell ?_ (by first | omega | (simp <;> omega)) _) | exact Below.refl _ _)))).mono ?_; rintro e w2 ⟨rfl, hb2⟩; rw [← HY.out]; obtain ⟨hc2, hf2⟩ := bcell hb2; have hz2 : w.heap.size + 1 + 1 < w2.heap.size := (by have := hb2.size; first | omega | (simp at this; omega)); have hy2 : w.heap.size + 1 < w2.heap.size := (by omega); have hv2 : w.heap.size < w2.heap.size := (by omega); have hx2 : Below w.heap.size w w2 := (Below.trans (by repeat (first | exact hx1 | (refine Below.drew ?_) | (refine Below.alloc ?_ (by first | omega | (simp <;> omega)) _) | (refine Below.setCell ?_ (by first | omega | (simp <;> omega)) _) | exact Below.refl _ _)) (hb2.mono (by first | omega | (simp <;> omega)))); clear hb2) | (go_at_call 37; refine (dAddSize _ _ _ _ xs ys _ _ _ ((S1.out.below hx2).base (by omega)) ((S2.out.below hx2).base (by omega)) NX.out NY.out A2'.out.1 B2'.out.1 LX.out LY.out (by omega) (by omega) (by omega) (by omega)).mono ?_; rintro e w3 ⟨r, rfl, ht0, hb3⟩; have ht := (ht0 K L P3.out Q3.out A4.out B4.out hL0).eq (show _ = X + Y by rw [A5.out, B5.out, Int.mul_add]); clear ht0; obtain ⟨neg', a', n', c', p', rfl⟩ := ht.form; have T : Hid (Tell _ _ _ _ _ _) := ht; clear ht; obtain ⟨hc3, hf3⟩ := bcell hb3; have hz3 : w.heap.size + 1 + 1 < w3.heap.size := (by have := hb3.size; first | omega | (simp at this; omega)); have hy3 : w.heap.size + 1 < w3.heap.size := (by omega); have hv3 : w.heap.size < w3.heap.size := (by omega); have hx3 : Below w.heap.size w w3 := (Below.trans (by repeat (first | exact hx2 | (refine Below.drew ?_) | (refine Below.alloc ?_ (by first | omega | (simp <;> omega)) _) | (refine Below.setCell ?_ (by first | omega | (simp <;> omega)) _) | exact Below.refl _ _)) (hb3.mono (by first | omega | (simp <;> omega)))); clear hb3))
        refine bodyPost_ret (v := .agg #[.bool neg', .slice a' n' c', .int .i64 p', .slice none 0 0]) (by simp [results, Try.results14, go_sem, *]) rfl ⟨_, rfl, ?_, (by repeat (first | exact hx3 | (refine Below.drew ?_) | (refine Below.alloc ?_ (by first | omega | (simp <;> omega)) _) | (refine Below.setCell ?_ (by first | omega | (simp <;> omega)) _) | exact Below.refl _ _))⟩
        refine Tell.base (b := w.heap.size + 3) ?_ (by omega)
        repeat (first | exact T.out.base (by omega) | (refine Tell.set ?_ (by simp) _))
      · obtain ⟨t, ht⟩ : ∃ t, t = cmpZ (dv xs * pw (p + K).toNat) (dv ys * pw (q + K).toNat) := ⟨_, rfl⟩
        have HT : Hid (_ = _) := ht
        have ET : Hid (xs = [] ↔ ys = []) := ⟨fun h => absurd h NX.out, fun h => absurd h NY.out⟩
        have hs' : (na == nb) = false := by simpa using hs
        have hs2 : decide (na = nb) = false := by simpa using hs
        have HS : Hid (na ≠ nb) := hs
        by_cases hc : t < 0
        · have HC : Hid (_ ≤ _) := cmp_lt _ _ (ht ▸ hc)
          clear ht
          go_enter Try.func14, Try.ntmps14
          go_wp2_with (first | (go_at_call_of 21 A1; refine (dSign _ _ B K L X (HA.out.below (by repeat (first | (refine Below.drew ?_) | (refine Below.alloc ?_ (by first | omega | (simp <;> omega)) _) | (refine Below.setCell ?_ (by first | omega | (simp <;> omega)) _) | exact Below.refl _ _)))).mono ?_; rintro e w1 ⟨rfl, hb1⟩; rw [← HX.out]; obtain ⟨hc1, hf1⟩ := bcell hb1; have hz1 : w.heap.size + 1 + 1 < w1.heap.size := (by have := hb1.size; first | omega | (simp at this; omega)); have hy1 : w.heap.size + 1 < w1.heap.size := (by omega); have hv1 : w.heap.size < w1.heap.size := (by omega); have hx1 : Below w.heap.size w w1 := (Below.trans (by repeat (first | (refine Below.drew ?_) | (refine Below.alloc ?_ (by first | omega | (simp <;> omega)) _) | (refine Below.setCell ?_ (by first | omega | (simp <;> omega)) _) | exact Below.refl _ _)) (hb1.mono (by first | omega | (simp <;> omega)))); clear hb1) | (go_at_call_of 21 A2; refine (dSign _ _ B K L Y (HB.out.below (by repeat (first | exact hx1 | (refine Below.drew ?_) | (refine Below.alloc ?_ (by first | omega | (simp <;> omega)) _) | (refine Below.setCell ?_ (by first | omega | (simp <;> omega)) _) | exact Below.refl _ _)))).mono ?_; rintro e w2 ⟨rfl, hb2⟩; rw [← HY.out]; obtain ⟨hc2, hf2⟩ := bcell hb2; have hz2 : w.heap.size + 1 + 1 < w2.heap.size := (by have := hb2.size; first | omega | (simp at this; omega)); have hy2 : w.heap.size + 1 < w2.heap.size := (by omega); have hv2 : w.heap.size < w2.heap.size := (by omega); have hx2 : Below w.heap.size w w2 := (Below.trans (by repeat (first | exact hx1 | (refine Below.drew ?_) | (refine Below.alloc ?_ (by first | omega | (simp <;> omega)) _) | (refine Below.setCell ?_ (by first | omega | (simp <;> omega)) _) | exact Below.refl _ _)) (hb2.mono (by first | omega | (simp <;> omega)))); clear hb2) | (go_at_call 38; refine (dCmpSizes _ _ _ _ xs ys _ _ _ B (S1.out.below hx2) (S2.out.below hx2) A2'.out B2'.out ET.out LX.out LY.out (by omega) (by omega) (by omega) (by omega) K P3.out Q3.out A9.out B9.out).mono ?_; rintro e w3 ⟨rfl, hb3⟩; rw [← HT.out]; obtain ⟨hc3, hf3⟩ := bcell hb3; have hz3 : w.heap.size + 1 + 1 < w3.heap.size := (by have := hb3.size; first | omega | (simp at this; omega)); have hy3 : w.heap.size + 1 < w3.heap.size := (by omega); have hv3 : w.heap.size < w3.heap.size := (by omega); have hx3 : Below w.heap.size w w3 := (Below.trans (by repeat (first | exact hx2 | (refine Below.drew ?_) | (refine Below.alloc ?_ (by first | omega | (simp <;> omega)) _) | (refine Below.setCell ?_ (by first | omega | (simp <;> omega)) _) | exact Below.refl _ _)) (hb3.mono (by first | omega | (simp <;> omega)))); clear hb3) | (go_at_call 39; refine (dSubSize _ _ _ _ ys xs _ _ _ ((S2.out.below hx3).base (by omega)) ((S1.out.below hx3).base (by omega)) NY.out NX.out B2'.out.1 A2'.out.1 LY.out LX.out (by omega) (by omega) (by omega) (by omega) K Q3.out P3.out HC.out).mono ?_; rintro e w4 ⟨r, rfl, ht0, hb4⟩; have ht := (ht0 K L Q3.out P3.out B4.out A4.out hL0).eq (show _ = X + Y by rw [A5.out, B5.out, sg_two nb na (Ne.symm HS.out), Int.add_comm]); clear ht0; obtain ⟨neg', a', n', c', p', rfl⟩ := ht.form; have T : Hid (Tell _ _ _ _ _ _) := ht; clear ht; obtain ⟨hc4, hf4⟩ := bcell hb4; have hz4 : w.heap.size + 1 + 1 < w4.heap.size := (by have := hb4.size; first | omega | (simp at this; omega)); have hy4 : w.heap.size + 1 < w4.heap.size := (by omega); have hv4 : w.heap.size < w4.heap.size := (by omega); have hx4 : Below w.heap.size w w4 := (Below.trans (by repeat (first | exact hx3 | (refine Below.drew ?_) | (refine Below.alloc ?_ (by first | omega | (simp <;> omega)) _) | (refine Below.setCell ?_ (by first | omega | (simp <;> omega)) _) | exact Below.refl _ _)) (hb4.mono (by first | omega | (simp <;> omega)))); clear hb4))
          refine bodyPost_ret (v := .agg #[.bool neg', .slice a' n' c', .int .i64 p', .slice none 0 0]) (by simp [results, Try.results14, go_sem, *]) rfl ⟨_, rfl, ?_, (by repeat (first | exact hx4 | (refine Below.drew ?_) | (refine Below.alloc ?_ (by first | omega | (simp <;> omega)) _) | (refine Below.setCell ?_ (by first | omega | (simp <;> omega)) _) | exact Below.refl _ _))⟩
          refine Tell.base (b := w.heap.size + 3) ?_ (by omega)
          repeat (first | exact T.out.base (by omega) | (refine Tell.set ?_ (by simp) _))
        · have HC : Hid (_ ≤ _) := cmp_le _ _ (ht ▸ hc)
          clear ht
          go_enter Try.func14, Try.ntmps14
          go_wp2_with (first | (go_at_call_of 21 A1; refine (dSign _ _ B K L X (HA.out.below (by repeat (first | (refine Below.drew ?_) | (refine Below.alloc ?_ (by first | omega | (simp <;> omega)) _) | (refine Below.setCell ?_ (by first | omega | (simp <;> omega)) _) | exact Below.refl _ _)))).mono ?_; rintro e w1 ⟨rfl, hb1⟩; rw [← HX.out]; obtain ⟨hc1, hf1⟩ := bcell hb1; have hz1 : w.heap.size + 1 + 1 < w1.heap.size := (by have := hb1.size; first | omega | (simp at this; omega)); have hy1 : w.heap.size + 1 < w1.heap.size := (by omega); have hv1 : w.heap.size < w1.heap.size := (by omega); have hx1 : Below w.heap.size w w1 := (Below.trans (by repeat (first | (refine Below.drew ?_) | (refine Below.alloc ?_ (by first | omega | (simp <;> omega)) _) | (refine Below.setCell ?_ (by first | omega | (simp <;> omega)) _) | exact Below.refl _ _)) (hb1.mono (by first | omega | (simp <;> omega)))); clear hb1) | (go_at_call_of 21 A2; refine (dSign _ _ B K L Y (HB.out.below (by repeat (first | exact hx1 | (refine Below.drew ?_) | (refine Below.alloc ?_ (by first | omega | (simp <;> omega)) _) | (refine Below.setCell ?_ (by first | omega | (simp <;> omega)) _) | exact Below.refl _ _)))).mono ?_; rintro e w2 ⟨rfl, hb2⟩; rw [← HY.out]; obtain ⟨hc2, hf2⟩ := bcell hb2; have hz2 : w.heap.size + 1 + 1 < w2.heap.size := (by have := hb2.size; first | omega | (simp at this; omega)); have hy2 : w.heap.size + 1 < w2.heap.size := (by omega); have hv2 : w.heap.size < w2.heap.size := (by omega); have hx2 : Below w.heap.size w w2 := (Below.trans (by repeat (first | exact hx1 | (refine Below.drew ?_) | (refine Below.alloc ?_ (by first | omega | (simp <;> omega)) _) | (refine Below.setCell ?_ (by first | omega | (simp <;> omega)) _) | exact Below.refl _ _)) (hb2.mono (by first | omega | (simp <;> omega)))); clear hb2) | (go_at_call 38; refine (dCmpSizes _ _ _ _ xs ys _ _ _ B (S1.out.below hx2) (S2.out.below hx2) A2'.out B2'.out ET.out LX.out LY.out (by omega) (by omega) (by omega) (by omega) K P3.out Q3.out A9.out B9.out).mono ?_; rintro e w3 ⟨rfl, hb3⟩; rw [← HT.out]; obtain ⟨hc3, hf3⟩ := bcell hb3; have hz3 : w.heap.size + 1 + 1 < w3.heap.size := (by have := hb3.size; first | omega | (simp at this; omega)); have hy3 : w.heap.size + 1 < w3.heap.size := (by omega); have hv3 : w.heap.size < w3.heap.size := (by omega); have hx3 : Below w.heap.size w w3 := (Below.trans (by repeat (first | exact hx2 | (refine Below.drew ?_) | (refine Below.alloc ?_ (by first | omega | (simp <;> omega)) _) | (refine Below.setCell ?_ (by first | omega | (simp <;> omega)) _) | exact Below.refl _ _)) (hb3.mono (by first | omega | (simp <;> omega)))); clear hb3) | (go_at_call 39; refine (dSubSize _ _ _ _ xs ys _ _ _ ((S1.out.below hx3).base (by omega)) ((S2.out.below hx3).base (by omega)) NX.out NY.out A2'.out.1 B2'.out.1 LX.out LY.out (by omega) (by omega) (by omega) (by omega) K P3.out Q3.out HC.out).mono ?_; rintro e w4 ⟨r, rfl, ht0, hb4⟩; have ht := (ht0 K L P3.out Q3.out A4.out B4.out hL0).eq (show _ = X + Y by rw [A5.out, B5.out, sg_two na nb HS.out]); clear ht0; obtain ⟨neg', a', n', c', p', rfl⟩ := ht.form; have T : Hid (Tell _ _ _ _ _ _) := ht; clear ht; obtain ⟨hc4, hf4⟩ := bcell hb4; have hz4 : w.heap.size + 1 + 1 < w4.heap.size := (by have := hb4.size; first | omega | (simp at this; omega)); have hy4 : w.heap.size + 1 < w4.heap.size := (by omega); have hv4 : w.heap.size < w4.heap.size := (by omega); have hx4 : Below w.heap.size w w4 := (Below.trans (by repeat (first | exact hx3 | (refine Below.drew ?_) | (refine Below.alloc ?_ (by first | omega | (simp <;> omega)) _) | (refine Below.setCell ?_ (by first | omega | (simp <;> omega)) _) | exact Below.refl _ _)) (hb4.mono (by first | omega | (simp <;> omega)))); clear hb4))
          refine bodyPost_ret (v := .agg #[.bool neg', .slice a' n' c', .int .i64 p', .slice none 0 0]) (by simp [results, Try.results14, go_sem, *]) rfl ⟨_, rfl, ?_, (by repeat (first | exact hx4 | (refine Below.drew ?_) | (refine Below.alloc ?_ (by first | omega | (simp <;> omega)) _) | (refine Below.setCell ?_ (by first | omega | (simp <;> omega)) _) | exact Below.refl _ _))⟩
          refine Tell.base (b := w.heap.size + 3) ?_ (by omega)
          repeat (first | exact T.out.base (by omega) | (refine Tell.set ?_ (by simp) _))
end Go.Proofs.Ytgpgmnmifhkmbaa
