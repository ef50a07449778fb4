/-
  What cmpSizes, Cmp and Same of package dyad return: how two numbers stand. Conditions: lists are short, places small.
-/
import Derived.Test.YtgpgmnmifhkmbaaCmpC
namespace Go.Proofs.Ytgpgmnmifhkmbaa
open Go.RowKit
set_option linter.unusedVariables false
set_option linter.unusedSimpArgs false

theorem cmpZ_mul (u a b : Int) (hu : 0 < u) : cmpZ (u * a) (u * b) = cmpZ a b := by
  have h1 : u * a < u * b ↔ a < b := ⟨fun h => Int.lt_of_mul_lt_mul_left h (Int.le_of_lt hu), fun h => Int.mul_lt_mul_of_pos_left h hu⟩
  have h2 : u * a = u * b ↔ a = b := ⟨fun h => Int.eq_of_mul_eq_mul_left (by omega) h, fun h => by rw [h]⟩
  unfold cmpZ
  by_cases g1 : a < b
  · rw [if_pos g1, if_pos (h1.2 g1)]
  · rw [if_neg g1, if_neg (fun h => g1 (h1.1 h))]
    by_cases g2 : a = b
    · rw [if_pos g2, if_pos (h2.2 g2)]
    · rw [if_neg g2, if_neg (fun h => g2 (h2.1 h))]
theorem size_lt (xs ys : List Int) (hx : Norm xs) (hy : Norm ys) (nx : xs ≠ []) (ny : ys ≠ []) (p q : Int) (K : Nat) (hp : -(K : Int) ≤ p) (hq : -(K : Int) ≤ q) (h : p + xs.length < q + ys.length) : dv xs * pw (p + K).toNat < dv ys * pw (q + K).toNat := by
  have a := (hx.pos nx).2.1
  have b := (hy.pos ny).1
  have ly : 0 < ys.length := List.length_pos_iff.2 ny
  have c := Int.mul_lt_mul_of_pos_right a (pw_pos (p + K).toNat)
  have d := Int.mul_le_mul_of_nonneg_right b (Int.le_of_lt (pw_pos (q + K).toNat))
  rw [← pw_add] at c d
  have e := pw_le (xs.length + (p + K).toNat) (ys.length - 1 + (q + K).toNat) (by omega)
  omega
theorem size_cmp (xs ys : List Int) (hx : Norm xs) (hy : Norm ys) (hxy : xs = [] ↔ ys = []) (p q : Int) (K : Nat) (hp : -(K : Int) ≤ p) (hq : -(K : Int) ≤ q) (hp0 : xs = [] → p = 0) (hq0 : ys = [] → q = 0) (hne : p + xs.length ≠ q + ys.length) :
    cmpZ (p + xs.length - (q + ys.length)) 0 = cmpZ (dv xs * pw (p + K).toNat) (dv ys * pw (q + K).toNat) := by
  have nx : xs ≠ [] := fun e => hne (by rw [e, hxy.1 e, hp0 e, hq0 (hxy.1 e)])
  have ny : ys ≠ [] := fun e => nx (hxy.2 e)
  unfold cmpZ
  rcases Int.lt_or_gt_of_ne hne with g | g
  · have := size_lt xs ys hx hy nx ny p q K hp hq g
    rw [if_pos (by omega), if_pos this]
  · have := size_lt ys xs hy hx ny nx q p K hq hp g
    rw [if_neg (by omega), if_neg (by omega), if_neg (by omega), if_neg (by omega)]
theorem size_same (xs ys : List Int) (p q : Int) (K m : Nat) (hp : -(K : Int) ≤ p) (hq : -(K : Int) ≤ q) (hm : m = max xs.length ys.length) (he : p + xs.length = q + ys.length) :
    cmpZ (pw (m - xs.length) * dv xs) (pw (m - ys.length) * dv ys) = cmpZ (dv xs * pw (p + K).toNat) (dv ys * pw (q + K).toNat) := by
  obtain ⟨s, h1, h2⟩ : ∃ s : Nat, (p + K).toNat = s + (m - xs.length) ∧ (q + K).toNat = s + (m - ys.length) := by
    rcases Nat.le_total xs.length ys.length with h | h
    · exact ⟨(q + K).toNat, by omega, by omega⟩
    · exact ⟨(p + K).toNat, by omega, by omega⟩
  rw [h1, h2, pw_add, pw_add, ← cmpZ_mul (pw s) _ _ (pw_pos s)]
  congr 1 <;> grind
set_option maxHeartbeats 2000000 in
theorem dCmpSizes (na nb : Bool) (sa sb : Value) (xs ys : List Int) (p q : Int) (w : World) (B : Nat) (ha : SeesW w B sa xs) (hb : SeesW w B sb ys) (hx : Norm xs) (hy : Norm ys) (hxy : xs = [] ↔ ys = []) (lx : xs.length ≤ 200000) (ly : ys.length ≤ 200000) (p0 : -100000 ≤ p) (p1 : p ≤ 100000) (q0 : -100000 ≤ q) (q1 : q ≤ 100000)
    (K : Nat) (hp : -(K : Int) ≤ p) (hq : -(K : Int) ≤ q) (hp0 : xs = [] → p = 0) (hq0 : ys = [] → q = 0) :
    Calls Try.prog 38 #[.agg #[.bool na, sa, .int .i64 p, .slice none 0 0], .agg #[.bool nb, sb, .int .i64 q, .slice none 0 0]] w fun e w' => e = .returned (.int .i64 (cmpZ (dv xs * pw (p + K).toNat) (dv ys * pw (q + K).toNat))) ∧ Below w.heap.size w w' := by
  have HA : Hid (SeesW w B sa xs) := ha
  have HB : Hid (SeesW w B sb ys) := hb
  obtain ⟨A1, c1, rfl⟩ := ha.len
  obtain ⟨A2, c2, rfl⟩ := hb.len
  have C1 : Hid (p + xs.length ≠ q + ys.length → cmpZ (p + xs.length - (q + ys.length)) 0 = cmpZ (dv xs * pw (p + K).toNat) (dv ys * pw (q + K).toNat)) := size_cmp xs ys hx hy hxy p q K hp hq hp0 hq0
  have C2 : Hid (p + xs.length = q + ys.length → cmpZ (pw (max xs.length ys.length - xs.length) * dv xs) (pw (max xs.length ys.length - ys.length) * dv ys) = cmpZ (dv xs * pw (p + K).toNat) (dv ys * pw (q + K).toNat)) := size_same xs ys p q K _ hp hq rfl
  obtain ⟨R, hR⟩ : ∃ R, R = cmpZ (dv xs * pw (p + K).toNat) (dv ys * pw (q + K).toNat) := ⟨_, rfl⟩
  rw [← hR] at C1 C2 ⊢
  have IX := hx.1
  have IY := hy.1
  have LX : Hid (_ ≤ _) := lx
  have LY : Hid (_ ≤ _) := ly
  obtain ⟨n1, hn1⟩ : ∃ n, n = xs.length := ⟨_, rfl⟩
  obtain ⟨n2, hn2⟩ : ∃ n, n = ys.length := ⟨_, rfl⟩
  have N1 : Hid (_ = _) := hn1
  have N2 : Hid (_ = _) := hn2
  rw [← hn1] at lx HA ⊢ 
  rw [← hn2] at ly HB ⊢
  clear hR hx hy hxy hp hq hp0 hq0 ha hb hn1 hn2
  obtain ⟨z, hz⟩ : ∃ z, z = cmpZ (p + n1 - (q + n2)) 0 := ⟨_, rfl⟩
  have hzb := cmpZ_bd (p + n1 - (q + n2)) 0
  rw [← hz] at hzb
  have HZ : Hid (_ = _) := hz
  have hz0 : z = 0 ↔ p + n1 = q + n2 := by
    rw [hz]
    unfold cmpZ
    by_cases g : p + n1 - (q + n2) < 0
    · rw [if_pos g]; omega
    · rw [if_neg g]
      by_cases g2 : p + n1 - (q + n2) = 0
      · rw [if_pos g2]; omega
      · rw [if_neg g2]; omega
  have HZ0 : Hid (_ ↔ _) := hz0
  clear hz hz0
  by_cases he : z = 0
  all_goals
    go_enter Try.func38, Try.ntmps38
    go_wp2_with fail
    go_region_held3 (fun w' => w'.cell? ⟨w.heap.size, 0, none⟩ = some (.bool na) ∧ w'.cell? ⟨w.heap.size, 1, none⟩ = some (.slice A1 n1 c1) ∧ w'.cell? ⟨w.heap.size, 2, none⟩ = some (.int .i64 p) ∧ w'.cell? ⟨w.heap.size, 3, none⟩ = some (.slice none 0 0) ∧ w'.cell? ⟨w.heap.size + 1, 0, none⟩ = some (.bool nb) ∧ w'.cell? ⟨w.heap.size + 1, 1, none⟩ = some (.slice A2 n2 c2) ∧ w'.cell? ⟨w.heap.size + 1, 2, none⟩ = some (.int .i64 q) ∧ w'.cell? ⟨w.heap.size + 1, 3, none⟩ = some (.slice none 0 0)) (simp [go_sem, *]) (first | (go_at_call_of 63 A1; refine (dTop _ _ _ _ _ _ (by omega) (by omega) (by omega)).mono ?_; rintro e w1 ⟨rfl, hb1⟩; obtain ⟨hc1, hf1⟩ := bcell hb1; have hz1 : w.heap.size + 1 < w1.heap.size := (by have := hb1.size; simp at this; omega); have hy1 : w.heap.size < w1.heap.size := (by omega); have hx1 : Below w.heap.size w w1 := (Below.trans (by repeat (first | (refine Below.drew ?_) | (refine Below.alloc ?_ (by first | omega | (simp <;> omega)) _) | (refine Below.setCell ?_ (by first | omega | (simp <;> omega)) _) | exact Below.refl _ _)) (hb1.mono (by first | omega | (simp <;> omega)))); clear hb1) | (go_at_call_of 63 A2; refine (dTop _ _ _ _ _ _ (by omega) (by omega) (by omega)).mono ?_; rintro e w2 ⟨rfl, hb2⟩; obtain ⟨hc2, hf2⟩ := bcell hb2; have hz2 : w.heap.size + 1 < w2.heap.size := (by have := hb2.size; omega); have hy2 : w.heap.size < w2.heap.size := (by omega); have hx2 : Below w.heap.size w w2 := (hx1.trans (hb2.mono (by omega))); clear hb2) | (go_at_call 64; refine (dMinus _ _ _ (by omega) (by omega) (by omega) (by omega)).mono ?_; rintro e w3 ⟨rfl, hb3⟩; obtain ⟨hc3, hf3⟩ := bcell hb3; have hz3 : w.heap.size + 1 < w3.heap.size := (by have := hb3.size; omega); have hy3 : w.heap.size < w3.heap.size := (by omega); have hx3 : Below w.heap.size w w3 := (hx2.trans (hb3.mono (by omega))); clear hb3) | (go_at_call 65; refine (dSignP _ _).mono ?_; rintro e w4 ⟨rfl, hb4⟩; rw [← HZ.out]; obtain ⟨hc4, hf4⟩ := bcell hb4; have hz4 : w.heap.size + 1 < w4.heap.size := (by have := hb4.size; omega); have hy4 : w.heap.size < w4.heap.size := (by omega); have hx4 : Below w.heap.size w w4 := (hx3.trans (hb4.mono (by omega))); clear hb4))
  · subst he
    go_wp2_with fail
    refine (dCmpTop _ _ xs ys _ B (HA.out.below hx4) (HB.out.below hx4) IX IY LX.out LY.out _ rfl).mono ?_
    rintro e w' ⟨rfl, rfl⟩
    rw [C2.out (by rw [← N1.out, ← N2.out]; first | exact HZ0.out.1 rfl | exact HZ0.out.1 trivial)]
    go_wp2
    go_ret
    exact ⟨rfl, hx4⟩
  · go_wp2_with fail
    go_ret
    refine ⟨ret_eq (int_eq ?_), hx4⟩
    have := C1.out (by rw [← N1.out, ← N2.out]; exact fun h => he (HZ0.out.2 h))
    rw [← N1.out, ← N2.out, ← HZ.out] at this
    exact this
theorem tell_sign {neg : Bool} {ws : List Int} {p : Int} {K : Nat} (h : Norm ws) : cmpZ (sg neg * (dv ws * pw (p + K).toNat)) 0 = if ws = [] then 0 else if neg then -1 else 1 := by
  by_cases hn : ws = []
  · rw [if_pos hn, hn, dv_nil, Int.zero_mul, Int.mul_zero]; rfl
  · rw [if_neg hn, sgnX neg _ (wpos h hn _)]
theorem cmp_less (X Y : Int) (h : cmpZ X 0 < cmpZ Y 0) : cmpZ X Y = -1 := by
  have : X < Y := by
    unfold cmpZ at h
    split at h <;> split at h <;> (try split at h) <;> (try split at h) <;> omega
  unfold cmpZ
  rw [if_pos this]
theorem cmp_more (X Y : Int) (h : cmpZ Y 0 < cmpZ X 0) : cmpZ X Y = 1 := by
  have : Y < X := by
    unfold cmpZ at h
    split at h <;> split at h <;> (try split at h) <;> (try split at h) <;> omega
  unfold cmpZ
  rw [if_neg (by omega), if_neg (by omega)]
theorem cmp_even (na nb : Bool) (xs ys : List Int) (P Q : Int) (hx : 0 ≤ P) (hy : 0 ≤ Q) (h : cmpZ (sg na * P) 0 = cmpZ (sg nb * Q) 0) : cmpZ (sg na * P) 0 * cmpZ P Q = cmpZ (sg na * P) (sg nb * Q) := by
  have h0 : sg na = 1 ∨ sg na = -1 := by cases na <;> simp [sg]
  have h1 : sg nb = 1 ∨ sg nb = -1 := by cases nb <;> simp [sg]
  unfold cmpZ at *
  rcases h0 with e0 | e0 <;> rcases h1 with e1 | e1 <;> rw [e0] at h ⊢ <;> rw [e1] at h ⊢
  all_goals
    simp only [Int.one_mul, Int.neg_mul] at h ⊢
    rcases Int.lt_trichotomy P 0 with a | a | a <;> rcases Int.lt_trichotomy Q 0 with b | b | b <;> (try omega)
    all_goals
      repeat' split at h
      all_goals (try omega)
      all_goals (repeat' split) <;> omega
set_option maxHeartbeats 4000000 in
theorem dCmp (a b : Value) (w : World) (B K : Nat) (L X Y : Int) (ha : Tell w B a K L X) (hb : Tell w B b K L Y) (hk : K ≤ 100000) (hL : L ≤ 100000) :
    Calls Try.prog 26 #[a, b] w fun e w' => e = .returned (.int .i64 (cmpZ X Y)) ∧ Below w.heap.size w w' := by
  have HA : Hid (Tell w B a K L X) := ha
  have HB : Hid (Tell w B b K L Y) := hb
  obtain ⟨na, xs, p, ⟨sa, rfl, a1, a9⟩, a2, a3, a4, a5⟩ := ha
  obtain ⟨nb, ys, q, ⟨sb, rfl, b1, b9⟩, b2, b3, b4, b5⟩ := hb
  have la := tell_len a3 a4 hk hL
  have lb := tell_len b3 b4 hk hL
  have S1 : Hid (SeesW w B sa xs) := a1
  have S2 : Hid (SeesW w B sb ys) := b1
  obtain ⟨A1, c1, rfl⟩ := a1.len
  obtain ⟨A2, c2, rfl⟩ := b1.len
  have sx : cmpZ X 0 = if xs = [] then 0 else if na then -1 else 1 := by rw [a5]; exact tell_sign a2
  have sy : cmpZ Y 0 = if ys = [] then 0 else if nb then -1 else 1 := by rw [b5]; exact tell_sign b2
  have E : Hid (cmpZ X 0 = cmpZ Y 0 → (xs = [] ↔ ys = [])) := by
    intro h
    rw [sx, sy] at h
    by_cases g1 : xs = [] <;> by_cases g2 : ys = [] <;> simp [g1, g2] at h ⊢
    · cases nb <;> simp at h
    · cases na <;> simp at h
  have F : Hid (cmpZ X 0 = cmpZ Y 0 → cmpZ X 0 * cmpZ (dv xs * pw (p + K).toNat) (dv ys * pw (q + K).toNat) = cmpZ X Y) := by
    intro h
    rw [a5, b5] at h ⊢
    exact cmp_even na nb xs ys _ _ (a2.nonneg _) (b2.nonneg _) h
  obtain ⟨z, hz⟩ : ∃ z, z = cmpZ X 0 := ⟨_, rfl⟩
  obtain ⟨y, hy⟩ : ∃ y, y = cmpZ Y 0 := ⟨_, rfl⟩
  have zb := cmpZ_bd X 0
  have yb := cmpZ_bd Y 0
  have tb := cmpZ_bd (dv xs * pw (p + K).toNat) (dv ys * pw (q + K).toNat)
  have CL : Hid (z < y → cmpZ X Y = -1) := by rw [hz, hy]; exact cmp_less X Y
  have CM : Hid (y < z → cmpZ X Y = 1) := by rw [hz, hy]; exact cmp_more X Y
  rw [← hz] at zb E F
  rw [← hy] at yb E F
  have HX : Hid (_ = _) := hz
  have HY : Hid (_ = _) := hy
  have A2' : Hid (Norm xs) := a2
  have B2' : Hid (Norm ys) := b2
  have A9 : Hid (xs = [] → p = 0) := a9
  have B9 : Hid (ys = [] → q = 0) := b9
  obtain ⟨l1, l2, l3⟩ := la
  obtain ⟨m1, m2, m3⟩ := lb
  have LX : Hid (_ ≤ _) := l1
  have LY : Hid (_ ≤ _) := m1
  obtain ⟨n1, hn1⟩ : ∃ n, n = xs.length := ⟨_, rfl⟩
  obtain ⟨n2, hn2⟩ : ∃ n, n = ys.length := ⟨_, rfl⟩
  rw [← hn1] at HA S1 l1 ⊢
  rw [← hn2] at HB S2 m1 ⊢
  have P3 : Hid (_ ≤ _) := a3
  have Q3 : Hid (_ ≤ _) := b3
  clear hz hy sx sy a1 a2 a4 a5 b1 b2 b4 b5 a9 b9 hn1 hn2 a3 b3
  obtain ⟨zb0, zb1⟩ := zb
  obtain ⟨yb0, yb1⟩ := yb
  obtain ⟨tb0, tb1⟩ := tb
  rcases Int.lt_trichotomy z y with h | h | h
  · go_enter Try.func26, Try.ntmps26
    go_wp2_with (first | (go_at_call_of 21 A1; refine (dSign _ _ B K L X (HA.out.below (by repeat (first | (refine Below.drew ?_) | (refine Below.alloc ?_ (by first | omega | (simp <;> omega)) _) | (refine Below.setCell ?_ (by first | omega | (simp <;> omega)) _) | exact Below.refl _ _)))).mono ?_; rintro e w1 ⟨rfl, hb1⟩; rw [← HX.out]; obtain ⟨hc1, hf1⟩ := bcell hb1; have hz1 : w.heap.size + 1 < w1.heap.size := (by have := hb1.size; simp at this; omega); have hy1 : w.heap.size < w1.heap.size := (by omega); have hx1 : Below w.heap.size w w1 := (Below.trans (by repeat (first | (refine Below.drew ?_) | (refine Below.alloc ?_ (by first | omega | (simp <;> omega)) _) | (refine Below.setCell ?_ (by first | omega | (simp <;> omega)) _) | exact Below.refl _ _)) (hb1.mono (by first | omega | (simp <;> omega)))); clear hb1) | (go_at_call_of 21 A2; refine (dSign _ _ B K L Y (HB.out.below hx1)).mono ?_; rintro e w2 ⟨rfl, hb2⟩; rw [← HY.out]; obtain ⟨hc2, hf2⟩ := bcell hb2; have hz2 : w.heap.size + 1 < w2.heap.size := (by have := hb2.size; omega); have hy2 : w.heap.size < w2.heap.size := (by omega); have hx2 : Below w.heap.size w w2 := (hx1.trans (hb2.mono (by omega))); clear hb2))
    go_ret
    exact ⟨by rw [CL.out h]; rfl, hx2⟩
  · subst h
    obtain ⟨t, ht⟩ : ∃ t, t = cmpZ (dv xs * pw (p + K).toNat) (dv ys * pw (q + K).toNat) := ⟨_, rfl⟩
    have HT : Hid (_ = _) := ht
    rw [← ht] at tb0 tb1 F
    clear ht
    have E' : Hid (xs = [] ↔ ys = []) := E.out rfl
    have F' : Hid (_ = _) := F.out rfl
    clear E F CL CM
    have wr : IntKind.i64.wrap (z * t) = z * t := by
      have : z * t = -1 ∨ z * t = 0 ∨ z * t = 1 := by
        rcases (show z = -1 ∨ z = 0 ∨ z = 1 by omega) with rfl | rfl | rfl <;> omega
      rw [IntKind.wrap_i64]; omega
    go_enter Try.func26, Try.ntmps26
    go_wp2_with (first | (go_at_call_of 21 A1; refine (dSign _ _ B K L X (HA.out.below (by repeat (first | (refine Below.drew ?_) | (refine Below.alloc ?_ (by first | omega | (simp <;> omega)) _) | (refine Below.setCell ?_ (by first | omega | (simp <;> omega)) _) | exact Below.refl _ _)))).mono ?_; rintro e w1 ⟨rfl, hb1⟩; rw [← HX.out]; obtain ⟨hc1, hf1⟩ := bcell hb1; have hz1 : w.heap.size + 1 < w1.heap.size := (by have := hb1.size; simp at this; omega); have hy1 : w.heap.size < w1.heap.size := (by omega); have hx1 : Below w.heap.size w w1 := (Below.trans (by repeat (first | (refine Below.drew ?_) | (refine Below.alloc ?_ (by first | omega | (simp <;> omega)) _) | (refine Below.setCell ?_ (by first | omega | (simp <;> omega)) _) | exact Below.refl _ _)) (hb1.mono (by first | omega | (simp <;> omega)))); clear hb1) | (go_at_call_of 21 A2; refine (dSign _ _ B K L Y (HB.out.below hx1)).mono ?_; rintro e w2 ⟨rfl, hb2⟩; rw [← HY.out]; obtain ⟨hc2, hf2⟩ := bcell hb2; have hz2 : w.heap.size + 1 < w2.heap.size := (by have := hb2.size; omega); have hy2 : w.heap.size < w2.heap.size := (by omega); have hx2 : Below w.heap.size w w2 := (hx1.trans (hb2.mono (by omega))); clear hb2) | (go_at_call_of 21 A2; refine (dSign _ _ B K L Y (HB.out.below hx2)).mono ?_; rintro e w3 ⟨rfl, hb3⟩; rw [← HY.out]; obtain ⟨hc3, hf3⟩ := bcell hb3; have hz3 : w.heap.size + 1 < w3.heap.size := (by have := hb3.size; omega); have hy3 : w.heap.size < w3.heap.size := (by omega); have hx3 : Below w.heap.size w w3 := (hx2.trans (hb3.mono (by omega))); clear hb3) | (go_at_call 38; refine (dCmpSizes _ _ _ _ xs ys _ _ _ B (S1.out.below hx3) (S2.out.below hx3) A2'.out B2'.out E'.out LX.out LY.out (by omega) (by omega) (by omega) (by omega) K P3.out Q3.out A9.out B9.out).mono ?_; rintro e w4 ⟨rfl, hb4⟩; rw [← HT.out]; have hx4 : Below w.heap.size w w4 := (hx3.trans (hb4.mono (by omega))); clear hb4))
    go_ret
    exact ⟨ret_eq (int_eq F'.out), hx4⟩
  · have h' : ¬ z < y := by omega
    go_enter Try.func26, Try.ntmps26
    go_wp2_with (first | (go_at_call_of 21 A1; refine (dSign _ _ B K L X (HA.out.below (by repeat (first | (refine Below.drew ?_) | (refine Below.alloc ?_ (by first | omega | (simp <;> omega)) _) | (refine Below.setCell ?_ (by first | omega | (simp <;> omega)) _) | exact Below.refl _ _)))).mono ?_; rintro e w1 ⟨rfl, hb1⟩; rw [← HX.out]; obtain ⟨hc1, hf1⟩ := bcell hb1; have hz1 : w.heap.size + 1 < w1.heap.size := (by have := hb1.size; simp at this; omega); have hy1 : w.heap.size < w1.heap.size := (by omega); have hx1 : Below w.heap.size w w1 := (Below.trans (by repeat (first | (refine Below.drew ?_) | (refine Below.alloc ?_ (by first | omega | (simp <;> omega)) _) | (refine Below.setCell ?_ (by first | omega | (simp <;> omega)) _) | exact Below.refl _ _)) (hb1.mono (by first | omega | (simp <;> omega)))); clear hb1) | (go_at_call_of 21 A2; refine (dSign _ _ B K L Y (HB.out.below hx1)).mono ?_; rintro e w2 ⟨rfl, hb2⟩; rw [← HY.out]; obtain ⟨hc2, hf2⟩ := bcell hb2; have hz2 : w.heap.size + 1 < w2.heap.size := (by have := hb2.size; omega); have hy2 : w.heap.size < w2.heap.size := (by omega); have hx2 : Below w.heap.size w w2 := (hx1.trans (hb2.mono (by omega))); clear hb2) | (go_at_call_of 21 A2; refine (dSign _ _ B K L Y (HB.out.below hx2)).mono ?_; rintro e w3 ⟨rfl, hb3⟩; rw [← HY.out]; obtain ⟨hc3, hf3⟩ := bcell hb3; have hz3 : w.heap.size + 1 < w3.heap.size := (by have := hb3.size; omega); have hy3 : w.heap.size < w3.heap.size := (by omega); have hx3 : Below w.heap.size w w3 := (hx2.trans (hb3.mono (by omega))); clear hb3))
    go_ret
    exact ⟨by rw [CM.out h]; rfl, hx3⟩
theorem dSame (a b : Value) (w : World) (B K : Nat) (L X Y : Int) (ha : Tell w B a K L X) (hb : Tell w B b K L Y) (hk : K ≤ 100000) (hL : L ≤ 100000) :
    Calls Try.prog 25 #[a, b] w fun e w' => e = .returned (.bool (decide (X = Y))) ∧ Below w.heap.size w w' := by
  have HA : Hid (Tell w B a K L X) := ha
  have HB : Hid (Tell w B b K L Y) := hb
  obtain ⟨na, A1, n1, c1, p, rfl⟩ := ha.form
  obtain ⟨nb, A2, n2, c2, q, rfl⟩ := hb.form
  have D : Hid (decide (X = Y) = decide (cmpZ X Y = 0)) := by
    show _ = _
    unfold cmpZ
    by_cases h : X < Y
    · rw [if_pos h]; simp; omega
    · rw [if_neg h]
      by_cases h2 : X = Y
      · rw [if_pos h2]; simp [h2]
      · rw [if_neg h2]; simp [h2]
  clear ha hb
  go_enter Try.func25, Try.ntmps25
  go_wp2_with fail
  refine (dCmp _ _ _ B K L X Y (HA.out.below (by repeat (first | (refine Below.drew ?_) | (refine Below.alloc ?_ (by first | omega | (simp <;> omega)) _) | (refine Below.setCell ?_ (by first | omega | (simp <;> omega)) _) | exact Below.refl _ _))) (HB.out.below (by repeat (first | (refine Below.drew ?_) | (refine Below.alloc ?_ (by first | omega | (simp <;> omega)) _) | (refine Below.setCell ?_ (by first | omega | (simp <;> omega)) _) | exact Below.refl _ _))) hk hL).mono ?_
  rintro e w1 ⟨rfl, hb1⟩
  go_wp2
  go_ret
  refine ⟨?_, Below.trans (by repeat (first | (refine Below.drew ?_) | (refine Below.alloc ?_ (by first | omega | (simp <;> omega)) _) | (refine Below.setCell ?_ (by first | omega | (simp <;> omega)) _) | exact Below.refl _ _)) (hb1.mono (by first | omega | (simp <;> omega)))⟩
  rw [D.out]
  first | rfl | (congr 1; simp)
end Go.Proofs.Ytgpgmnmifhkmbaa
