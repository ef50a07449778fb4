/-
  What top, cmpFromTop, cmpSizes, Cmp and Same of package dyad return: how two numbers stand. Conditions: lists are short, places small.
-/
import Derived.Test.YtgpgmnmifhkmbaaTrimC
import Derived.Test.YtgpgmnmifhkmbaaPlaceC
namespace Go.Proofs.Ytgpgmnmifhkmbaa
open Go.RowKit
set_option linter.unusedVariables false
set_option linter.unusedSimpArgs false

theorem dTop (na : Bool) (A1 : Option Addr) (n c : Nat) (p : Int) (w : World) (hn : n ≤ 1000000) (p0 : -1000000 ≤ p) (p1 : p ≤ 1000000) :
    Calls Try.prog 63 #[.agg #[.bool na, .slice A1 n c, .int .i64 p, .slice none 0 0]] w fun e w' => e = .returned (.agg #[.int .i64 (p + n), .slice none 0 0]) ∧ Below w.heap.size w w' := by
  go_enter Try.func63, Try.ntmps63
  go_wp2_with fail
  go_region_held3 (fun w' => w'.cell? ⟨w.heap.size, 1, none⟩ = some (.slice A1 n c) ∧ w'.cell? ⟨w.heap.size, 2, none⟩ = some (.int .i64 p) ∧ w'.cell? ⟨w.heap.size, 3, none⟩ = some (.slice none 0 0)) (simp [go_sem, *]) (first | (go_at_call 70; refine (dPlaceOf _ _ (by omega) (by omega)).mono ?_; rintro e w1 ⟨rfl, hb1⟩; obtain ⟨hc1, hf1⟩ := bcell hb1; have hz1 : w.heap.size + 1 < w1.heap.size := (by have := hb1.size; simp at this; omega); have hy1 : w.heap.size < w1.heap.size := (by omega); have hx1 : Below w.heap.size w w1 := (Below.trans (by repeat (first | (refine Below.drew ?_) | (refine Below.alloc ?_ (by first | omega | (simp <;> omega)) _) | (refine Below.setCell ?_ (by first | omega | (simp <;> omega)) _) | exact Below.refl _ _)) (hb1.mono (by first | omega | (simp <;> omega)))); clear hb1) | (go_at_call 46; refine (dPlus _ _ _ (by omega) (by omega) (by omega) (by omega)).mono ?_; rintro e w2 ⟨rfl, hb2⟩; obtain ⟨hc2, hf2⟩ := bcell hb2; have hz2 : w.heap.size + 1 < w2.heap.size := (by have := hb2.size; omega); have hy2 : w.heap.size < w2.heap.size := (by omega); have hx2 : Below w.heap.size w w2 := (hx1.trans (hb2.mono (by omega))); clear hb2))
  go_wp2
  refine bodyPost_ret (v := .agg #[.int .i64 (p + n), .slice none 0 0]) (by simp [results, Try.results63, go_sem, *]) rfl ⟨rfl, (by repeat (first | exact hx2 | (refine Below.drew ?_) | (refine Below.alloc ?_ (by first | omega | (simp <;> omega)) _) | (refine Below.setCell ?_ (by first | omega | (simp <;> omega)) _) | exact Below.refl _ _))⟩
/-- Words with zeros beneath, m in all. -/
def padW (m : Nat) (xs : List Int) : List Int := List.replicate (m - xs.length) 0 ++ xs
theorem pad_len (m : Nat) (xs : List Int) (h : xs.length ≤ m) : (padW m xs).length = m := by unfold padW; simp; omega
theorem pad_dv (m : Nat) (xs : List Int) : dv (padW m xs) = pw (m - xs.length) * dv xs := by
  unfold padW
  rw [dv_append, dv_zeros, List.length_replicate, Int.zero_add]
theorem pad_in (m : Nat) (xs : List Int) (h : InW xs) : InW (padW m xs) := (InW.zeros _).append h
theorem pad_get (m i : Nat) (xs : List Int) (h : xs.length ≤ m) (hi : i < m) : (if (xs.length : Int) - 1 - (i : Int) < 0 then 0 else xs[((xs.length : Int) - 1 - (i : Int)).toNat]?.getD 0) = (padW m xs)[m - 1 - i]?.getD 0 := by
  unfold padW
  rw [List.getElem?_append, List.length_replicate]
  by_cases g : (xs.length : Int) - 1 - (i : Int) < 0
  · rw [if_pos g, if_pos (by omega), List.getElem?_replicate, if_pos (by omega)]; rfl
  · rw [if_neg g, if_neg (by omega), show m - 1 - i - (m - xs.length) = ((xs.length : Int) - 1 - (i : Int)).toNat by omega]
theorem cmp_top (X Y : List Int) (hX : InW X) (hY : InW Y) (m j : Nat) (lX : X.length = m) (lY : Y.length = m) (hj : j < m) (hd : X.drop (j + 1) = Y.drop (j + 1)) (h : X[j]?.getD 0 < Y[j]?.getD 0) : dv X < dv Y := by
  rw [dv_split X (j + 1) (by omega), dv_split Y (j + 1) (by omega), hd, dv_take_succ X j (by omega), dv_take_succ Y j (by omega)]
  have a := dv_lt (hX.take j)
  have b := dv_nonneg (hY.take j)
  rw [List.length_take, Nat.min_eq_left (by omega)] at a
  have c := Int.mul_le_mul_of_nonneg_right (show X[j]?.getD 0 + 1 ≤ Y[j]?.getD 0 by omega) (Int.le_of_lt (pw_pos j))
  rw [Int.add_mul, Int.one_mul] at c
  omega
theorem cmpZ_top (X Y : List Int) (hX : InW X) (hY : InW Y) (m j : Nat) (lX : X.length = m) (lY : Y.length = m) (hj : j < m) (hd : X.drop (j + 1) = Y.drop (j + 1)) (h : X[j]?.getD 0 ≠ Y[j]?.getD 0) : cmpZ (X[j]?.getD 0) (Y[j]?.getD 0) = cmpZ (dv X) (dv Y) := by
  unfold cmpZ
  rcases Int.lt_or_gt_of_ne h with g | g
  · have := cmp_top X Y hX hY m j lX lY hj hd g
    rw [if_pos g, if_pos this]
  · have := cmp_top Y X hY hX m j lY lX hj hd.symm g
    rw [if_neg (by omega), if_neg (by omega), if_neg (by omega), if_neg (by omega)]
theorem drop_same (X Y : List Int) (m j : Nat) (lX : X.length = m) (lY : Y.length = m) (hj : j < m) (hd : X.drop (j + 1) = Y.drop (j + 1)) (h : X[j]?.getD 0 = Y[j]?.getD 0) : X.drop j = Y.drop j := by
  rw [drop_cons_get X j (by omega), drop_cons_get Y j (by omega), hd, h]
set_option maxHeartbeats 1000000 in
theorem dCmpTop (sa sb : Value) (xs ys : List Int) (w : World) (B : Nat) (ha : SeesW w B sa xs) (hb : SeesW w B sb ys) (hx : InW xs) (hy : InW ys) (lx : xs.length ≤ 200000) (ly : ys.length ≤ 200000) (m : Nat) (hm : m = max xs.length ys.length) :
    Calls Try.prog 66 #[sa, sb] w fun e w' => e = .returned (.int .i64 (cmpZ (pw (m - xs.length) * dv xs) (pw (m - ys.length) * dv ys))) ∧ w' = w := by
  rw [← pad_dv, ← pad_dv]
  have LX := pad_len m xs (by omega)
  have LY := pad_len m ys (by omega)
  have IX := pad_in m xs hx
  have IY := pad_in m ys hy
  have PX : Hid (∀ i : Nat, i < m → (if (xs.length : Int) - 1 - (i : Int) < 0 then 0 else xs[((xs.length : Int) - 1 - (i : Int)).toNat]?.getD 0) = (padW m xs)[m - 1 - i]?.getD 0) := fun i hi => pad_get m i xs (by omega) hi
  have PY : Hid (∀ i : Nat, i < m → (if (ys.length : Int) - 1 - (i : Int) < 0 then 0 else ys[((ys.length : Int) - 1 - (i : Int)).toNat]?.getD 0) = (padW m ys)[m - 1 - i]?.getD 0) := fun i hi => pad_get m i ys (by omega) hi
  obtain ⟨X, hX⟩ : ∃ X, X = padW m xs := ⟨_, rfl⟩
  obtain ⟨Y, hY⟩ : ∃ Y, Y = padW m ys := ⟨_, rfl⟩
  rw [← hX] at LX IX PX ⊢
  rw [← hY] at LY IY PY ⊢
  have HA : Hid (SeesW w B sa xs) := ha
  have HB : Hid (SeesW w B sb ys) := hb
  obtain ⟨A1, c1, rfl⟩ := ha.len
  obtain ⟨A2, c2, rfl⟩ := hb.len
  have KX : Hid (X.length = m) := LX
  have KY : Hid (Y.length = m) := LY
  have hmx : max (xs.length : Int) (ys.length : Int) = (m : Int) := by omega
  clear hX hY LX LY hx hy ha hb
  obtain ⟨n1, hn1⟩ : ∃ n, n = xs.length := ⟨_, rfl⟩
  obtain ⟨n2, hn2⟩ : ∃ n, n = ys.length := ⟨_, rfl⟩
  have N1 : Hid (_ = _) := hn1
  have N2 : Hid (_ = _) := hn2
  rw [← hn1] at lx hm hmx PX HA ⊢
  rw [← hn2] at ly hm hmx PY HB ⊢
  clear hn1 hn2
  have hm0 : m ≤ 200000 := by omega
  have HM : Hid (m = max n1 n2) := hm
  clear hm
  by_cases hlt : (n1 : Int) < (n2 : Int)
  · obtain rfl : m = n2 := by have := HM.out; omega
    clear hmx
    go_enter Try.func66, Try.ntmps66
    go_wp2
    go_loop [13] (fun iv => ∃ i : Nat, iv = .int .i64 (i : Int) ∧ i ≤ m ∧ Hid (X.drop (m - i) = Y.drop (m - i))) (fun iv => m - (intOf iv).toNat)
    case atStart => exact ⟨0, rfl, Nat.zero_le _, by show _ = _; rw [Nat.sub_zero, List.drop_of_length_le (by rw [KX.out]; exact Nat.le_refl _), List.drop_of_length_le (by rw [KY.out]; exact Nat.le_refl _)]⟩
    case round =>
      obtain ⟨i, rfl, hi, D⟩ := hrel
      by_cases him : i < m
      · have x0 := IX.get (m - 1 - i)
        have y0 := IY.get (m - 1 - i)
        obtain ⟨x, hx⟩ : ∃ x, x = X[m - 1 - i]?.getD 0 := ⟨_, rfl⟩
        obtain ⟨y, hy⟩ : ∃ y, y = Y[m - 1 - i]?.getD 0 := ⟨_, rfl⟩
        rw [← hx] at x0
        rw [← hy] at y0
        have HX : Hid (_ = _) := hx
        have HY : Hid (_ = _) := hy
        clear hx hy
        obtain ⟨x0, x1⟩ := x0
        obtain ⟨y0, y1⟩ := y0
        by_cases hxy : x = y
        · have R : Hid (X.drop (m - (i + 1)) = Y.drop (m - (i + 1))) := by
            show _ = _
            have d := D.out
            rw [show m - i = m - (i + 1) + 1 by omega] at d
            refine drop_same X Y m _ KX.out KY.out (by omega) d ?_
            rw [show m - (i + 1) = m - 1 - i by omega, ← HX.out, ← HY.out, hxy]
          subst hxy
          clear D
          go_wp2_with (first | (go_at_call_of 74 A1; refine (dWordAt _ xs _ B _ HA.out (by have := N1.out; omega) (by omega) (by omega)).mono ?_; rintro e w' ⟨rfl, rfl⟩; rw [PX.out i him, ← HX.out]) | (go_at_call_of 74 A2; refine (dWordAt _ ys _ B _ HB.out (by have := N2.out; omega) (by omega) (by omega)).mono ?_; rintro e w' ⟨rfl, rfl⟩; rw [PY.out i him, ← HY.out]))
          go_round
          case rel => exact ⟨i + 1, by go_num, by omega, R⟩
          case measure => simp [intOf]; omega
        · have R : Hid (cmpZ x y = cmpZ (dv X) (dv Y)) := by
            show _ = _
            have d := D.out
            rw [show m - i = m - 1 - i + 1 by omega] at d
            have := cmpZ_top X Y IX IY m (m - 1 - i) KX.out KY.out (by omega) d (by rw [← HX.out, ← HY.out]; exact hxy)
            rw [← HX.out, ← HY.out] at this
            exact this
          go_wp2_with (first | (go_at_call_of 74 A1; refine (dWordAt _ xs _ B _ HA.out (by have := N1.out; omega) (by omega) (by omega)).mono ?_; rintro e w' ⟨rfl, rfl⟩; rw [PX.out i him, ← HX.out]) | (go_at_call_of 74 A2; refine (dWordAt _ ys _ B _ HB.out (by have := N2.out; omega) (by omega) (by omega)).mono ?_; rintro e w' ⟨rfl, rfl⟩; rw [PY.out i him, ← HY.out]) | (go_at_call 87; refine (dCmpU _ _ _).mono ?_; rintro e w' ⟨rfl, rfl⟩; rw [R.out]))
          go_ret
          exact ⟨rfl, rfl⟩
      · have R : Hid (cmpZ (dv X) (dv Y) = 0) := by
          show _ = _
          have d := D.out
          rw [show m - i = 0 by omega, List.drop_zero, List.drop_zero] at d
          rw [d]
          unfold cmpZ
          rw [if_neg (by omega), if_pos rfl]
        go_wp2
        go_ret
        exact ⟨by rw [R.out]; rfl, rfl⟩
  · obtain rfl : m = n1 := by have := HM.out; omega
    clear hmx
    go_enter Try.func66, Try.ntmps66
    go_wp2
    go_loop [13] (fun iv => ∃ i : Nat, iv = .int .i64 (i : Int) ∧ i ≤ m ∧ Hid (X.drop (m - i) = Y.drop (m - i))) (fun iv => m - (intOf iv).toNat)
    case atStart => exact ⟨0, rfl, Nat.zero_le _, by show _ = _; rw [Nat.sub_zero, List.drop_of_length_le (by rw [KX.out]; exact Nat.le_refl _), List.drop_of_length_le (by rw [KY.out]; exact Nat.le_refl _)]⟩
    case round =>
      obtain ⟨i, rfl, hi, D⟩ := hrel
      by_cases him : i < m
      · have x0 := IX.get (m - 1 - i)
        have y0 := IY.get (m - 1 - i)
        obtain ⟨x, hx⟩ : ∃ x, x = X[m - 1 - i]?.getD 0 := ⟨_, rfl⟩
        obtain ⟨y, hy⟩ : ∃ y, y = Y[m - 1 - i]?.getD 0 := ⟨_, rfl⟩
        rw [← hx] at x0
        rw [← hy] at y0
        have HX : Hid (_ = _) := hx
        have HY : Hid (_ = _) := hy
        clear hx hy
        obtain ⟨x0, x1⟩ := x0
        obtain ⟨y0, y1⟩ := y0
        by_cases hxy : x = y
        · have R : Hid (X.drop (m - (i + 1)) = Y.drop (m - (i + 1))) := by
            show _ = _
            have d := D.out
            rw [show m - i = m - (i + 1) + 1 by omega] at d
            refine drop_same X Y m _ KX.out KY.out (by omega) d ?_
            rw [show m - (i + 1) = m - 1 - i by omega, ← HX.out, ← HY.out, hxy]
          subst hxy
          clear D
          go_wp2_with (first | (go_at_call_of 74 A1; refine (dWordAt _ xs _ B _ HA.out (by have := N1.out; omega) (by omega) (by omega)).mono ?_; rintro e w' ⟨rfl, rfl⟩; rw [PX.out i him, ← HX.out]) | (go_at_call_of 74 A2; refine (dWordAt _ ys _ B _ HB.out (by have := N2.out; omega) (by omega) (by omega)).mono ?_; rintro e w' ⟨rfl, rfl⟩; rw [PY.out i him, ← HY.out]))
          go_round
          case rel => exact ⟨i + 1, by go_num, by omega, R⟩
          case measure => simp [intOf]; omega
        · have R : Hid (cmpZ x y = cmpZ (dv X) (dv Y)) := by
            show _ = _
            have d := D.out
            rw [show m - i = m - 1 - i + 1 by omega] at d
            have := cmpZ_top X Y IX IY m (m - 1 - i) KX.out KY.out (by omega) d (by rw [← HX.out, ← HY.out]; exact hxy)
            rw [← HX.out, ← HY.out] at this
            exact this
          go_wp2_with (first | (go_at_call_of 74 A1; refine (dWordAt _ xs _ B _ HA.out (by have := N1.out; omega) (by omega) (by omega)).mono ?_; rintro e w' ⟨rfl, rfl⟩; rw [PX.out i him, ← HX.out]) | (go_at_call_of 74 A2; refine (dWordAt _ ys _ B _ HB.out (by have := N2.out; omega) (by omega) (by omega)).mono ?_; rintro e w' ⟨rfl, rfl⟩; rw [PY.out i him, ← HY.out]) | (go_at_call 87; refine (dCmpU _ _ _).mono ?_; rintro e w' ⟨rfl, rfl⟩; rw [R.out]))
          go_ret
          exact ⟨rfl, rfl⟩
      · have R : Hid (cmpZ (dv X) (dv Y) = 0) := by
          show _ = _
          have d := D.out
          rw [show m - i = 0 by omega, List.drop_zero, List.drop_zero] at d
          rw [d]
          unfold cmpZ
          rw [if_neg (by omega), if_pos rfl]
        go_wp2
        go_ret
        exact ⟨by rw [R.out]; rfl, rfl⟩
end Go.Proofs.Ytgpgmnmifhkmbaa
