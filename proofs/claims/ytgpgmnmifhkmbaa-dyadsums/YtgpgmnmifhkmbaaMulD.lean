/-
  What product and Mul of package dyad return. Conditions: lists are short, places small.
-/
import Derived.Test.YtgpgmnmifhkmbaaMulC
import Derived.Test.YtgpgmnmifhkmbaaNumC
namespace Go.Proofs.Ytgpgmnmifhkmbaa
open Go.RowKit
set_option linter.unusedVariables false
set_option linter.unusedSimpArgs false

theorem dAddTimes0 (v : Value) (t : Int) (n : Nat) (w : World) (hn : n = 0) : Calls Try.prog 71 #[v, .slice none n 0, .int .u64 t] w fun e w' => e = .returned (.int .u64 0) ∧ w' = w := by
  subst hn
  go_enter Try.func71, Try.ntmps71
  go_wp2
  go_loop [7, 14] (fun cv iv => cv = .int .u64 0 ∧ iv = .int .i64 0) (fun _ _ => 0)
  case atStart => exact ⟨rfl, rfl⟩
  case round =>
    obtain ⟨rfl, rfl⟩ := hrel
    go_wp2
    go_ret
    exact ⟨rfl, rfl⟩
theorem prod_word (D d d' x Y cy p P : Int) (h1 : d + cy * P = D + p * (x * Y)) (h2 : d' = d + (cy - 0) * P) : d' = D + p * (x * Y) := by
  rw [h2, ← h1]
  grind
theorem prod_lt (i n : Nat) (xs ys : List Int) (hx : InW xs) (hy : InW ys) (hi : i ≤ xs.length) (hn : n = ys.length) : dv (xs.take i) * dv ys < pw (i + n) := by
  have a := dv_lt (hx.take i)
  rw [List.length_take, Nat.min_eq_left hi] at a
  have b := dv_lt hy
  rw [← hn] at b
  have c := dv_nonneg (hx.take i)
  have d := dv_nonneg hy
  rw [pw_add]
  rcases Int.lt_or_le 0 (dv ys) with h | h
  · exact Int.lt_trans (Int.mul_lt_mul_of_pos_right a h) (Int.mul_lt_mul_of_pos_left b (pw_pos i))
  · rw [show dv ys = 0 by omega, Int.mul_zero]
    exact Int.mul_pos (pw_pos i) (pw_pos n)
set_option maxHeartbeats 4000000 in
theorem dProduct (sa sb : Value) (xs ys : List Int) (w : World) (B : Nat) (ha : SeesW w B sa xs) (hb : SeesW w B sb ys) (hx : InW xs) (hy : InW ys) (lx : xs.length ≤ 200000) (ly : ys.length ≤ 200000) :
    Calls Try.prog 45 #[sa, sb] w fun e w' => ∃ zs, e = .returned (.slice (some ⟨w.heap.size, 0, none⟩) zs.length zs.length) ∧ zs.length = xs.length + ys.length ∧ RowU w' w.heap.size zs ∧ InW zs ∧ dv zs = dv xs * dv ys ∧ Below w.heap.size w w' := by
  have S1 : Hid (SeesW w B sa xs) := ha
  have S2 : Hid (SeesW w B sb ys) := hb
  obtain ⟨A1, c1, rfl⟩ := ha.len
  obtain ⟨A2, c2, rfl⟩ := hb.len
  obtain ⟨n1, hn1⟩ : ∃ n, n = xs.length := ⟨_, rfl⟩
  obtain ⟨n2, hn2⟩ : ∃ n, n = ys.length := ⟨_, rfl⟩
  have N1 : Hid (_ = _) := hn1
  have N2 : Hid (_ = _) := hn2
  have mk := mk_run (n1 + n2) (by omega)
  rw [show (((n1 + n2 : Nat) : Int)) = (n1 : Int) + (n2 : Int) by omega] at mk
  rw [← hn1] at S1 lx ⊢
  rw [← hn2] at S2 ly ⊢
  clear hn1 hn2 ha hb
  obtain ⟨Z, hZ⟩ : ∃ Z, Z = (List.replicate (n1 + n2) (0 : Int)).map (Value.int .u64) := ⟨_, rfl⟩
  have HZ : Hid (_ = _) := hZ
  rw [← hZ] at mk
  clear hZ
  go_enter Try.func45, Try.ntmps45
  go_wp2
  go_loopw [16] (fun iv wr => ∃ (i : Nat) (zs : List Int), iv = .int .i64 (i : Int) ∧ i ≤ n1 ∧ Hid (RowU wr w.heap.size zs) ∧ Hid (zs.length = n1 + n2) ∧ Hid (InW zs) ∧ Hid (dv zs = dv (xs.take i) * dv ys) ∧ Hid (Below w.heap.size w wr)) (fun iv _ => n1 - (intOf iv).toNat)
  case atStart =>
    refine ⟨0, List.replicate (n1 + n2) 0, rfl, Nat.zero_le _, ?_, by show _ = _; simp, InW.zeros _, by show _ = _; rw [dv_zeros, List.take_zero, dv_nil, Int.zero_mul], (Below.refl _ _).alloc (Nat.le_refl _) _⟩
    show _ = _
    rw [← HZ.out]
    exact heap_alloc_new w _
  case round =>
    obtain ⟨i, zs, rfl, hi, R, L, I, D, E⟩ := hrel
    by_cases hlt : i < n1
    · rcases S1.out with ⟨_, hnil⟩ | ⟨⟨ba, oa, ca, eA, a1, a2, a3, a4⟩, _⟩
      · exact absurd hlt (by rw [N1.out, hnil]; simp)
      simp at eA
      obtain ⟨rfl, eL, rfl⟩ := eA
      clear eL
      unfold maxLen at a3
      have qa := (E.out.cell (p := ⟨ba, oa + i, none⟩) a1).trans (a4 i (by have := N1.out; omega))
      rw [← N1.out] at a2
      have x0 := (InW.get hx i).1
      have x1 := (InW.get hx i).2
      have DT : Hid (dv (xs.take (i + 1)) = dv (xs.take i) + xs[i]?.getD 0 * pw i) := dv_take_succ xs i (by have := N1.out; omega)
      obtain ⟨x, hxx⟩ : ∃ x, x = xs[i]?.getD 0 := ⟨_, rfl⟩
      rw [← hxx] at qa x0 x1 DT
      clear hxx a4
      by_cases hx0 : x = 0
      · subst hx0
        go_wp2
        go_roundw
        case rel => exact ⟨i + 1, zs, by go_num, by omega, R, L, I, by show _ = _; rw [DT.out, Int.zero_mul, Int.add_zero]; exact D.out, E⟩
        case measure => simp [intOf]; omega
      · have i1 : (0 : Int) ≤ (i : Int) := by omega
        have i2 : (i : Int) + (n2 : Int) ≤ (n1 : Int) + (n2 : Int) := by omega
        have i3 : ¬ n1 + n2 = i := by omega
        have i4 : (i : Int) ≤ (i : Int) + (n2 : Int) := by omega
        rcases S2.out with ⟨eB, hnil⟩ | ⟨⟨bb, ob, cb, eB, b1, b2, b3, b4⟩, _⟩
        · simp at eB
          obtain ⟨rfl, hn20, rfl⟩ := eB
          have z0 : Hid (n2 = 0) := hn20
          have DY : Hid (dv ys = 0) := by rw [hnil]; rfl
          have hc := R.out.cell (i + n2) (by rw [L.out]; omega)
          have hf := R.out.frozen (i + n2)
          clear hnil hn20
          go_wp2_with (go_at_call 71; refine (dAddTimes0 _ _ _ _ z0.out).mono ?_; rintro e w' ⟨rfl, rfl⟩)
          go_roundw
          case rel =>
            refine ⟨i + 1, zs.set (i + n2) 0, by go_num, by omega, R.out.set _ _, by show _ = _; rw [List.length_set]; exact L.out, I.out.set _ _ (by omega) (by omega), ?_, E.out.setCell (by simp) _⟩
            show _ = _
            have d := D.out
            rw [DY.out, Int.mul_zero] at d
            have z := dv_high zs I.out 0 (i + n2) (by rw [d, pw_zero]; omega) (Nat.zero_le _)
            rw [dv_set zs (i + n2) 0 (by rw [L.out]; omega), z, d, DY.out, Int.mul_zero]
            omega
          case measure => simp [intOf]; omega
        · simp at eB
          obtain ⟨rfl, eL, rfl⟩ := eB
          clear eL
          unfold maxLen at b3
          rw [← N2.out] at b2
          have CB : Hid (∀ i, i < ys.length → wr.cell? ⟨bb, ob + i, none⟩ = some (.int .u64 (ys[i]?.getD 0))) := fun j hj => (E.out.cell (p := ⟨bb, ob + j, none⟩) b1).trans (b4 j hj)
          have hsz := E.out.size
          have hbne : bb ≠ w.heap.size := by omega
          clear b4
          go_wp2_with fail
          rw [N2.out]
          refine (dAddTimes w.heap.size i (n1 + ys.length - i) bb ob c2 zs ys x wr R.out I.out (by rw [L.out, ← N2.out]; omega) (by rw [L.out]; omega) (by rw [← N2.out]; omega) (by rw [← N2.out]; omega) hy hbne (by omega) (by rw [← N2.out]; omega) (by omega) x0 x1 CB.out).mono ?_
          rintro e w1 ⟨us, cy, rfl, cy0, cy1, R1, L1, I1, D1, G1, E1⟩
          rw [← N2.out] at D1 G1 ⊢
          rw [L.out] at L1
          have hc := R1.cell (i + n2) (by rw [L1]; omega)
          have hf := R1.frozen (i + n2)
          have RU : Hid (RowU _ _ _) := R1
          have LU : Hid (_ = _) := L1
          have IU : Hid (InW _) := I1
          have DU : Hid (_ = _) := D1
          have GU : Hid (us[i + n2]?.getD 0 = 0) := by
            show _ = _
            rw [G1 (i + n2) (Nat.le_refl _)]
            exact dv_high zs I.out (i + n2) (i + n2) (by rw [D.out]; exact prod_lt i n2 xs ys hx hy (by have := N1.out; omega) N2.out) (Nat.le_refl _)
          have EU : Hid (Below w.heap.size w w1) := E.out.trans (E1.below (Nat.le_refl _) hsz)
          clear R1 L1 I1 D1 G1 E1
          go_wp2
          go_roundw
          case rel =>
            refine ⟨i + 1, us.set (i + n2) cy, by go_num, by omega, RU.out.set _ _, by show _ = _; rw [List.length_set]; exact LU.out, IU.out.set _ _ cy0 cy1, ?_, EU.out.setCell (by simp) _⟩
            show _ = _
            have e1 := dv_set us (i + n2) cy (by rw [LU.out]; omega)
            rw [GU.out] at e1
            rw [prod_word _ _ _ _ _ _ _ _ DU.out e1, DT.out, D.out]
            grind
          case measure => simp [intOf]; omega
    · obtain rfl : i = n1 := by omega
      go_wp2
      go_ret
      refine ⟨zs, ret_eq (by rw [L.out]; rfl), L.out, R.out, I.out, ?_, E.out⟩
      have := D.out
      rw [N1.out, List.take_length] at this
      exact this
end Go.Proofs.Ytgpgmnmifhkmbaa
