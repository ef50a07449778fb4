/-
  What the functions of package dyad on words do in memory: addTo, subFrom, addTimes. Conditions: the sum fits, the difference isn't below 0.
-/
import Derived.Test.YtokgfeeaoioegaaNumM
import Derived.Test.YtokgfeeaoioegaaWideM
import Derived.Test.YtokgfeeaoioegaaWideC
namespace Go.Proofs.Ytokgfeeaoioegaa
open Go.RowKit
set_option linter.unusedVariables false

set_option maxHeartbeats 1000000 in
theorem dAddTo (g k m c b o c2 : Nat) (xs ys : List Int) (w : World) (hr : RowU w g xs) (hx : InW xs) (hm : k + m = xs.length) (hmc : m ≤ c) (hcm : c ≤ 1000000) (hy : InW ys) (hl : ys.length ≤ m) (hbg : b ≠ g) (hc2 : ys.length ≤ c2) (hcm2 : c2 ≤ 9223372036854775807)
    (hcell : ∀ i, i < ys.length → w.cell? ⟨b, o + i, none⟩ = some (.int .u64 (ys[i]?.getD 0))) (hfit : dv xs + pw k * dv ys < pw xs.length) :
    Calls Try.prog 96 #[.slice (some ⟨g, k, none⟩) m c, .slice (some ⟨b, o, none⟩) ys.length c2] w fun e w' => e = .returned (.tuple #[]) ∧ ∃ zs, RowU w' g zs ∧ zs.length = xs.length ∧ InW zs ∧ dv zs = dv xs + pw k * dv ys ∧ Only g w w' := by
  obtain ⟨n, hn⟩ : ∃ n, n = ys.length := ⟨_, rfl⟩
  have HF : Hid (_ < _) := hfit
  have HC : Hid (∀ i, i < ys.length → w.cell? ⟨b, o + i, none⟩ = some (.int .u64 (ys[i]?.getD 0))) := hcell
  have HR : Hid (RowU w g xs) := hr
  clear hfit hcell hr
  rw [← hn] at hl hc2 ⊢
  have HN : Hid (n = ys.length) := hn
  clear hn
  go_enter Try.func96, Try.ntmps96
  go_wp2
  go_loopw [4, 10] (fun cv iv wr => ∃ (cy : Int) (i : Nat) (zs : List Int), cv = .int .u64 cy ∧ iv = .int .i64 (i : Int) ∧ i ≤ n ∧ 0 ≤ cy ∧ cy ≤ 1 ∧ Hid (RowU wr g zs) ∧ Hid (zs.length = xs.length) ∧ Hid (InW zs) ∧ Hid (dv zs + cy * pw (k + i) = dv xs + pw k * dv (ys.take i)) ∧ Hid (Only g w wr)) (fun _ iv _ => n - (intOf iv).toNat)
  case atStart => exact ⟨0, 0, xs, rfl, rfl, Nat.zero_le _, by omega, by omega, HR.out, rfl, hx, by show _ = _; rw [List.take_zero, dv_nil, Int.mul_zero, Int.zero_mul], Only.refl _ _⟩
  case round =>
    obtain ⟨cy, i, zs, rfl, rfl, hi, hc0, hc1, A, B, C, D, E⟩ := hrel
    by_cases hlt : i < n
    · have q1 := A.out.cell (k + i) (by have := B.out; omega)
      have q2 : wr.cell? ⟨b, o + i, none⟩ = some (.int .u64 (ys[i]?.getD 0)) := (E.out.cell (p := ⟨b, o + i, none⟩) hbg).trans (HC.out i (by have := HN.out; omega))
      have q3 := A.out.frozen (k + i)
      have z0 := (C.out.get (k + i)).1
      have z1 := (C.out.get (k + i)).2
      have y0 := (InW.get hy i).1
      have y1 := (InW.get hy i).2
      obtain ⟨z, hz⟩ : ∃ z, z = zs[k + i]?.getD 0 := ⟨_, rfl⟩
      obtain ⟨y, hy'⟩ : ∃ y, y = ys[i]?.getD 0 := ⟨_, rfl⟩
      rw [← hz] at q1 z0 z1
      rw [← hy'] at q2 y0 y1
      have HZ : Hid (_ = _) := hz
      have HY : Hid (_ = _) := hy'
      clear hz hy'
      have f := add64 z y cy z0 y0 hc0 hc1
      go_wp2
      go_roundw
      case rel =>
        refine ⟨(z + y + cy) / 18446744073709551616, i + 1, zs.set (k + i) ((z + y + cy) % 18446744073709551616), rfl, by go_num, by omega, by omega, by omega, A.out.set _ _, ?_, C.out.set _ _ (by omega) (by omega), ?_, E.out.set _ _⟩
        · show _ = _
          rw [List.length_set]; exact B.out
        · show _ = _
          have e1 := dv_set zs (k + i) ((z + y + cy) % 18446744073709551616) (by have := B.out; omega)
          rw [← HZ.out] at e1
          have e2 := add_word _ z y cy _ ((z + y + cy) / 18446744073709551616) (pw (k + i)) _ _ (by omega) e1 D.out
          rw [← Nat.add_assoc, pw_succ, e2, dv_take_succ ys i (by have := HN.out; omega), ← HY.out, pw_add]
          grind
      case measure => simp [intOf]; omega
    · obtain rfl : i = n := by omega
      have D' : Hid (dv zs + cy * pw (k + i) = dv xs + pw k * dv ys) := by
        have := D.out
        rw [HN.out, List.take_length] at this
        rw [HN.out]
        exact this
      clear D
      obtain ⟨wA, hwA⟩ : ∃ x, x = wr := ⟨wr, rfl⟩
      rw [← hwA] at A E
      go_wp2
      go_loopw [4, 7] (fun cv iv wr => ∃ (cy : Int) (i : Nat) (zs : List Int), cv = .int .u64 cy ∧ iv = .int .i64 (i : Int) ∧ i ≤ m ∧ 0 ≤ cy ∧ cy ≤ 1 ∧ Hid (RowU wr g zs) ∧ Hid (zs.length = xs.length) ∧ Hid (InW zs) ∧ Hid (dv zs + cy * pw (k + i) = dv xs + pw k * dv ys) ∧ Hid (Only g w wr)) (fun _ iv _ => m - (intOf iv).toNat)
      case atStart => exact ⟨cy, i, zs, rfl, rfl, hl, hc0, hc1, hwA ▸ A, B, C, D', hwA ▸ E⟩
      case round =>
        clear A B C D' E HC hwA
        obtain ⟨cz, j, us, rfl, rfl, hj, hd0, hd1, A, B, C, D, E⟩ := hrel
        by_cases hz : cz = 0
        · subst hz
          go_wp2
          refine bodyPost_end (results_none rfl _ _ _) rfl ?_
          refine ⟨rfl, us, A.out, B.out, C.out, ?_, E.out⟩
          have := D.out
          rw [Int.zero_mul, Int.add_zero] at this
          exact this
        · obtain rfl : cz = 1 := by omega
          have hjm : j < m := by
            have h1 := dv_nonneg C.out
            have h2 := D.out
            have h3 := HF.out
            have := pw_lt (k + j) xs.length (by omega)
            omega
          have q1 := A.out.cell (k + j) (by have := B.out; omega)
          have q3 := A.out.frozen (k + j)
          have z0 := (C.out.get (k + j)).1
          have z1 := (C.out.get (k + j)).2
          obtain ⟨z, hz⟩ : ∃ z, z = us[k + j]?.getD 0 := ⟨_, rfl⟩
          rw [← hz] at q1 z0 z1
          have HZ : Hid (_ = _) := hz
          clear hz
          have f := add64 z 0 1 z0 (by omega) (by omega) (by omega)
          go_wp2
          go_roundw
          case rel =>
            refine ⟨(z + 1) / 18446744073709551616, j + 1, us.set (k + j) ((z + 1) % 18446744073709551616), rfl, by go_num, by omega, by omega, by omega, A.out.set _ _, ?_, C.out.set _ _ (by omega) (by omega), ?_, E.out.set _ _⟩
            · show _ = _
              rw [List.length_set]; exact B.out
            · show _ = _
              have e1 := dv_set us (k + j) ((z + 1) % 18446744073709551616) (by have := B.out; omega)
              rw [← HZ.out] at e1
              have e2 := add_word _ z 0 1 _ ((z + 1) / 18446744073709551616) (pw (k + j)) _ _ (by omega) e1 D.out
              rw [← Nat.add_assoc, pw_succ, e2]
              omega
          case measure => simp [intOf]; omega
set_option maxHeartbeats 1000000 in
theorem dSubFrom (g k m c b o c2 : Nat) (xs ys : List Int) (w : World) (hr : RowU w g xs) (hx : InW xs) (hm : k + m = xs.length) (hmc : m ≤ c) (hcm : c ≤ 1000000) (hy : InW ys) (hl : ys.length ≤ m) (hbg : b ≠ g) (hc2 : ys.length ≤ c2) (hcm2 : c2 ≤ 9223372036854775807)
    (hcell : ∀ i, i < ys.length → w.cell? ⟨b, o + i, none⟩ = some (.int .u64 (ys[i]?.getD 0))) (hfit : pw k * dv ys ≤ dv xs) :
    Calls Try.prog 101 #[.slice (some ⟨g, k, none⟩) m c, .slice (some ⟨b, o, none⟩) ys.length c2] w fun e w' => e = .returned (.tuple #[]) ∧ ∃ zs, RowU w' g zs ∧ zs.length = xs.length ∧ InW zs ∧ dv zs = dv xs - pw k * dv ys ∧ Only g w w' := by
  obtain ⟨n, hn⟩ : ∃ n, n = ys.length := ⟨_, rfl⟩
  have HF : Hid (_ ≤ _) := hfit
  have HC : Hid (∀ i, i < ys.length → w.cell? ⟨b, o + i, none⟩ = some (.int .u64 (ys[i]?.getD 0))) := hcell
  have HR : Hid (RowU w g xs) := hr
  clear hfit hcell hr
  rw [← hn] at hl hc2 ⊢
  have HN : Hid (n = ys.length) := hn
  clear hn
  go_enter Try.func101, Try.ntmps101
  go_wp2
  go_loopw [4, 10] (fun cv iv wr => ∃ (cy : Int) (i : Nat) (zs : List Int), cv = .int .u64 cy ∧ iv = .int .i64 (i : Int) ∧ i ≤ n ∧ 0 ≤ cy ∧ cy ≤ 1 ∧ Hid (RowU wr g zs) ∧ Hid (zs.length = xs.length) ∧ Hid (InW zs) ∧ Hid (dv zs - cy * pw (k + i) = dv xs - pw k * dv (ys.take i)) ∧ Hid (Only g w wr)) (fun _ iv _ => n - (intOf iv).toNat)
  case atStart => exact ⟨0, 0, xs, rfl, rfl, Nat.zero_le _, by omega, by omega, HR.out, rfl, hx, by show _ = _; rw [List.take_zero, dv_nil, Int.mul_zero, Int.zero_mul], Only.refl _ _⟩
  case round =>
    obtain ⟨cy, i, zs, rfl, rfl, hi, hc0, hc1, A, B, C, D, E⟩ := hrel
    by_cases hlt : i < n
    · have q1 := A.out.cell (k + i) (by have := B.out; omega)
      have q2 : wr.cell? ⟨b, o + i, none⟩ = some (.int .u64 (ys[i]?.getD 0)) := (E.out.cell (p := ⟨b, o + i, none⟩) hbg).trans (HC.out i (by have := HN.out; omega))
      have q3 := A.out.frozen (k + i)
      have z0 := (C.out.get (k + i)).1
      have z1 := (C.out.get (k + i)).2
      have y0 := (InW.get hy i).1
      have y1 := (InW.get hy i).2
      obtain ⟨z, hz⟩ : ∃ z, z = zs[k + i]?.getD 0 := ⟨_, rfl⟩
      obtain ⟨y, hy'⟩ : ∃ y, y = ys[i]?.getD 0 := ⟨_, rfl⟩
      rw [← hz] at q1 z0 z1
      rw [← hy'] at q2 y0 y1
      have HZ : Hid (_ = _) := hz
      have HY : Hid (_ = _) := hy'
      clear hz hy'
      have bb := bor_bd z (y + cy)
      have be : Hid (bor z (y + cy) = if z < y + cy then 1 else 0) := rfl
      have f := sub64 z y cy z0 y0 y1 hc0 hc1
      go_wp2
      go_roundw
      case rel =>
        refine ⟨bor z (y + cy), i + 1, zs.set (k + i) ((z - y - cy) % 18446744073709551616), rfl, by go_num, by omega, by omega, by omega, A.out.set _ _, ?_, C.out.set _ _ (by omega) (by omega), ?_, E.out.set _ _⟩
        · show _ = _
          rw [List.length_set]; exact B.out
        · show _ = _
          have e1 := dv_set zs (k + i) ((z - y - cy) % 18446744073709551616) (by have := B.out; omega)
          rw [← HZ.out] at e1
          have e2 := sub_word _ z y cy _ (bor z (y + cy)) (pw (k + i)) _ _ (by have := be.out; split at this <;> omega) e1 D.out
          rw [← Nat.add_assoc, pw_succ, e2, dv_take_succ ys i (by have := HN.out; omega), ← HY.out, pw_add]
          grind
      case measure => simp [intOf]; omega
    · obtain rfl : i = n := by omega
      have D' : Hid (dv zs - cy * pw (k + i) = dv xs - pw k * dv ys) := by
        have := D.out
        rw [HN.out, List.take_length] at this
        rw [HN.out]
        exact this
      clear D
      obtain ⟨wA, hwA⟩ : ∃ x, x = wr := ⟨wr, rfl⟩
      rw [← hwA] at A E
      go_wp2
      go_loopw [4, 7] (fun cv iv wr => ∃ (cy : Int) (i : Nat) (zs : List Int), cv = .int .u64 cy ∧ iv = .int .i64 (i : Int) ∧ i ≤ m ∧ 0 ≤ cy ∧ cy ≤ 1 ∧ Hid (RowU wr g zs) ∧ Hid (zs.length = xs.length) ∧ Hid (InW zs) ∧ Hid (dv zs - cy * pw (k + i) = dv xs - pw k * dv ys) ∧ Hid (Only g w wr)) (fun _ iv _ => m - (intOf iv).toNat)
      case atStart => exact ⟨cy, i, zs, rfl, rfl, hl, hc0, hc1, hwA ▸ A, B, C, D', hwA ▸ E⟩
      case round =>
        clear A B C D' E HC hwA
        obtain ⟨cz, j, us, rfl, rfl, hj, hd0, hd1, A, B, C, D, E⟩ := hrel
        by_cases hz : cz = 0
        · subst hz
          go_wp2
          refine bodyPost_end (results_none rfl _ _ _) rfl ?_
          refine ⟨rfl, us, A.out, B.out, C.out, ?_, E.out⟩
          have := D.out
          rw [Int.zero_mul, Int.sub_zero] at this
          exact this
        · obtain rfl : cz = 1 := by omega
          have hjm : j < m := by
            have h1 := dv_lt C.out
            have h2 := D.out
            have h3 := HF.out
            rw [B.out] at h1
            have := pw_lt (k + j) xs.length (by omega)
            omega
          have q1 := A.out.cell (k + j) (by have := B.out; omega)
          have q3 := A.out.frozen (k + j)
          have z0 := (C.out.get (k + j)).1
          have z1 := (C.out.get (k + j)).2
          obtain ⟨z, hz⟩ : ∃ z, z = us[k + j]?.getD 0 := ⟨_, rfl⟩
          rw [← hz] at q1 z0 z1
          have HZ : Hid (_ = _) := hz
          clear hz
          have bb := bor_bd z 1
          have be : Hid (bor z 1 = if z < 1 then 1 else 0) := rfl
          have f := sub64 z 0 1 z0 (by omega) (by omega) (by omega) (by omega)
          go_wp2
          go_roundw
          case rel =>
            refine ⟨bor z 1, j + 1, us.set (k + j) ((z - 1) % 18446744073709551616), rfl, by go_num, by omega, by omega, by omega, A.out.set _ _, ?_, C.out.set _ _ (by omega) (by omega), ?_, E.out.set _ _⟩
            · show _ = _
              rw [List.length_set]; exact B.out
            · show _ = _
              have e1 := dv_set us (k + j) ((z - 1) % 18446744073709551616) (by have := B.out; omega)
              rw [← HZ.out] at e1
              have e2 := sub_word _ z 0 1 _ (bor z 1) (pw (k + j)) _ _ (by have := be.out; split at this <;> omega) e1 D.out
              rw [← Nat.add_assoc, pw_succ, e2]
              omega
          case measure => simp [intOf]; omega
end Go.Proofs.Ytokgfeeaoioegaa
