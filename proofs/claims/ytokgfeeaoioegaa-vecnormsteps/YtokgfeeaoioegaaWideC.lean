/-
  What the functions of package wide return, as whole numbers: products, sums, differences modulo 2^128 and what is carried; which is greater; how many bits; shifted up and down.
-/
import Derived.Test.YtokgfeeaoioegaaShiftM
import Derived.Test.YtokgfeeaoioegaaRef02E
namespace Go.Proofs.Ytokgfeeaoioegaa
open Go.RowKit
set_option linter.unusedVariables false

theorem wMul (x y : Int) (w : World) (hx0 : 0 ≤ x) (hx : x < 18446744073709551616) (hy0 : 0 ≤ y) (hy : y < 18446744073709551616) :
    Calls Try.prog 113 #[.int .u64 x, .int .u64 y] w fun e w' => ∃ h l, e = .returned (.agg #[.int .u64 h, .int .u64 l]) ∧ 0 ≤ h ∧ h < 18446744073709551616 ∧ 0 ≤ l ∧ l < 18446744073709551616 ∧ wid h l = x.toNat * y.toNat ∧ Below w.heap.size w w' := by
  have E : Hid (0 ≤ x * y / 18446744073709551616 ∧ x * y / 18446744073709551616 < 18446744073709551616 ∧ wid (x * y / 18446744073709551616) (x * y % 18446744073709551616) = x.toNat * y.toNat) := by
    obtain ⟨X, rfl⟩ := Int.eq_ofNat_of_zero_le hx0
    obtain ⟨Y, rfl⟩ := Int.eq_ofNat_of_zero_le hy0
    rw [← Int.natCast_mul]
    have hb : X * Y < 18446744073709551616 * 18446744073709551616 := Nat.mul_lt_mul'' (by omega) (by omega)
    unfold wid
    rw [Int.toNat_natCast, Int.toNat_natCast]
    generalize X * Y = Z at *
    refine ⟨by omega, by omega, by omega⟩
  go_enter Try.func113, Try.ntmps113
  go_wp2_with fail
  refine (mul64_any _ _ _ hx0 hx hy0 hy).mono ?_
  rintro e w' ⟨rfl, rfl⟩
  have hl0 : 0 ≤ x * y % 18446744073709551616 := by omega
  have hl1 : x * y % 18446744073709551616 < 18446744073709551616 := by omega
  generalize x * y / 18446744073709551616 = h at *
  generalize x * y % 18446744073709551616 = l at *
  go_wp2
  refine bodyPost_ret (v := .agg #[.int .u64 h, .int .u64 l]) (by simp [results, Try.results113, go_sem]) rfl ⟨h, l, rfl, E.out.1, E.out.2.1, hl0, hl1, E.out.2.2, (Below.refl _ _).alloc (Nat.le_refl _) _⟩
theorem wAdd (ah al ch cl : Int) (w : World) (a0 : 0 ≤ ah) (a1 : ah < 18446744073709551616) (a2 : 0 ≤ al) (a3 : al < 18446744073709551616) (c0 : 0 ≤ ch) (c1 : ch < 18446744073709551616) (c2 : 0 ≤ cl) (c3 : cl < 18446744073709551616) :
    Calls Try.prog 123 #[.agg #[.int .u64 ah, .int .u64 al], .agg #[.int .u64 ch, .int .u64 cl]] w fun e w' => ∃ h l, e = .returned (.tuple #[.agg #[.int .u64 h, .int .u64 l], .bool (decide (2 ^ 128 ≤ wid ah al + wid ch cl))]) ∧ 0 ≤ h ∧ h < 18446744073709551616 ∧ 0 ≤ l ∧ l < 18446744073709551616 ∧ wid h l = (wid ah al + wid ch cl) % 2 ^ 128 ∧ Below w.heap.size w w' := by
  have k0 : 0 ≤ (al + cl) / 18446744073709551616 := by omega
  have k1 : (al + cl) / 18446744073709551616 ≤ 1 := by omega
  have f1 := add64 al cl 0 a2 c2 (by omega) (by omega)
  rw [Int.add_zero] at f1
  have f2 := add64 ah ch _ a0 c0 k0 k1
  go_enter Try.func123, Try.ntmps123
  go_wp2
  refine bodyPost_ret (v := .tuple #[.agg #[.int .u64 ((ah + ch + (al + cl) / 18446744073709551616) % 18446744073709551616), .int .u64 ((al + cl) % 18446744073709551616)], .bool ((ah + ch + (al + cl) / 18446744073709551616) / 18446744073709551616 != 0)]) (by simp [results, Try.results123, go_sem]) rfl ⟨_, _, ret_eq (tup2 rfl (bool_eq ?_)), by omega, by omega, by omega, by omega, ?_, (((Below.refl _ _).alloc (Nat.le_refl _) _).alloc (by simp) _).alloc (by simp; omega) _⟩
  · rw [Bool.eq_iff_iff, bne_iff_ne, decide_eq_true_eq]; unfold wid; omega
  · unfold wid; omega
theorem wSub (ah al ch cl : Int) (w : World) (a0 : 0 ≤ ah) (a1 : ah < 18446744073709551616) (a2 : 0 ≤ al) (a3 : al < 18446744073709551616) (c0 : 0 ≤ ch) (c1 : ch < 18446744073709551616) (c2 : 0 ≤ cl) (c3 : cl < 18446744073709551616) :
    Calls Try.prog 129 #[.agg #[.int .u64 ah, .int .u64 al], .agg #[.int .u64 ch, .int .u64 cl]] w fun e w' => ∃ h l, e = .returned (.tuple #[.agg #[.int .u64 h, .int .u64 l], .bool (decide (wid ah al < wid ch cl))]) ∧ 0 ≤ h ∧ h < 18446744073709551616 ∧ 0 ≤ l ∧ l < 18446744073709551616 ∧ wid h l = (2 ^ 128 + wid ah al - wid ch cl) % 2 ^ 128 ∧ Below w.heap.size w w' := by
  have k := bor_bd al cl
  have f1 := sub64 al cl 0 a2 c2 c3 (by omega) (by omega)
  rw [Int.add_zero, Int.sub_zero] at f1
  have f2 := sub64 ah ch _ a0 c0 c1 k.1 k.2
  have kk := bor_bd ah (ch + bor al cl)
  have K1 : Hid (bor al cl = if al < cl then 1 else 0) := rfl
  have K2 : Hid (bor ah (ch + bor al cl) = if ah < ch + bor al cl then 1 else 0) := rfl
  generalize bor ah (ch + bor al cl) = t at *
  generalize bor al cl = s at *
  go_enter Try.func129, Try.ntmps129
  go_wp2
  refine bodyPost_ret (v := .tuple #[.agg #[.int .u64 ((ah - ch - s) % 18446744073709551616), .int .u64 ((al - cl) % 18446744073709551616)], .bool (t != 0)]) (by simp [results, Try.results129, go_sem]) rfl ⟨_, _, ret_eq (tup2 rfl (bool_eq ?_)), by omega, by omega, by omega, by omega, ?_, (((Below.refl _ _).alloc (Nat.le_refl _) _).alloc (by simp) _).alloc (by simp; omega) _⟩
  · have e1 := K1.out
    have e2 := K2.out
    rw [Bool.eq_iff_iff, bne_iff_ne, decide_eq_true_eq]; unfold wid
    split at e1 <;> split at e2 <;> omega
  · have e1 := K1.out
    unfold wid
    split at e1 <;> omega
theorem wZero (ah al : Int) (w : World) (a0 : 0 ≤ ah) (a1 : ah < 18446744073709551616) (a2 : 0 ≤ al) (a3 : al < 18446744073709551616) :
    Calls Try.prog 104 #[.agg #[.int .u64 ah, .int .u64 al]] w fun e w' => e = .returned (.bool (decide (wid ah al = 0))) ∧ Below w.heap.size w w' := by
  go_enter Try.func104, Try.ntmps104
  go_wp2
  all_goals go_ret
  all_goals refine ⟨ret_eq (bool_eq ?_), (Below.refl _ _).alloc (Nat.le_refl _) _⟩
  all_goals (unfold wid; rw [eq_comm]; first | (rw [decide_eq_true_eq]; omega) | (rw [decide_eq_false_iff_not]; omega))
theorem wCmp (ah al ch cl : Int) (w : World) (a0 : 0 ≤ ah) (a1 : ah < 18446744073709551616) (a2 : 0 ≤ al) (a3 : al < 18446744073709551616) (c0 : 0 ≤ ch) (c1 : ch < 18446744073709551616) (c2 : 0 ≤ cl) (c3 : cl < 18446744073709551616) :
    Calls Try.prog 131 #[.agg #[.int .u64 ah, .int .u64 al], .agg #[.int .u64 ch, .int .u64 cl]] w fun e w' => e = .returned (.int .i64 (cmpI (wid ah al) (wid ch cl))) ∧ Below w.heap.size w w' := by
  go_enter Try.func131, Try.ntmps131
  go_wp2
  all_goals go_ret
  all_goals refine ⟨ret_eq (int_eq ?_), ((Below.refl _ _).alloc (Nat.le_refl _) _).alloc (by simp) _⟩
  all_goals (unfold cmpI wid; repeat' split)
  all_goals omega
theorem len_hi (h l : Nat) (hh : h ≠ 0) (hl : l < 18446744073709551616) : (bl (h * 18446744073709551616 + l)).length = 64 + (bl h).length := by
  have h1 := (bl_length_le h (bl h).length).1 (Nat.le_refl _)
  have hp : 0 < (bl h).length := by have := bl_nil_iff h; omega
  have h2 := (bl_length_lt h ((bl h).length - 1)).1 (by omega)
  have e1 : (bl (h * 18446744073709551616 + l)).length ≤ 64 + (bl h).length := by
    rw [bl_length_le, Nat.pow_add]
    have : (h + 1) * 18446744073709551616 ≤ 2 ^ (bl h).length * 18446744073709551616 := Nat.mul_le_mul_right _ (by omega)
    rw [show (2 : Nat) ^ 64 = 18446744073709551616 by decide]
    omega
  have e2 : 64 + ((bl h).length - 1) < (bl (h * 18446744073709551616 + l)).length := by
    rw [bl_length_lt, Nat.pow_add]
    have : 2 ^ ((bl h).length - 1) * 18446744073709551616 ≤ h * 18446744073709551616 := Nat.mul_le_mul_right _ h2
    rw [show (2 : Nat) ^ 64 = 18446744073709551616 by decide]
    omega
  omega
theorem wLen (ah al : Int) (w : World) (a0 : 0 ≤ ah) (a1 : ah < 18446744073709551616) (a2 : 0 ≤ al) (a3 : al < 18446744073709551616) :
    Calls Try.prog 106 #[.agg #[.int .u64 ah, .int .u64 al]] w fun e w' => e = .returned (.int .i64 ((bl (wid ah al)).length : Nat)) ∧ Below w.heap.size w w' := by
  have hl1 : (bl ah.toNat).length ≤ 64 := (bl_length_le _ 64).2 (by omega)
  by_cases h : ah = 0
  · have E : Hid (bl (wid ah al) = bl al.toNat) := by show _ = _; unfold wid; rw [h]; simp
    have h' : (ah != 0) = false := by simp [h]
    go_enter Try.func106, Try.ntmps106
    go_wp2_with (go_at_call 86; refine (len64_any al _ a2 a3).mono ?_; rintro e w' ⟨rfl, rfl⟩)
    go_ret
    refine ⟨ret_eq (int_eq ?_), (Below.refl _ _).alloc (Nat.le_refl _) _⟩
    rw [E.out]
  · have E : Hid ((bl (wid ah al)).length = 64 + (bl ah.toNat).length) := by
      show _ = _
      have := len_hi ah.toNat al.toNat (by omega) (by omega)
      rw [← this]
      unfold wid
      congr 2
      omega
    have h' : (ah != 0) = true := by rw [bne_iff_ne]; exact h
    go_enter Try.func106, Try.ntmps106
    go_wp2_with (go_at_call 86; refine (len64_any ah _ a0 a1).mono ?_; rintro e w' ⟨rfl, rfl⟩)
    go_ret
    refine ⟨ret_eq (int_eq ?_), (Below.refl _ _).alloc (Nat.le_refl _) _⟩
    rw [E.out]; rfl
theorem wLeft (ah al n : Int) (w : World) (a0 : 0 ≤ ah) (a1 : ah < 18446744073709551616) (a2 : 0 ≤ al) (a3 : al < 18446744073709551616) (n1 : n ≤ 9223372036854775807) :
    Calls Try.prog 91 #[.agg #[.int .u64 ah, .int .u64 al], .int .i64 n] w fun e w' => ∃ h l, e = .returned (.agg #[.int .u64 h, .int .u64 l]) ∧ 0 ≤ h ∧ h < 18446744073709551616 ∧ 0 ≤ l ∧ l < 18446744073709551616 ∧ wid h l = 2 ^ n.toNat * wid ah al % 2 ^ 128 ∧ Below w.heap.size w w' := by
  by_cases h0 : n ≤ 0
  · have E : Hid (wid ah al = 2 ^ n.toNat * wid ah al % 2 ^ 128) := by
      show _ = _
      have := wid_lt ah al a0 a1 a2 a3
      rw [show n.toNat = 0 by omega]
      rw [Nat.pow_zero, Nat.one_mul, Nat.mod_eq_of_lt this]
    go_enter Try.func91, Try.ntmps91
    go_wp2
    exact bodyPost_ret (v := .agg #[.int .u64 ah, .int .u64 al]) (by simp [results, Try.results91, go_sem]) rfl ⟨_, _, rfl, a0, a1, a2, a3, E.out, ((Below.refl _ _).alloc (Nat.le_refl _) _).alloc (by simp) _⟩
  · by_cases h1 : n < 64
    · obtain ⟨h, l, e1, e2, g0, g1, g2, g3, g4⟩ := shl_mid ah al n a0 a1 a2 a3 (by omega) h1
      have E1 : Hid (_ = _) := e1
      have E2 : Hid (_ = _) := e2
      have E3 : Hid (_ = _) := g4
      clear e1 e2 g4
      go_enter Try.func91, Try.ntmps91
      go_wp2
      go_region
      all_goals go_wp2
      rw [E1.out, E2.out]
      exact bodyPost_ret (v := .agg #[.int .u64 h, .int .u64 l]) (by simp [results, Try.results91, go_sem]) rfl ⟨_, _, rfl, g0, g1, g2, g3, E3.out, (((Below.refl _ _).alloc (Nat.le_refl _) _).alloc (by simp) _).drew⟩
    · obtain ⟨h, e1, g0, g1, g4⟩ := shl_big ah al n a0 a2 (by omega)
      have E1 : Hid (_ = _) := e1
      have E3 : Hid (_ = _) := g4
      clear e1 g4
      go_enter Try.func91, Try.ntmps91
      go_wp2
      rw [E1.out]
      exact bodyPost_ret (v := .agg #[.int .u64 h, .int .u64 0]) (by simp [results, Try.results91, go_sem]) rfl ⟨_, _, rfl, g0, g1, by omega, by omega, E3.out, ((Below.refl _ _).alloc (Nat.le_refl _) _).alloc (by simp) _⟩
theorem wDown (ah al n : Int) (w : World) (a0 : 0 ≤ ah) (a1 : ah < 18446744073709551616) (a2 : 0 ≤ al) (a3 : al < 18446744073709551616) (n1 : n ≤ 9223372036854775807) :
    Calls Try.prog 134 #[.agg #[.int .u64 ah, .int .u64 al], .int .i64 n] w fun e w' => ∃ h l, e = .returned (.agg #[.int .u64 h, .int .u64 l]) ∧ 0 ≤ h ∧ h < 18446744073709551616 ∧ 0 ≤ l ∧ l < 18446744073709551616 ∧ wid h l = wid ah al / 2 ^ n.toNat ∧ Below w.heap.size w w' := by
  by_cases h0 : n ≤ 0
  · have E : Hid (wid ah al = wid ah al / 2 ^ n.toNat) := by
      show _ = _
      have := wid_lt ah al a0 a1 a2 a3
      rw [show n.toNat = 0 by omega]
      rw [Nat.pow_zero, Nat.div_one]
    go_enter Try.func134, Try.ntmps134
    go_wp2
    exact bodyPost_ret (v := .agg #[.int .u64 ah, .int .u64 al]) (by simp [results, Try.results134, go_sem]) rfl ⟨_, _, rfl, a0, a1, a2, a3, E.out, ((Below.refl _ _).alloc (Nat.le_refl _) _).alloc (by simp) _⟩
  · by_cases h1 : n < 64
    · obtain ⟨h, l, e1, e2, g0, g1, g2, g3, g4⟩ := shr_mid ah al n a0 a1 a2 a3 (by omega) h1
      have E1 : Hid (_ = _) := e1
      have E2 : Hid (_ = _) := e2
      have E3 : Hid (_ = _) := g4
      clear e1 e2 g4
      go_enter Try.func134, Try.ntmps134
      go_wp2
      go_region
      all_goals go_wp2
      rw [E1.out, E2.out]
      exact bodyPost_ret (v := .agg #[.int .u64 h, .int .u64 l]) (by simp [results, Try.results134, go_sem]) rfl ⟨_, _, rfl, g0, g1, g2, g3, E3.out, (((Below.refl _ _).alloc (Nat.le_refl _) _).alloc (by simp) _).drew⟩
    · obtain ⟨l, e1, g0, g1, g4⟩ := shr_big ah al n a0 a1 a2 a3 (by omega)
      have E1 : Hid (_ = _) := e1
      have E3 : Hid (_ = _) := g4
      clear e1 g4
      go_enter Try.func134, Try.ntmps134
      go_wp2
      rw [E1.out]
      exact bodyPost_ret (v := .agg #[.int .u64 0, .int .u64 l]) (by simp [results, Try.results134, go_sem]) rfl ⟨_, _, rfl, by omega, by omega, g0, g1, E3.out, ((Below.refl _ _).alloc (Nat.le_refl _) _).alloc (by simp) _⟩
end Go.Proofs.Ytokgfeeaoioegaa
