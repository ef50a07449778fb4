/-
  What Text of package hex and head of the statements of layer 8 return. Conditions: two tables of Go's library are as they are laid.
-/
import Derived.Test.YtaamonmkfgonmaaDoorHexI
namespace Go.Proofs.YtaamonmkfgonmaaDoor
open Go.RowKit
set_option linter.unusedVariables false
set_option linter.unusedSimpArgs false

theorem size_len (b : Int) (h0 : 0 ≤ b) : (sizeT b).length ≤ 40 := by
  obtain ⟨m0, m1, p0, p1⟩ := mant_bd b
  unfold sizeT
  split
  · simp
  · split
    · simp
    · have hz : zB b ≤ 64 := ctz_le _ (by omega)
      have l1 := hxD_len64 ((wMant b).toNat / 2 ^ zB b) (Nat.lt_of_le_of_lt (Nat.div_le_self _ _) (by omega))
      have l2 := itoa_len (wPow b + (zB b : Int)) (by omega) (by omega)
      simp only [List.length_append, List.length_cons, List.length_nil]
      omega
theorem txt_len (b : Int) (h0 : 0 ≤ b) : (txt b).length ≤ 41 := by
  have := size_len b h0
  unfold txt
  split
  · simp
  · split
    · simp only [List.length_append, List.length_cons, List.length_nil]; omega
    · omega
set_option maxRecDepth 100000 in
set_option maxHeartbeats 1000000 in
theorem hText (b : Int) (w : World) (h0 : 0 ≤ b) (h1 : b < 18446744073709551616) (hT : Tabs w) :
    Calls Tryd.prog 10 #[.int .u64 b] w fun e w' => e = .returned (.string ⟨(txt b).toArray⟩) ∧ Below w.heap.size w w' := by
  have HT : Hid (Tabs w) := hT
  unfold txt
  obtain ⟨S1, hS1⟩ : ∃ s : ByteArray, ⟨(sizeT b).toArray⟩ = s := ⟨_, rfl⟩
  have z1 : S1.size ≤ 40 := by rw [← hS1, size_of_list]; exact size_len b h0
  have H1 : Hid (_ = S1) := hS1
  by_cases k5 : wKind b = 5
  · rw [if_pos k5]
    clear hT hS1
    go_enter Tryd.func10, Tryd.ntmps10
    go_wp2_with (first | (go_at_call 12; refine (kind_any _ _ h0 h1).mono ?_; rintro e w' ⟨rfl, rfl⟩))
    all_goals go_ret
    all_goals exact ⟨rfl, Below.refl _ _⟩
  · rw [if_neg k5]
    by_cases hs : 9223372036854775808 ≤ b
    · rw [if_pos hs, ← ByteArray.mk_append_mk, hS1]
      clear hT hS1
      go_enter Tryd.func10, Tryd.ntmps10
      go_wp2_with (first | (go_at_call 12; refine (kind_any _ _ h0 h1).mono ?_; rintro e w' ⟨rfl, rfl⟩) | (go_at_call 23; refine (neg_any _ _ h0 h1).mono ?_; rintro e w' ⟨rfl, rfl⟩) | (go_at_call 24; refine (hSize _ _ h0 h1 HT.out).mono ?_; rintro e w1 ⟨rfl, hb1⟩; rw [H1.out]))
      all_goals go_ret
      all_goals exact ⟨rfl, hb1⟩
    · rw [if_neg hs, hS1]
      clear hT hS1
      go_enter Tryd.func10, Tryd.ntmps10
      go_wp2_with (first | (go_at_call 12; refine (kind_any _ _ h0 h1).mono ?_; rintro e w' ⟨rfl, rfl⟩) | (go_at_call 23; refine (neg_any _ _ h0 h1).mono ?_; rintro e w' ⟨rfl, rfl⟩) | (go_at_call 24; refine (hSize _ _ h0 h1 HT.out).mono ?_; rintro e w1 ⟨rfl, hb1⟩; rw [H1.out]))
      all_goals go_ret
      all_goals exact ⟨rfl, hb1⟩
theorem txt_one : txt 4607182418800017408 = [49, 112, 48] := by
  have k : wKind 4607182418800017408 = 3 := by decide
  have m : (wMant 4607182418800017408).toNat = 4503599627370496 := by decide
  have p : wPow 4607182418800017408 = -52 := by decide
  have z : Lib.ctz 64 4503599627370496 = 52 := by decide +kernel
  unfold txt sizeT zB
  rw [k, m, z, p, if_neg (by decide), if_neg (by decide), if_neg (by decide), if_neg (by decide), show 4503599627370496 / 2 ^ 52 = 1 by decide, hxD_small 1 (by decide), show (-52 : Int) + ((52 : Nat) : Int) = ((0 : Nat) : Int) by decide, Lib.itoa_nonneg, dec_small 0 (by decide)]
  decide
theorem txt_three : txt 13828302655841107968 = [45, 51, 112, 45, 50] := by
  have k : wKind 13828302655841107968 = 3 := by decide
  have m : (wMant 13828302655841107968).toNat = 6755399441055744 := by decide
  have p : wPow 13828302655841107968 = -53 := by decide
  have z : Lib.ctz 64 6755399441055744 = 51 := by decide +kernel
  unfold txt sizeT zB
  rw [k, m, z, p, if_neg (by decide), if_pos (by decide), if_neg (by decide), if_neg (by decide), show 6755399441055744 / 2 ^ 51 = 3 by decide, hxD_small 3 (by decide), show (-53 : Int) + ((51 : Nat) : Int) = -((2 : Nat) : Int) by decide, Lib.itoa_neg 2 (by decide), dec_small 2 (by decide)]
  decide
set_option maxRecDepth 100000 in
set_option maxHeartbeats 1000000 in
theorem hHead (w : World) (hT : Tabs w) : Calls Tryd.prog 9 #[] w fun e w' => e = .returned (.bool true) ∧ Below w.heap.size w w' := by
  have HT : Hid (Tabs w) := hT
  have H1 : Hid (_ = _) := txt_one
  have H2 : Hid (_ = _) := txt_three
  have ct : (1 : Nat) = 1 := rfl
  clear hT ct
  go_enter Tryd.func9, Tryd.ntmps9
  go_wp2_with fail
  refine (hText _ _ (by decide) (by decide) HT.out).mono ?_
  rintro e w1 ⟨rfl, hb1⟩
  rw [H1.out]
  have HT1 : Hid (Tabs w1) := HT.out.below hb1
  go_wp2_with fail
  refine (hText _ _ (by decide) (by decide) HT1.out).mono ?_
  rintro e w2 ⟨rfl, hb2⟩
  rw [H2.out]
  have hb : Below w.heap.size w w2 := hb1.trans (hb2.mono hb1.size)
  go_wp2
  go_ret
  exact ⟨rfl, hb⟩
end Go.Proofs.YtaamonmkfgonmaaDoor
