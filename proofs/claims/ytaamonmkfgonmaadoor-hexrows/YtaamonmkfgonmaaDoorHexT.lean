/-
  What Text of package hex returns, as a list of bytes. Conditions: two tables of Go's library are as they are laid.
-/
import Derived.Test.YtaamonmkfgonmaaDoorHexF
import Derived.Test.YtaamonmkfgonmaaDoorWordC
import Derived.Laws.Concat
import Derived.Lib.ItoaLen
import Derived.ShutString
namespace Go.Proofs.YtaamonmkfgonmaaDoor
open Go.RowKit
set_option linter.unusedVariables false
set_option linter.unusedSimpArgs false

/-- Both tables. -/
def Tabs (w : World) : Prop := TabZ w ∧ Lib.TabIs Tryd.prog w "internal/strconv.uint64pow10" .u64 Lib.pow10Tab
theorem Tabs.below {w w' : World} (h : Tabs w) (hb : Below w.heap.size w w') : Tabs w' := by
  refine ⟨h.1.below hb, ?_⟩
  have h2 := h.2
  unfold Lib.TabIs World.var? at *
  cases hg : Tryd.prog.globalNamed "internal/strconv.uint64pow10" with
  | none => simp [hg] at h2
  | some g =>
    simp only [hg, Option.bind_some] at h2 ⊢
    have hlt : g < w.heap.size := by
      rcases Nat.lt_or_ge g w.heap.size with h' | h'
      · exact h'
      · rw [Array.getElem?_eq_none h'] at h2; simp at h2
    rw [hb.block g hlt]
    exact h2
theorem grow_below (w : World) (k : Nat) (os : Array Obj) : Below w.heap.size w (Go.Sort.grow (w.drewN k) os) :=
  ⟨rfl, rfl, rfl, by simp [Go.Sort.grow], fun j hj => Go.Sort.heap_grow_old (w.drewN k) os hj⟩
/-- How many noughts stand behind a pattern's whole number. -/
def zB (b : Int) : Nat := Lib.ctz 64 (wMant b).toNat
/-- A pattern's text without its sign. -/
def sizeT (b : Int) : List UInt8 :=
  if wKind b = 4 then [105, 110, 102] else if wKind b = 1 then [48] else hxD ((wMant b).toNat / 2 ^ zB b) ++ [112] ++ Lib.itoa (wPow b + (zB b : Int))
/-- A pattern's text. -/
def txt (b : Int) : List UInt8 := if wKind b = 5 then [110, 97, 110] else if 9223372036854775808 ≤ b then [45] ++ sizeT b else sizeT b
theorem mant_bd (b : Int) : 0 ≤ wMant b ∧ wMant b < 9007199254740992 ∧ -1074 ≤ wPow b ∧ wPow b ≤ 971 := by
  unfold wMant wPow wKind
  repeat' split
  all_goals omega
theorem ctz_le (x : Nat) (h2 : x < 9007199254740992) : Lib.ctz 64 x ≤ 64 := by
  by_cases h : x = 0
  · subst h; decide
  · have := (Lib.lowest_bit 64 x h (by omega)).2; omega
theorem itoa_len (n : Int) (h0 : -1000000 ≤ n) (h1 : n ≤ 1000000) : (Lib.itoa n).length ≤ 20 := by
  have key : ∀ u : Nat, u ≤ 1000000 → (Lib.decDigits u).length ≤ 7 := fun u hu => by
    rw [Lib.decDigits_length]
    by_cases h : u < 10
    · rw [Lib.nDigits_small h]; omega
    · rcases Nat.lt_or_ge u 100 with h | h
      · rw [Lib.nDigits_unique 1 u (by omega) (by omega)]; omega
      · rcases Nat.lt_or_ge u 1000 with h | h
        · rw [Lib.nDigits_unique 2 u (by omega) (by omega)]; omega
        · rcases Nat.lt_or_ge u 10000 with h | h
          · rw [Lib.nDigits_unique 3 u (by omega) (by omega)]; omega
          · rcases Nat.lt_or_ge u 100000 with h | h
            · rw [Lib.nDigits_unique 4 u (by omega) (by omega)]; omega
            · rcases Nat.lt_or_ge u 1000000 with h | h
              · rw [Lib.nDigits_unique 5 u (by omega) (by omega)]; omega
              · rw [Lib.nDigits_unique 6 u (by omega) (by omega)]; omega
  unfold Lib.itoa
  split
  · have := key n.natAbs (by omega); simp; omega
  · have := key n.toNat (by omega); omega
set_option maxRecDepth 100000 in
set_option maxHeartbeats 2000000 in
theorem hSize (b : Int) (w : World) (h0 : 0 ≤ b) (h1 : b < 18446744073709551616) (hT : Tabs w) :
    Calls Tryd.prog 24 #[.int .u64 b] w fun e w' => e = .returned (.string ⟨(sizeT b).toArray⟩) ∧ Below w.heap.size w w' := by
  obtain ⟨m0, m1, p0, p1⟩ := mant_bd b
  have HT : Hid (Tabs w) := hT
  unfold sizeT
  by_cases k4 : wKind b = 4
  · rw [if_pos k4]
    clear hT
    go_enter Tryd.func24, Tryd.ntmps24
    go_wp2_with (first | (go_at_call 12; refine (kind_any _ _ h0 h1).mono ?_; rintro e w' ⟨rfl, rfl⟩))
    all_goals go_ret
    all_goals exact ⟨rfl, Below.refl _ _⟩
  · rw [if_neg k4]
    by_cases k1 : wKind b = 1
    · rw [if_pos k1]
      clear hT
      go_enter Tryd.func24, Tryd.ntmps24
      go_wp2_with (first | (go_at_call 12; refine (kind_any _ _ h0 h1).mono ?_; rintro e w' ⟨rfl, rfl⟩))
      all_goals go_ret
      all_goals exact ⟨rfl, Below.refl _ _⟩
    · rw [if_neg k1]
      obtain ⟨M, hM⟩ : ∃ M : Nat, wMant b = (M : Int) := ⟨(wMant b).toNat, by omega⟩
      have HM : Hid (_ = _) := hM
      have EM : Hid ((wMant b).toNat = M) := by show _ = _; omega
      have hMb : M < 9007199254740992 := by omega
      obtain ⟨z, hz⟩ : ∃ z : Nat, Lib.ctz 64 M = z := ⟨_, rfl⟩
      have HZ : Hid (Lib.ctz 64 M = z) := hz
      have hz64 : z ≤ 64 := by rw [← hz]; exact ctz_le M hMb
      unfold zB
      rw [EM.out, HZ.out]
      have HD : Hid ((M : Int) / 2 ^ z = ((M / 2 ^ z : Nat) : Int)) := by show _ = _; rw [Int.natCast_ediv, Int.natCast_pow]; rfl
      have hx64 : M / 2 ^ z < 18446744073709551616 := Nat.lt_of_le_of_lt (Nat.div_le_self _ _) (by omega)
      obtain ⟨S1, hS1⟩ : ∃ s : ByteArray, ⟨(hxD (M / 2 ^ z)).toArray⟩ = s := ⟨_, rfl⟩
      have z1 : S1.size ≤ 16 := by rw [← hS1, size_of_list]; exact hxD_len64 _ hx64
      obtain ⟨S2, hS2⟩ : ∃ s : ByteArray, ⟨(Lib.itoa (wPow b + (z : Int))).toArray⟩ = s := ⟨_, rfl⟩
      have z2 : S2.size ≤ 20 := by rw [← hS2, size_of_list]; exact itoa_len _ (by omega) (by omega)
      have H1 : Hid (_ = S1) := hS1
      have H2 : Hid (_ = S2) := hS2
      have HR : Hid (⟨(hxD (M / 2 ^ z) ++ [112] ++ Lib.itoa (wPow b + (z : Int))).toArray⟩ = S1 ++ ⟨#[112]⟩ ++ S2) := by
        show _ = _
        rw [← hS1, ← hS2, ← ByteArray.mk_append_mk, ← ByteArray.mk_append_mk]
      rw [HR.out]
      clear hS1 hS2
      clear hM hz hT
      go_enter Tryd.func24, Tryd.ntmps24
      go_wp2_with (first | (go_at_call 12; refine (kind_any _ _ h0 h1).mono ?_; rintro e w' ⟨rfl, rfl⟩) | (go_at_call 41; refine (parts_any _ _ h0 h1).mono ?_; rintro e w' ⟨rfl, rfl⟩; rw [HM.out]) | (go_at_call 42; refine (Tryd.bits_TrailingZeros64 M (by omega) _ (fun _ => HT.out.1)).mono ?_; rintro e w' ⟨rfl, rfl⟩; rw [HZ.out]) | (go_at_call 43; rw [HD.out]; refine (fFormat16 _ _ hx64 HT.out.1).mono ?_; rintro e w1 ⟨rfl, hb1⟩; rw [H1.out]; have HT1 : Hid (Tabs w1) := HT.out.below hb1; have HB1 : Hid (Below _ _ w1) := hb1; clear hb1) | (go_at_call 37; refine (Tryd.strconv_Itoa _ (by omega) (by omega) _ HT1.out.2).mono ?_; rintro e w2 ⟨rfl, k_, os, rfl⟩; rw [H2.out]; have HB2 := HB1.out.trans ((grow_below w1 k_ os).mono HB1.out.size)))
      all_goals go_ret
      all_goals exact ⟨rfl, HB2⟩
end Go.Proofs.YtaamonmkfgonmaaDoor
