/-
  What strings.Cut returns at a p; what read and Parse of package hex return at the text of a pattern. Conditions: two tables and two errors of Go's library are as they are laid.
-/
import Derived.Test.YtaamonmkfgonmaaDoorHexR
namespace Go.Proofs.YtaamonmkfgonmaaDoor
open Go.RowKit
set_option linter.unusedVariables false
set_option linter.unusedSimpArgs false

theorem extract_mk (l : List UInt8) (i j : Nat) : (⟨l.toArray⟩ : ByteArray).extract i j = ⟨((l.drop i).take (j - i)).toArray⟩ := by
  ext1
  simp [ByteArray.data_extract, List.extract_eq_take_drop]
theorem index_at (a c : List UInt8) (h : (112 : UInt8) ∉ a) : Lib.indexByte (a ++ [112] ++ c) 112 = (a.length : Int) := by
  induction a with
  | nil => simp [Lib.indexByte]
  | cons x a ih =>
    simp only [List.mem_cons, not_or] at h
    have := ih h.2
    simp only [List.cons_append, Lib.indexByte]
    rw [this, if_neg (by simp; exact fun e => h.1 e.symm), if_neg (by simp)]
    simp
theorem index_same (s : ByteArray) (c : UInt8) (w : World) : Calls Tryd.prog 79 #[.string s, .string ⟨#[c]⟩] w fun e w' => e = .returned (.int .i64 (Lib.indexByte s.data.toList c)) ∧ w = w' := (Tryd.stringslite_Index_one s c w).mono fun e w' ⟨p, q⟩ => ⟨p, q.symm⟩
set_option maxRecDepth 100000 in
set_option maxHeartbeats 2000000 in
theorem hCut0 (a c : List UInt8) (w : World) (h : (112 : UInt8) ∉ a) (ha : a.length ≤ 1000) (hc : c.length ≤ 1000) :
    Calls Tryd.prog 63 #[.string ⟨(a ++ [112] ++ c).toArray⟩, .string ⟨#[112]⟩] w fun e w' => e = .returned (.tuple #[.string ⟨a.toArray⟩, .string ⟨c.toArray⟩, .bool true]) ∧ Below w.heap.size w w' := by
  obtain ⟨s, hs⟩ : ∃ s : ByteArray, ⟨(a ++ [112] ++ c).toArray⟩ = s := ⟨_, rfl⟩
  obtain ⟨n, hn⟩ : ∃ n : Nat, a.length = n := ⟨_, rfl⟩
  have sz : s.size = n + 1 + c.length := by rw [← hs, size_of_list]; simp; omega
  have IX : Hid (Lib.indexByte s.data.toList 112 = (n : Int)) := by show _ = _; rw [← hs, ← hn]; exact index_at a c h
  have X1 : Hid (s.extract 0 n = ⟨a.toArray⟩) := by
    show _ = _
    rw [← hs, extract_mk, ← hn]
    simp
  have X2 : Hid (s.extract (n + 1) s.size = ⟨c.toArray⟩) := by
    show _ = _
    rw [sz, ← hs, extract_mk, ← hn, List.drop_left' (by simp), List.take_of_length_le (by omega)]
  rw [hs]
  clear hs
  have n0 : (n : Int) + 1 ≤ (s.size : Int) := by omega
  have n1 : (n : Int) ≤ (s.size : Int) := by omega
  have n2 : (s.size : Int) ≤ 5000 := by omega
  clear sz hn
  go_enter Tryd.func63, Tryd.ntmps63
  go_wp2_with (first | (go_at_call 79; refine (index_same s 112 _).mono ?_; rintro e w' ⟨rfl, rfl⟩; rw [IX.out]))
  go_region
  go_wp2
  go_ret3
  exact ⟨by rw [← X1.out, ← X2.out]; rfl, (Below.refl _ _).drew⟩
theorem hCut (a c : List UInt8) (w : World) (h : (112 : UInt8) ∉ a) (ha : a.length ≤ 1000) (hc : c.length ≤ 1000) :
    Calls Tryd.prog 47 #[.string ⟨(a ++ [112] ++ c).toArray⟩, .string ⟨#[112]⟩] w fun e w' => e = .returned (.tuple #[.string ⟨a.toArray⟩, .string ⟨c.toArray⟩, .bool true]) ∧ Below w.heap.size w w' := by
  have H := Lib.hid (hCut0 a c w h ha hc)
  generalize (⟨(a ++ [112] ++ c).toArray⟩ : ByteArray) = s at *
  go_enter Tryd.func47, Tryd.ntmps47
  go_wp2_with (first | (go_at_call 63; refine H.out.mono ?_; rintro e w1 ⟨rfl, hb1⟩))
  go_ret3
  exact ⟨rfl, hb1⟩
end Go.Proofs.YtaamonmkfgonmaaDoor
