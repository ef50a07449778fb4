/-
  What Parse of package hex returns, by what read returns. Conditions: two tables of Go's library are as they are laid.
-/
import Derived.Test.YtaamonmkfgonmaaDoorHexP
namespace Go.Proofs.YtaamonmkfgonmaaDoor
open Go.RowKit
set_option linter.unusedVariables false
set_option linter.unusedSimpArgs false

set_option maxRecDepth 100000 in
set_option maxHeartbeats 2000000 in
/-- Parse, where read has answered a pattern: it, if the text is its own; else none. -/
theorem hParseOk (S : ByteArray) (v : Int) (w : World) (v0 : 0 ≤ v) (v1 : v < 18446744073709551616) (hT : Tabs w)
    (hR : Calls Tryd.prog 25 #[.string S] w fun e w' => e = .returned (.tuple #[.int .u64 v, .bool true]) ∧ Below w.heap.size w w') :
    Calls Tryd.prog 11 #[.string S] w fun e w' => e = .returned (if txt v = S.toList then .tuple #[.int .u64 v, .int .i64 0] else .tuple #[.int .u64 0, .int .i64 2]) ∧ Below w.heap.size w w' := by
  have HT := Lib.hid hT
  have HR := Lib.hid hR
  obtain ⟨T, eT, zT, lT, dT⟩ := str_ob (txt v)
  have ET := Lib.hid eT
  by_cases h : txt v = S.toList
  · rw [if_pos h]
    have N : (T.toList == S.toList) = true := by rw [lT, h, beq_self_eq_true]
    clear hT hR eT zT lT dT h
    go_enter Tryd.func11, Tryd.ntmps11
    go_wp2_with (first | (go_at_call 25; refine HR.out.mono ?_; rintro e w1 ⟨rfl, hb1⟩; have HT1 := Lib.hid (HT.out.below hb1)) | (go_at_call 10; refine (hText _ _ v0 v1 HT1.out).mono ?_; rintro e w2 ⟨rfl, hb2⟩; rw [ET.out]))
    go_ret2
    exact ⟨rfl, hb1.trans (hb2.mono hb1.size)⟩
  · rw [if_neg h]
    have N : (T.toList == S.toList) = false := by rw [lT, beq_eq_false_iff_ne]; exact h
    clear hT hR eT zT lT dT h
    go_enter Tryd.func11, Tryd.ntmps11
    go_wp2_with (first | (go_at_call 25; refine HR.out.mono ?_; rintro e w1 ⟨rfl, hb1⟩; have HT1 := Lib.hid (HT.out.below hb1)) | (go_at_call 10; refine (hText _ _ v0 v1 HT1.out).mono ?_; rintro e w2 ⟨rfl, hb2⟩; rw [ET.out]))
    go_ret2
    exact ⟨rfl, hb1.trans (hb2.mono hb1.size)⟩
set_option maxRecDepth 100000 in
set_option maxHeartbeats 2000000 in
theorem hParseNo (S : ByteArray) (v : Int) (w : World)
    (hR : Calls Tryd.prog 25 #[.string S] w fun e w' => e = .returned (.tuple #[.int .u64 v, .bool false]) ∧ Below w.heap.size w w') :
    Calls Tryd.prog 11 #[.string S] w fun e w' => e = .returned (.tuple #[.int .u64 0, .int .i64 2]) ∧ Below w.heap.size w w' := by
  have HR := Lib.hid hR
  clear hR
  go_enter Tryd.func11, Tryd.ntmps11
  go_wp2_with (first | (go_at_call 25; refine HR.out.mono ?_; rintro e w1 ⟨rfl, hb1⟩))
  go_ret2
  exact ⟨rfl, hb1⟩
set_option maxRecDepth 100000 in
theorem hReadNan (w : World) : Calls Tryd.prog 25 #[.string ⟨([110, 97, 110] : List UInt8).toArray⟩] w fun e w' => e = .returned (.tuple #[.int .u64 9221120237041090560, .bool true]) ∧ Below w.heap.size w w' := by
  go_enter Tryd.func25, Tryd.ntmps25
  go_wp2
  go_ret2
  exact ⟨rfl, Below.refl _ _⟩
theorem txt_quiet : txt 9221120237041090560 = [110, 97, 110] := by unfold txt; rw [if_pos (by decide)]
/-- Parse at the text of a pattern: the pattern; of a Nan the quiet one. -/
theorem hParseTxt (b : Int) (w : World) (h0 : 0 ≤ b) (h1 : b < 18446744073709551616) (hT : Tabs w) :
    Calls Tryd.prog 11 #[.string ⟨(txt b).toArray⟩] w fun e w' => e = .returned (.tuple #[.int .u64 (if wKind b = 5 then 9221120237041090560 else b), .int .i64 0]) ∧ Below w.heap.size w w' := by
  by_cases k : wKind b = 5
  · rw [if_pos k]
    have e : txt b = [110, 97, 110] := by unfold txt; rw [if_pos k]
    rw [e]
    have := hParseOk _ 9221120237041090560 w (by decide) (by decide) hT (hReadNan w)
    rw [if_pos (by rw [txt_quiet, toL])] at this
    exact this
  · rw [if_neg k]
    have := hParseOk _ b w h0 h1 hT (hRead b w h0 h1 k)
    rw [if_pos (by rw [toL])] at this
    exact this
end Go.Proofs.YtaamonmkfgonmaaDoor
