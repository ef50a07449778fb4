/-
  Texts put together: SolF.
-/
import Derived.Test.YtpakpgjbgehhjaaProg
import Derived.Test.YtpakpgjbgehhjaaGrW
/-
  What solve's Pivot returns of what doesn't fit: ErrShape. No conditions but that sizes fit a machine.
-/
namespace Go.Proofs.Ytpakpgjbgehhjaa
open Go.RowKit
set_option linter.unusedVariables false
set_option linter.unusedSimpArgs false

set_option maxHeartbeats 2000000 in
theorem sPivotBad (p : Value) (C S : Nat) (a : Option Addr) (len cap : Nat) (least : Int) (ax : Option Addr) (n cx : Nat) (w : World) (h : Rgt (C : Int) (C : Int) (S : Int) len) (hl : (len : Int) ≤ 9223372036854775807) (hn : (C : Int) ≠ (n : Int)) :
    Calls Try.prog 43 #[p, .agg #[.int .i64 (C : Int), .int .i64 (C : Int), .int .i64 (S : Int), .slice a len cap], .slice ax n cx, .int .u64 least] w fun e w' => e = .returned (.tuple #[.slice none 0 0, .bool false, .int .i64 4]) ∧ Below w.heap.size w w' := by
  have HH : Hid (Rgt (C : Int) (C : Int) (S : Int) len) := h
  have HN : Hid ((C : Int) ≠ (n : Int)) := hn
  clear h hn
  go_enter Try.func43, Try.ntmps43
  go_wp2_with fail
  have b0 : Below w.heap.size w (w.alloc (.cells #[.int .i64 (C : Int), .int .i64 (C : Int), .int .i64 (S : Int), .slice a len cap] 26)) := (Below.refl _ _).alloc (Nat.le_refl _) _
  generalize (w.alloc (.cells #[.int .i64 (C : Int), .int .i64 (C : Int), .int .i64 (S : Int), .slice a len cap] 26)) = W0 at b0 ⊢
  refine (sFitsNo C S a len cap ax n cx W0 HH.out hl HN.out).mono ?_
  rintro e w1 ⟨rfl, hb1⟩
  have B1 : Hid (Below w.heap.size w w1) := bstep b0 hb1
  clear hb1 b0
  go_wp2
  refine bodyPost_ret (v := .tuple #[.slice none 0 0, .bool false, .int .i64 4]) (by simp [results, Try.results43, go_sem]) rfl ⟨rfl, B1.out⟩
end Go.Proofs.Ytpakpgjbgehhjaa
