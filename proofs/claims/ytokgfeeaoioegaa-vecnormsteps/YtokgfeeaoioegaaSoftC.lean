/-
  What the helpers of package soft return: what is no number, zeros, infinities, the sum of two numbers.
-/
import Derived.Test.YtokgfeeaoioegaaSoftM
import Derived.Test.YtokgfeeaoioegaaBst
import Derived.Test.YtokgfeeaoioegaaRoundC
import Derived.Deep.RegionHeld3
import Derived.LoopN
namespace Go.Proofs.Ytokgfeeaoioegaa
open Go.RowKit
set_option linter.unusedVariables false

theorem isNan_kind (b : Int) : isNan b = decide (wKind b = 5) := by
  unfold isNan
  rw [decide_eq_decide, wKind_nan]
  unfold mag
  omega
set_option maxHeartbeats 1000000 in
theorem pNo (a b : Int) (k : Nat) (w : World) (h0 : 0 ≤ a) (h1 : a < 18446744073709551616) (g0 : 0 ≤ b) (g1 : b < 18446744073709551616)
    (c0 : w.cell? ⟨k, 0, none⟩ = some (.int .u64 a)) (c1 : w.cell? ⟨k, 1, none⟩ = some (.int .u64 b)) :
    Calls Try.prog 109 #[.slice (some ⟨k, 0, none⟩) 2 2] w fun e w' => e = .returned (.tuple #[.bool (isNan a || isNan b), .int .u8 (nanF a b)]) ∧ w' = w := by
  rw [isNan_kind, isNan_kind]
  unfold nanF
  obtain ⟨sa, hsa⟩ : ∃ s, sigs a = s := ⟨_, rfl⟩
  obtain ⟨sb, hsb⟩ : ∃ s, sigs b = s := ⟨_, rfl⟩
  rw [hsa, hsb]
  unfold sigs at hsa hsb
  have SA : Hid (_ = _) := hsa
  have SB : Hid (_ = _) := hsb
  clear hsa hsb
  obtain ⟨ka, hka⟩ : ∃ s, wKind a = s := ⟨_, rfl⟩
  obtain ⟨kb, hkb⟩ : ∃ s, wKind b = s := ⟨_, rfl⟩
  have KA : Hid (_ = _) := hka
  have KB : Hid (_ = _) := hkb
  rw [hka, hkb]
  clear hka hkb
  by_cases ea : ka = 5
  all_goals
    by_cases eb : kb = 5
    all_goals
      cases sa
      all_goals
        cases sb
        all_goals
          (try subst ea)
          (try subst eb)
          go_enter Try.func109, Try.ntmps109
          go_wp2_with fail
          refine wp_loop_rounds 3 ?_
          rw [rounds_succ]
          go_wp2_with (first | (go_at_call 87; refine (kind_any _ _ h0 h1).mono ?_; rintro e w' ⟨rfl, rfl⟩; rw [KA.out]) | (go_at_call 128; refine (signals_any _ _ h0 h1).mono ?_; rintro e w' ⟨rfl, rfl⟩; rw [SA.out]))
          rw [rounds_succ]
          go_wp2_with (first | (go_at_call 87; refine (kind_any _ _ g0 g1).mono ?_; rintro e w' ⟨rfl, rfl⟩; rw [KB.out]) | (go_at_call 128; refine (signals_any _ _ g0 g1).mono ?_; rintro e w' ⟨rfl, rfl⟩; rw [SB.out]))
          rw [rounds_succ]
          go_wp2
          go_ret2
          refine ⟨ret_eq (tup2 (bool_eq ?_) (int_eq ?_)), rfl⟩
          · simp [*]
          · rfl
theorem pIsZ (b : Int) (w : World) (h0 : 0 ≤ b) (h1 : b < 18446744073709551616) :
    Calls Try.prog 110 #[.int .u64 b] w fun e w' => e = .returned (.bool (isZ b)) ∧ w' = w := by
  go_enter Try.func110, Try.ntmps110
  go_wp2_with (go_at_call 48; refine (abs_any _ _ h0 h1).mono ?_; rintro e w' ⟨rfl, rfl⟩)
  go_ret
  refine ⟨ret_eq (bool_eq ?_), rfl⟩
  unfold isZ mag
  rw [Bool.eq_iff_iff, beq_iff_eq, decide_eq_true_eq]
  omega
theorem pInf (n : Bool) (w : World) :
    Calls Try.prog 112 #[.bool n] w fun e w' => e = .returned (.int .u64 (sgnB n + 9218868437227405312)) ∧ w' = w := by
  cases n
  all_goals
    go_enter Try.func112, Try.ntmps112
    go_wp2
    go_ret
    exact ⟨ret_eq rfl, rfl⟩
end Go.Proofs.Ytokgfeeaoioegaa
