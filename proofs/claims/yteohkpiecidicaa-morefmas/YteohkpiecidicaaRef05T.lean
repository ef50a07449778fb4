/-
  What the reference's Nans returns of three patterns.
-/
import Derived.Test.YteohkpiecidicaaRef05N
namespace Go.Proofs.Yteohkpiecidicaa
open Go.RowKit
set_option linter.unusedVariables false

set_option maxHeartbeats 2000000 in
theorem q5Nan3 (a b c : Int) (k : Nat) (w : World) (h0 : 0 ≤ a) (h1 : a < 18446744073709551616) (g0 : 0 ≤ b) (g1 : b < 18446744073709551616) (k0 : 0 ≤ c) (k1 : c < 18446744073709551616)
    (c0 : w.cell? ⟨k, 0, none⟩ = some (.int .u64 a)) (c1 : w.cell? ⟨k, 1, none⟩ = some (.int .u64 b)) (c2 : w.cell? ⟨k, 2, none⟩ = some (.int .u64 c)) :
    Calls Try.prog 57 #[.slice (some ⟨k, 0, none⟩) 3 3] w fun e w' => e = .returned (.tuple #[.int .i64 (nanF3 a b c), .bool (isNan a || isNan b || isNan c)]) ∧ w' = w := by
  unfold nanF3
  obtain ⟨fa, hfa⟩ : ∃ f, a % 4503599627370496 = f := ⟨_, rfl⟩
  obtain ⟨fb, hfb⟩ : ∃ f, b % 4503599627370496 = f := ⟨_, rfl⟩
  obtain ⟨fc, hfc⟩ : ∃ f, c % 4503599627370496 = f := ⟨_, rfl⟩
  have FA : Hid (a % 4503599627370496 = fa) := hfa
  have FB : Hid (b % 4503599627370496 = fb) := hfb
  have FC : Hid (c % 4503599627370496 = fc) := hfc
  have ta := three a
  have tb := three b
  have tc := three c
  rw [hfa] at ta
  rw [hfb] at tb
  rw [hfc] at tc
  clear hfa hfb hfc
  rcases ta with ⟨n, s⟩ | ⟨n, s, fx⟩ | ⟨n, s, fx⟩
  all_goals
    rw [n, s]
    have NA : Hid (_ = _) := n
    clear n s
    rcases tb with ⟨n, s⟩ | ⟨n, s, fy⟩ | ⟨n, s, fy⟩
    all_goals
      rw [n, s]
      have NB : Hid (_ = _) := n
      clear n s
      rcases tc with ⟨n, s⟩ | ⟨n, s, fz⟩ | ⟨n, s, fz⟩
      all_goals
        rw [n, s]
        have NC : Hid (_ = _) := n
        clear n s
        go_enter Try.func57, Try.ntmps57
        go_wp2_with fail
        refine wp_loop_rounds 4 ?_
        rw [rounds_succ]
        go_wp2_with (first | (go_at_call 43; refine (q4Nan _ _ h0 h1).mono ?_; rintro e w' ⟨rfl, rfl⟩; rw [NA.out]) | (go_at_call 59; refine (q4Parts _ _ h0 h1).mono ?_; rintro e w' ⟨rfl, rfl⟩; rw [FA.out]))
        rw [rounds_succ]
        go_wp2_with (first | (go_at_call 43; refine (q4Nan _ _ g0 g1).mono ?_; rintro e w' ⟨rfl, rfl⟩; rw [NB.out]) | (go_at_call 59; refine (q4Parts _ _ g0 g1).mono ?_; rintro e w' ⟨rfl, rfl⟩; rw [FB.out]))
        rw [rounds_succ]
        go_wp2_with (first | (go_at_call 43; refine (q4Nan _ _ k0 k1).mono ?_; rintro e w' ⟨rfl, rfl⟩; rw [NC.out]) | (go_at_call 59; refine (q4Parts _ _ k0 k1).mono ?_; rintro e w' ⟨rfl, rfl⟩; rw [FC.out]))
        rw [rounds_succ]
        go_wp2
        all_goals go_ret2
        all_goals refine ⟨ret_eq (tup2 (int_eq ?_) rfl), rfl⟩
        all_goals simp
end Go.Proofs.Yteohkpiecidicaa
