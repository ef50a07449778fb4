/-
  A slice of uint64 that came in: what its cells hold; the greatest of some without their signs.
-/
import Derived.Test.YtokgfeeaoioegaaOrderC
namespace Go.Proofs.Ytokgfeeaoioegaa
open Go.RowKit
set_option linter.unusedVariables false

/-- The slice holds, at each place below len, the number Z i. -/
def URow (w : World) (a : Option Addr) (len cap : Nat) (Z : Nat → Int) : Prop :=
  len ≤ cap ∧ cap ≤ maxLen ∧ (∀ i, 0 ≤ Z i ∧ Z i < 18446744073709551616) ∧ (0 < len → ∃ b o, a = some ⟨b, o, none⟩ ∧ b < w.heap.size ∧ ∀ i, i < len → w.cell? ⟨b, o + i, none⟩ = some (.int .u64 (Z i)))
theorem URow.below {w w' : World} {a : Option Addr} {len cap : Nat} {Z : Nat → Int} (h : URow w a len cap Z) (hb : Below w.heap.size w w') : URow w' a len cap Z := by
  obtain ⟨h1, h2, h3, h4⟩ := h
  refine ⟨h1, h2, h3, fun hp => ?_⟩
  obtain ⟨b, o, e, hlt, hc⟩ := h4 hp
  have := hb.size
  exact ⟨b, o, e, by omega, fun i hi => (hb.cell (p := ⟨b, o + i, none⟩) hlt).trans (hc i hi)⟩
/-- The greatest of the first k without their signs is B, at place t (the first such one). -/
def GS (k : Nat) (Z : Nat → Int) (B t : Int) : Prop :=
  (∀ i, i < k → isNan (Z i) = false) ∧ ((k = 0 ∧ B = 0 ∧ t = -1) ∨ ∃ j : Nat, t = (j : Int) ∧ j < k ∧ B = Z j % 9223372036854775808 ∧ ∀ i, i < k → Z i % 9223372036854775808 ≤ B ∧ (i < j → Z i % 9223372036854775808 < B))
theorem GS.zero (Z : Nat → Int) : GS 0 Z 0 (-1) := ⟨fun i h => absurd h (Nat.not_lt_zero i), Or.inl ⟨rfl, rfl, rfl⟩⟩
theorem GS.bd {k : Nat} {Z : Nat → Int} {B t : Int} (h : GS k Z B t) : 0 ≤ B ∧ B < 9223372036854775808 ∧ -1 ≤ t ∧ t < k := by
  obtain ⟨_, ⟨h1, h2, h3⟩ | ⟨j, h1, h2, h3, h4⟩⟩ := h
  · omega
  · omega
theorem GS.take {k : Nat} {Z : Nat → Int} {B t : Int} (h : GS k Z B t) (hn : isNan (Z k) = false) (hg : t < 0 ∨ B < Z k % 9223372036854775808) : GS (k + 1) Z (Z k % 9223372036854775808) (k : Int) := by
  obtain ⟨h0, h⟩ := h
  refine ⟨fun i hi => ?_, Or.inr ⟨k, rfl, by omega, rfl, fun i hi => ?_⟩⟩
  · rcases Nat.lt_or_ge i k with g | g
    · exact h0 i g
    · rw [show i = k by omega]; exact hn
  · rcases Nat.lt_or_ge i k with g | g
    · rcases h with ⟨h1, h2, h3⟩ | ⟨j, h1, h2, h3, h4⟩
      · omega
      · have := (h4 i g).1
        constructor
        · omega
        · intro _; omega
    · rw [show i = k by omega]
      exact ⟨Int.le_refl _, fun h => absurd h (Nat.lt_irrefl _)⟩
theorem GS.stay {k : Nat} {Z : Nat → Int} {B t : Int} (h : GS k Z B t) (hn : isNan (Z k) = false) (hg : ¬ t < 0) (hg2 : ¬ B < Z k % 9223372036854775808) : GS (k + 1) Z B t := by
  obtain ⟨h0, h⟩ := h
  rcases h with ⟨h1, h2, h3⟩ | ⟨j, h1, h2, h3, h4⟩
  · omega
  · refine ⟨fun i hi => ?_, Or.inr ⟨j, h1, by omega, h3, fun i hi => ?_⟩⟩
    · rcases Nat.lt_or_ge i k with g | g
      · exact h0 i g
      · rw [show i = k by omega]; exact hn
    · rcases Nat.lt_or_ge i k with g | g
      · exact h4 i g
      · rw [show i = k by omega]
        exact ⟨by omega, fun h => by omega⟩
theorem cmpW_pos (x y : Int) : (y < x → 0 < cmpW x y) ∧ (¬ y < x → ¬ 0 < cmpW x y) := by
  unfold cmpW
  constructor
  · intro h; rw [if_neg (by omega)]; split <;> omega
  · intro h; repeat' split
    all_goals omega
/-- What Greatest answers: Quiet and the first Nan's place; or the greatest, and its place. -/
def Great (len : Nat) (Z : Nat → Int) (B t : Int) : Prop := (∃ k : Nat, k < len ∧ isNan (Z k) = true ∧ (∀ i, i < k → isNan (Z i) = false) ∧ B = 9221120237041090560 ∧ t = (k : Int)) ∨ GS len Z B t
set_option maxHeartbeats 2000000 in
theorem oGreat (a : Option Addr) (len cap : Nat) (Z : Nat → Int) (w : World) (h : URow w a len cap Z) (hl : len ≤ 60) :
    Calls Try.prog 52 #[.slice a len cap] w fun e w' => ∃ B t : Int, e = .returned (.tuple #[.int .u64 B, .int .i64 t]) ∧ Great len Z B t ∧ w' = w := by
  obtain ⟨h1, h2, hz, h4⟩ := h
  have HZ : Hid (∀ i, 0 ≤ Z i ∧ Z i < 18446744073709551616) := hz
  clear hz
  by_cases hp : 0 < len
  · obtain ⟨b, o, rfl, hb, hcell⟩ := h4 hp
    have HC : Hid (∀ i, i < len → w.cell? ⟨b, o + i, none⟩ = some (.int .u64 (Z i))) := hcell
    clear h4 hcell
    go_enter Try.func52, Try.ntmps52
    go_wp2
    go_loopw [4, 5, 11] (fun m t i wr => ∃ (k : Nat) (B T : Int), m = .int .u64 B ∧ t = .int .i64 T ∧ i = .int .i64 (k : Int) ∧ k ≤ len ∧ GS k Z B T ∧ wr = w) (fun _ _ i _ => len - (intOf i).toNat)
    case atStart => exact ⟨0, 0, -1, rfl, rfl, rfl, by omega, GS.zero Z, rfl⟩
    case round =>
      obtain ⟨k, B, T, rfl, rfl, rfl, hk, hgs, rfl⟩ := hrel
      obtain ⟨B0, B1, T0, T1⟩ := hgs.bd
      have HG : Hid (GS k Z B T) := hgs
      clear hgs
      by_cases hlt : (k : Int) < (len : Int)
      · have c1 := HC.out k (by omega)
        obtain ⟨z0, z1⟩ := HZ.out k
        obtain ⟨x, hx⟩ : ∃ x, Z k = x := ⟨_, rfl⟩
        have TK : Hid (isNan x = false → T < 0 ∨ B < x % 9223372036854775808 → GS (k + 1) Z (x % 9223372036854775808) (k : Int)) := by
          show _ → _ → _
          rw [← hx]
          exact fun q1 q2 => HG.out.take q1 q2
        have ST : Hid (isNan x = false → ¬ T < 0 → ¬ B < x % 9223372036854775808 → GS (k + 1) Z B T) := by
          show _ → _ → _ → _
          rw [← hx]
          exact fun q1 q2 q3 => HG.out.stay q1 q2 q3
        have NK : Hid (isNan x = true → Great len Z 9221120237041090560 (k : Int)) := by
          show _ → _
          rw [← hx]
          exact fun q => Or.inl ⟨k, by omega, q, HG.out.1, rfl, rfl⟩
        rw [hx] at c1 z0 z1
        clear hx
        obtain ⟨nn, hnn⟩ : ∃ n, isNan x = n := ⟨_, rfl⟩
        rw [hnn] at TK ST NK
        have NN : Hid (_ = _) := hnn
        clear hnn
        obtain ⟨y, hy⟩ : ∃ y, x % 9223372036854775808 = y := ⟨_, rfl⟩
        rw [hy] at TK ST
        have HY : Hid (_ = _) := hy
        have y0 : 0 ≤ y := by omega
        clear hy
        cases nn
        · have cp := cmpW_pos y B
          obtain ⟨C, hC⟩ : ∃ C, cmpW y B = C := ⟨_, rfl⟩
          rw [hC] at cp
          have HCC : Hid (_ = _) := hC
          clear hC
          by_cases ht : T < 0
          · have G2 : Hid (GS _ _ _ _) := TK.out (by first | rfl | trivial) (Or.inl ht)
            clear TK ST NK HG cp
            go_wp2_with (first | (go_at_call 84; refine (oNan _ _ z0 z1).mono ?_; rintro e w' ⟨rfl, rfl⟩; rw [NN.out]) | (go_at_call 48; refine (abs_any _ _ z0 z1).mono ?_; rintro e w' ⟨rfl, rfl⟩; rw [HY.out]))
            go_roundw
            case rel => exact ⟨k + 1, y, (k : Int), rfl, rfl, by go_num, by omega, G2.out, by first | rfl | trivial⟩
            case measure => simp [intOf]; omega
          · by_cases hlt2 : B < y
            · have G2 : Hid (GS _ _ _ _) := TK.out (by first | rfl | trivial) (Or.inr hlt2)
              have hc := cp.1 hlt2
              clear TK ST NK HG cp
              go_wp2_with (first | (go_at_call 84; refine (oNan _ _ z0 z1).mono ?_; rintro e w' ⟨rfl, rfl⟩; rw [NN.out]) | (go_at_call 48; refine (abs_any _ _ z0 z1).mono ?_; rintro e w' ⟨rfl, rfl⟩; rw [HY.out]) | (go_at_call 85; refine (oCmpU _ _ _).mono ?_; rintro e w' ⟨rfl, rfl⟩; rw [HCC.out]))
              go_roundw
              case rel => exact ⟨k + 1, y, (k : Int), rfl, rfl, by go_num, by omega, G2.out, by first | rfl | trivial⟩
              case measure => simp [intOf]; omega
            · have G2 : Hid (GS _ _ _ _) := ST.out (by first | rfl | trivial) (by omega) (by omega)
              have hc := cp.2 hlt2
              clear TK ST NK HG cp
              go_wp2_with (first | (go_at_call 84; refine (oNan _ _ z0 z1).mono ?_; rintro e w' ⟨rfl, rfl⟩; rw [NN.out]) | (go_at_call 48; refine (abs_any _ _ z0 z1).mono ?_; rintro e w' ⟨rfl, rfl⟩; rw [HY.out]) | (go_at_call 85; refine (oCmpU _ _ _).mono ?_; rintro e w' ⟨rfl, rfl⟩; rw [HCC.out]))
              go_roundw
              case rel => exact ⟨k + 1, B, T, rfl, rfl, by go_num, by omega, G2.out, by first | rfl | trivial⟩
              case measure => simp [intOf]; omega
        · have R : Hid (Great len Z 9221120237041090560 (k : Int)) := NK.out (by first | rfl | trivial)
          clear TK ST NK HG
          go_wp2_with (first | (go_at_call 84; refine (oNan _ _ z0 z1).mono ?_; rintro e w' ⟨rfl, rfl⟩; rw [NN.out]))
          go_ret2
          exact ⟨_, _, rfl, R.out, rfl⟩
      · have e : k = len := by omega
        subst e
        go_wp2
        go_ret2
        exact ⟨_, _, rfl, Or.inr HG.out, rfl⟩
  · have e : len = 0 := by omega
    subst e
    clear h4
    go_enter Try.func52, Try.ntmps52
    go_wp2
    refine wp_loop_rounds 1 ?_
    rw [rounds_succ]
    go_wp2
    go_ret2
    exact ⟨_, _, rfl, Or.inr (GS.zero Z), rfl⟩
end Go.Proofs.Ytokgfeeaoioegaa
