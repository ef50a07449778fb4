/-
  Texts put together: SolJ SolK.
-/
import Derived.Test.YtpakpgjbgehhjaaProg
import Derived.Test.YtpakpgjbgehhjaaGrAE
import Derived.Test.YtpakpgjbgehhjaaGrH
import Derived.Test.YtpakpgjbgehhjaaGrU
import Derived.Test.YtpakpgjbgehhjaaGrL
/-
  Slices of int that came in; a whole number as a pattern, as the law SolveBack makes it. Conditions: small numbers.
-/
namespace Go.Proofs.Ytpakpgjbgehhjaa
open Go.RowKit
set_option linter.unusedVariables false
set_option linter.unusedSimpArgs false

/-- The slice of ints holds, at each place below len, the number Z i. -/
def IRow (w : World) (a : Option Addr) (len cap : Nat) (Z : Nat → Int) : Prop :=
  len ≤ cap ∧ cap ≤ maxLen ∧ (∀ i, -9223372036854775808 ≤ Z i ∧ Z i < 9223372036854775808) ∧ (0 < len → ∃ b o, a = some ⟨b, o, none⟩ ∧ b < w.heap.size ∧ ∀ i, i < len → w.cell? ⟨b, o + i, none⟩ = some (.int .i64 (Z i)))
theorem IRow.below {w w' : World} {a : Option Addr} {len cap : Nat} {Z : Nat → Int} (h : IRow w a len cap Z) (hb : Below w.heap.size w w') : IRow w' a len cap Z := by
  obtain ⟨h1, h2, h3, h4⟩ := h
  refine ⟨h1, h2, h3, fun hp => ?_⟩
  obtain ⟨b, o, e, hlt, hc⟩ := h4 hp
  have := hb.size
  exact ⟨b, o, e, by omega, fun i hi => (hb.cell (p := ⟨b, o + i, none⟩) hlt).trans (hc i hi)⟩
theorem IRow.bes {w w' : World} {c : Option Nat} {a : Option Addr} {len cap : Nat} {Z : Nat → Int} (h : IRow w a len cap Z) (hb : Bes c w w') (hc : Apt c a len) : IRow w' a len cap Z := by
  obtain ⟨h1, h2, h3, h4⟩ := h
  refine ⟨h1, h2, h3, fun hp => ?_⟩
  obtain ⟨b, o, e, hlt, hcell⟩ := h4 hp
  have hne := hc hp b o none e
  have := hb.size
  exact ⟨b, o, e, by omega, fun i hi => (hb.cell (p := ⟨b, o + i, none⟩) hlt hne).trans (hcell i hi)⟩
theorem IRow.apt {w : World} {a : Option Addr} {len cap : Nat} {Z : Nat → Int} (h : IRow w a len cap Z) {c : Option Nat} (hc : ∀ k, c = some k → w.heap.size ≤ k) : Apt c a len := by
  obtain ⟨_, _, _, h4⟩ := h
  intro hp b o s e ec
  obtain ⟨b', o', e', hlt, _⟩ := h4 hp
  rw [e] at e'
  injection e' with e'
  injection e' with e1 e2 e3
  have := hc b ec
  omega
theorem IRow.lenB {w : World} {a : Option Addr} {len cap : Nat} {Z : Nat → Int} (h : IRow w a len cap Z) : (len : Int) ≤ 9223372036854775807 ∧ (cap : Int) ≤ 9223372036854775807 := by
  obtain ⟨h1, h2, _⟩ := h
  unfold maxLen at h2
  omega
/-- The pattern of a whole number. -/
def whP (k : Int) : Int := (rndS (k * ((2 ^ uu : Nat) : Int))).1
theorem whP_rng (k : Int) : 0 ≤ whP k ∧ whP k < 18446744073709551616 := by
  have := rndS_bd (k * ((2 ^ uu : Nat) : Int))
  unfold whP
  omega
theorem whP_is (k : Int) (hk : k.natAbs < 9007199254740992) : IsC (whP k) k := (rndC k hk).1
theorem rk_whole (k : Int) : (rk 0 k).1 = whP k := by
  unfold whP
  rw [rnd_whole]
  rfl
theorem nearI (k : Int) (w : World) (h0 : -2000 ≤ k) (h1 : k ≤ 2000) (v : Value) (B : Nat) (h : Tell w B v 0 2 k) :
    Calls Try.prog 36 #[v] w fun e w' => ∃ f, e = .returned (.tuple #[.int .u64 (whP k), .int .u8 f]) ∧ Below w.heap.size w w' := by
  refine (dNearN v w B 0 2 k h (by decide) (by decide)).mono ?_
  rintro e w' ⟨rfl, hb⟩
  rw [rk_whole]
  exact ⟨_, rfl, hb⟩
theorem lWhole12 (k : Int) (w : World) (h0 : -2000 ≤ k) (h1 : k ≤ 2000) :
    Calls Try.prog 46 #[.int .i64 k] w fun e w' => e = .returned (.int .u64 (whP k)) ∧ Below w.heap.size w w' := by
  go_enter Try.func46, Try.ntmps46
  go_wp2_with fail
  refine (dInt k w (by omega) (by omega)).mono ?_
  rintro e w1 ⟨v, rfl, ht, hb1⟩
  go_wp2_with fail
  refine (nearI k w1 h0 h1 v _ ht).mono ?_
  rintro e w2 ⟨f, rfl, hb2⟩
  have B2 := bstep hb1 hb2
  clear hb1 hb2 ht
  go_wp2
  go_ret
  exact ⟨ret_eq rfl, B2⟩
theorem and_1023 (n : Int) : bits .and .i64 n 1023 = n % 1024 := by
  have h127 : (BitVec.ofInt 64 1023).toNat = 2 ^ 10 - 1 := by decide
  have key : (BitVec.ofInt 64 n &&& BitVec.ofInt 64 1023).toNat = (n % ((2 ^ 64 : Nat) : Int)).toNat % 2 ^ 10 := by
    rw [BitVec.toNat_and, BitVec.toNat_ofInt, h127, Nat.and_two_pow_sub_one_eq_mod]
  show IntKind.i64.wrap ((BitVec.ofInt 64 n &&& BitVec.ofInt 64 1023).toNat : Nat) = n % 1024
  rw [key, IntKind.wrap_i64]
  omega
theorem and_63 (n : Int) : bits .and .i64 n 63 = n % 64 := by
  have h127 : (BitVec.ofInt 64 63).toNat = 2 ^ 6 - 1 := by decide
  have key : (BitVec.ofInt 64 n &&& BitVec.ofInt 64 63).toNat = (n % ((2 ^ 64 : Nat) : Int)).toNat % 2 ^ 6 := by
    rw [BitVec.toNat_and, BitVec.toNat_ofInt, h127, Nat.and_two_pow_sub_one_eq_mod]
  show IntKind.i64.wrap ((BitVec.ofInt 64 n &&& BitVec.ofInt 64 63).toNat : Nat) = n % 64
  rw [key, IntKind.wrap_i64]
  omega
/-- Whole numbers again and again. -/
def wC (P : Nat → Int) (len f : Nat) (m o : Int) (j : Nat) : Int := if 0 < len then P ((j + f) % len) % m - o else 0
end Go.Proofs.Ytpakpgjbgehhjaa

/-
  Powers of two as patterns; a diagonal as it is filled. Conditions: small exponents.
-/
namespace Go.Proofs.Ytpakpgjbgehhjaa
open Go.RowKit
set_option linter.unusedVariables false
set_option linter.unusedSimpArgs false

/-- The pattern of 2^(q - 1022). -/
def twP (q : Nat) : Int := ((4503599627370496 + q * 4503599627370496 : Nat) : Int)
theorem twP_rng (q : Nat) (h : q ≤ 2044) : 0 ≤ twP q ∧ twP q < 18446744073709551616 ∧ mag (twP q) ≠ 0 := by
  have := (pow_pat q h).1
  unfold twP
  rw [this]
  omega
theorem rk_two (e : Int) (q : Nat) (hq : e + 1022 = (q : Int)) (hq2 : q ≤ 2044) (he : 0 ≤ e + 64) : (rk 1 ((2 ^ (e + 64).toNat : Nat) : Int)).1 = twP q := by
  have h1 := pat_at 4503599627370496 q (Nat.le_refl _) (by decide) hq2
  have h2 : numP (2 ^ (e + 64).toNat) (-64) = 4503599627370496 + q * 4503599627370496 := by
    have h3 := numP_scale 1 (-64) (e + 64).toNat
    rw [Nat.one_mul] at h3
    have h4 := numP_scale 1 ((q : Int) - 1074) 52
    rw [Nat.one_mul] at h4
    rw [h3, show (-64 : Int) + ((e + 64).toNat : Int) = (q : Int) - 1074 + ((52 : Nat) : Int) by omega, ← h4, show 2 ^ 52 = 4503599627370496 by decide]
    exact h1.1
  have hp : 0 < 2 ^ (e + 64).toNat := Nat.two_pow_pos _
  unfold rk
  show sgnB (decide (((2 ^ (e + 64).toNat : Nat) : Int) < 0)) + ((numP (((2 ^ (e + 64).toNat : Nat) : Int)).natAbs (-(64 * ((1 : Nat) : Int))) : Nat) : Int) = _
  rw [Int.natAbs_natCast, show -(64 * ((1 : Nat) : Int)) = -64 by decide, h2, decide_eq_false (by omega)]
  unfold twP sgnB
  simp
theorem nearT (e : Int) (q : Nat) (w : World) (hq : e + 1022 = (q : Int)) (h0 : -32 ≤ e) (h1 : e ≤ 31) (v : Value) (B : Nat) (h : Tell w B v 1 3 ((2 ^ (clampT e + 64 * (1 : Nat)).toNat : Nat) : Int)) :
    Calls Try.prog 36 #[v] w fun e w' => ∃ f, e = .returned (.tuple #[.int .u64 (twP q), .int .u8 f]) ∧ Below w.heap.size w w' := by
  have hc : clampT e = e := by unfold clampT; omega
  rw [hc, show e + 64 * ((1 : Nat) : Int) = e + 64 by omega] at h
  refine (dNearN v w B 1 3 _ h (by decide) (by decide)).mono ?_
  rintro e' w' ⟨rfl, hb⟩
  rw [rk_two e q hq (by omega) (by omega)]
  exact ⟨_, rfl, hb⟩
theorem dTwo1 (e : Int) (w : World) (h0 : -32 ≤ e) (h1 : e ≤ 31) :
    Calls Try.prog 30 #[.int .i64 e] w fun r w' => ∃ v, r = .returned v ∧ Tell w' w.heap.size v 1 3 ((2 ^ (clampT e + 64 * (1 : Nat)).toNat : Nat) : Int) ∧ Below w.heap.size w w' := by
  have hc : clampT e = e := by unfold clampT; omega
  refine (dTwo e w).mono ?_
  rintro r w' ⟨v, rfl, ht, hb⟩
  exact ⟨v, rfl, ht 1 3 (by rw [hc]; omega) (by rw [hc]; omega) (by decide), hb⟩
/-- The first n rows of a diagonal stand in xs. -/
def DgI (xs : List Int) (D : Nat → Int) (N n : Nat) : Prop := xs.length = N * N ∧ InW xs ∧ ∀ i k, i < N → k < N → xs[i * N + k]?.getD 0 = if i = k ∧ i < n then D i else 0
theorem DgI.new (D : Nat → Int) (N : Nat) : DgI (List.replicate (N * N) 0) D N 0 := ⟨List.length_replicate, InW.zeros _, fun i k hi hk => by
  rw [if_neg (fun h => Nat.not_lt_zero _ h.2), List.getElem?_replicate]
  split <;> rfl⟩
theorem place_lt {i k N : Nat} (hi : i < N) (hk : k < N) : i * N + k < N * N := by
  have : (i + 1) * N ≤ N * N := Nat.mul_le_mul_right N hi
  rw [Nat.add_mul, Nat.one_mul] at this
  omega
theorem place_eq {i k j l N : Nat} (hk : k < N) (hl : l < N) (h : i * N + k = j * N + l) : i = j ∧ k = l := by
  have hp : 0 < N := by omega
  have h1 : (i * N + k) / N = (j * N + l) / N := by rw [h]
  have h2 : (i * N + k) % N = (j * N + l) % N := by rw [h]
  rw [Nat.mul_comm i, Nat.mul_comm j, Nat.mul_add_div hp, Nat.mul_add_div hp, Nat.div_eq_of_lt hk, Nat.div_eq_of_lt hl] at h1
  rw [Nat.mul_comm i, Nat.mul_comm j, Nat.mul_add_mod, Nat.mul_add_mod, Nat.mod_eq_of_lt hk, Nat.mod_eq_of_lt hl] at h2
  omega
theorem DgI.set {xs : List Int} {D : Nat → Int} {N n : Nat} (h : DgI xs D N n) (hn : n < N) (x : Int) (hx : x = D n) (x0 : 0 ≤ x) (x1 : x < 18446744073709551616) : DgI (xs.set (n * N + n) x) D N (n + 1) := by
  obtain ⟨h1, h2, h3⟩ := h
  refine ⟨by rw [List.length_set]; exact h1, h2.set _ _ x0 x1, fun i k hi hk => ?_⟩
  rw [List.getElem?_set]
  by_cases e : n * N + n = i * N + k
  · obtain ⟨e1, e2⟩ := place_eq hn hk e
    subst e1 e2
    rw [if_pos rfl, if_pos (by rw [h1]; exact place_lt hn hn), if_pos ⟨rfl, Nat.lt_succ_self _⟩, hx]
    rfl
  · rw [if_neg e, h3 i k hi hk]
    by_cases g : i = k ∧ i < n
    · rw [if_pos g, if_pos ⟨g.1, by omega⟩]
    · rw [if_neg g]
      by_cases g2 : i = k ∧ i < n + 1
      · exfalso
        obtain ⟨g3, g4⟩ := g2
        subst g3
        have : i = n := by
          rcases Nat.lt_or_ge i n with a | a
          · exact absurd ⟨rfl, a⟩ g
          · omega
        subst this
        exact e rfl
      · rw [if_neg g2]
theorem DgI.dgn {xs : List Int} {D : Nat → Int} {N : Nat} (h : DgI xs D N N) : dgn (fun j => xs[j]?.getD 0) D N := fun i k hi hk => by
  show xs[i * N + k]?.getD 0 = _
  rw [h.2.2 i k hi hk]
  by_cases e : i = k
  · rw [if_pos ⟨e, hi⟩, if_pos e]
  · rw [if_neg (fun g => e g.1), if_neg e]
theorem twP_mod (q : Nat) (h : q ≤ 2044) : twP q % 9223372036854775808 ≠ 0 := by
  have := (twP_rng q h).2.2
  intro g
  unfold mag at this
  rw [g] at this
  exact this rfl
/-- A number that the law takes: zero, or neither too great nor too small. -/
def OkX (x : Int) : Prop := mag x = 0 ∨ (100 * 4503599627370496 ≤ mag x ∧ mag x < 1901 * 4503599627370496)
theorem okX_zero (x : Int) (h : x % 9223372036854775808 = 0) : OkX x := .inl (by unfold mag; omega)
theorem okX_mid (x : Int) (h0 : 0 ≤ x) (h1 : x < 18446744073709551616) (g0 : ¬ x / 4503599627370496 % 2048 < 100) (g1 : ¬ 1900 < x / 4503599627370496 % 2048) : OkX x := .inr (by unfold mag; omega)
theorem OkX.fin {x : Int} (h : OkX x) : mag x < 9218868437227405312 := by
  unfold OkX at h
  omega
theorem zero_pat (x : Int) (h : mag x = 0) : x % 9223372036854775808 = 0 := by
  unfold mag at h
  omega
end Go.Proofs.Ytpakpgjbgehhjaa
