/-
  What math/bits' Mul64, Len64 and LeadingZeros64 return (walked at this program's own text), and Add64 and Sub64 (the model's entries): the two words of a product; how many bits a number has; sums and differences with what is carried. All uint64 arguments; a carry that comes in is 0 or 1.
-/
import Derived.Test.YtokgfeeaoioegaaRef02C
import Derived.Laws.MathBits
import Derived.Laws.StructEq
import Derived.Lib.BitFns
namespace Go.Proofs.Ytokgfeeaoioegaa
open Go.RowKit
set_option linter.unusedVariables false

theorem tab_all : ∀ j : Fin 256, (Lib.len8tab.data[j.1]!).toNat = Lib.bitLen j.1 := by decide +kernel
theorem tab_get (i : Nat) (h : i < Lib.len8tab.size) : (Lib.len8tab[i]'h).toNat = Lib.bitLen i := by
  have hi : i < 256 := by rw [Lib.len8tab_size] at h; exact h
  have := tab_all ⟨i, hi⟩
  rw [← this]
  show (Lib.len8tab.data[i]'h).toNat = _
  rw [getElem!_pos Lib.len8tab.data i h]
theorem bitLen_aux (f x : Nat) (h : x < 2 ^ f) : Lib.bitLenAux f x = (bl x).length := by
  induction f generalizing x with
  | zero => obtain rfl : x = 0 := by omega
            rw [bl_zero]; rfl
  | succ f ih =>
    unfold Lib.bitLenAux
    by_cases h0 : x = 0
    · subst h0; rw [bl_zero]; rfl
    · rw [if_neg h0, ih (x / 2) (by rw [Nat.pow_succ] at h; omega), bl_pos x h0, List.length_cons]; omega
theorem bitLen_bl (x : Nat) (h : x < 18446744073709551616) : Lib.bitLen x = (bl x).length := bitLen_aux 64 x (by omega)

theorem mul64_any (x y : Int) (w : World) (hx0 : 0 ≤ x) (hx : x < 18446744073709551616) (hy0 : 0 ≤ y) (hy : y < 18446744073709551616) :
    Calls Try.prog 130 #[.int .u64 x, .int .u64 y] w fun e w' => e = .returned (.tuple #[.int .u64 (x * y / 18446744073709551616), .int .u64 (x * y % 18446744073709551616)]) ∧ w' = w := by
  go_enter Try.func130, Try.ntmps130
  go_wp2
  go_ret2
  refine ⟨ret_eq (tup2 (int_eq ?_) (int_eq ?_)), rfl⟩
  · rw [and_low32 x hx0 hx, and_low32 y hy0 hy]
    simp only [IntKind.wrap_u64]
    rw [and_low32 _ (by omega) (by omega)]
    exact mul64_arith x y hx0 hx hy0 hy
  · exact IntKind.wrap_u64 _
theorem len_le8 (y : Nat) (h : y < 256) : Lib.bitLen y ≤ 8 := by
  rw [bitLen_bl y (by omega)]
  exact (bl_length_le y 8).2 (by omega)
theorem len_close (c : Int) (y X : Nat) (hy : y < 256) (hX : (Lib.bitLen X : Int) = c + Lib.bitLen y) (hc0 : 0 ≤ c) (hc : c ≤ 56) : wrap64 (c + wrap64 ((Lib.bitLen y : Nat) : Int)) = ((Lib.bitLen X : Nat) : Int) := by
  have := len_le8 y hy
  rw [IntWalk.wrap64_in ((Lib.bitLen y : Nat) : Int) ⟨by omega, by omega⟩, IntWalk.wrap64_in _ ⟨by omega, by omega⟩, hX]
set_option maxHeartbeats 4000000 in
set_option maxRecDepth 100000 in
theorem len64_lib (x : Int) (w : World) (h0 : 0 ≤ x) (h1 : x < 18446744073709551616)  :
    Calls Try.prog 86 #[.int .u64 x] w fun e w' => e = .returned (.int .i64 (Lib.bitLen x.toNat)) ∧ w' = w := by
  have hsz := Lib.len8tab_size
  go_enter Try.func86, Try.ntmps86
  go_wp2
  all_goals (go_ret; refine ⟨ret_eq (int_eq ?_), rfl⟩)
  all_goals rw [tab_get]
  · rw [show (x / 4294967296 / 65536 / 256).toNat = x.toNat / 72057594037927936 by omega]
    exact len_close 56 _ _ (by omega) (by have := Lib.bitLen_shift56 x.toNat (by omega) (by omega); omega) (by omega) (by omega)
  · rw [show (x / 4294967296 / 65536).toNat = x.toNat / 281474976710656 by omega]
    exact len_close 48 _ _ (by omega) (by have := Lib.bitLen_shift48 x.toNat (by omega) (by omega); omega) (by omega) (by omega)
  · rw [show (x / 4294967296 / 256).toNat = x.toNat / 1099511627776 by omega]
    exact len_close 40 _ _ (by omega) (by have := Lib.bitLen_shift40 x.toNat (by omega) (by omega); omega) (by omega) (by omega)
  · rw [show (x / 4294967296).toNat = x.toNat / 4294967296 by omega]
    exact len_close 32 _ _ (by omega) (by have := Lib.bitLen_shift32 x.toNat (by omega) (by omega); omega) (by omega) (by omega)
  · rw [show (x / 65536 / 256).toNat = x.toNat / 16777216 by omega]
    exact len_close 24 _ _ (by omega) (by have := Lib.bitLen_shift24 x.toNat (by omega) (by omega); omega) (by omega) (by omega)
  · rw [show (x / 65536).toNat = x.toNat / 65536 by omega]
    exact len_close 16 _ _ (by omega) (by have := Lib.bitLen_shift16 x.toNat (by omega) (by omega); omega) (by omega) (by omega)
  · rw [show (x / 256).toNat = x.toNat / 256 by omega]
    exact len_close 8 _ _ (by omega) (by have := Lib.bitLen_shift8 x.toNat (by omega) (by omega); omega) (by omega) (by omega)
  · have := len_close 0 x.toNat x.toNat (by omega) (by omega) (by omega) (by omega)
    rwa [Int.zero_add] at this
theorem len64_any (x : Int) (w : World) (h0 : 0 ≤ x) (h1 : x < 18446744073709551616)  :
    Calls Try.prog 86 #[.int .u64 x] w fun e w' => e = .returned (.int .i64 ((bl x.toNat).length : Nat)) ∧ w' = w := by
  rw [← bitLen_bl x.toNat (by omega)]
  exact len64_lib x w h0 h1
theorem add64 (x y c : Int) (hx : 0 ≤ x) (hy : 0 ≤ y) (hc0 : 0 ≤ c) (hc : c ≤ 1) (w : World) : (callFunc 118 #[.int .u64 x, .int .u64 y, .int .u64 c]).run Try.prog w =
    .ok (.value (.tuple #[.int .u64 ((x + y + c) % 18446744073709551616), .int .u64 ((x + y + c) / 18446744073709551616)])) w := by
  rw [run_callFunc_extern (e := add64Entry) Try.func118 (by kernel_rfl) (by kernel_rfl) (by kernel_rfl) (by kernel_rfl) _ w, run_add64 x y c hx hy hc0 hc w]
  rfl
/-- What is borrowed. -/
def bor (x y : Int) : Int := if x < y then 1 else 0
def sub64Entry : Array Value → Sem Value := fun args => do
  let (x, y, b) ← Extern.MathBitsCarry.three "Sub64" args
  pure (Extern.MathBitsCarry.pair ((x + Extern.MathBitsCarry.m64 - y - b) % Extern.MathBitsCarry.m64) (if x < y + b then 1 else 0))
theorem run_sub64' {P : Program} (x y b : Int) (hx : 0 ≤ x) (hy : 0 ≤ y) (hy1 : y < 18446744073709551616) (hb0 : 0 ≤ b) (hb : b ≤ 1) (w : World) :
    (sub64Entry #[.int .u64 x, .int .u64 y, .int .u64 b]).run P w =
      .ok (.tuple #[.int .u64 ((x - y - b) % 18446744073709551616), .int .u64 (bor x (y + b))]) w := by
  have key : ∀ k : Nat, k ≤ 1 → (sub64Entry #[.int .u64 x, .int .u64 y, .int .u64 (k : Int)]).run P w =
      .ok (Extern.MathBitsCarry.pair ((x.toNat + Extern.MathBitsCarry.m64 - y.toNat - k) % Extern.MathBitsCarry.m64) (if x.toNat < y.toNat + k then 1 else 0)) w := by
    intro k hk
    have : k = 0 ∨ k = 1 := by omega
    rcases this with rfl | rfl <;> rfl
  obtain ⟨k, rfl⟩ := Int.eq_ofNat_of_zero_le hb0
  rw [key k (by omega)]
  obtain ⟨X, rfl⟩ := Int.eq_ofNat_of_zero_le hx
  obtain ⟨Y, rfl⟩ := Int.eq_ofNat_of_zero_le hy
  simp only [Extern.MathBitsCarry.pair, Extern.MathBitsCarry.m64, Int.toNat_natCast, bor]
  have e1 : Int.ofNat ((X + 2 ^ 64 - Y - k) % 2 ^ 64) = ((X : Int) - Y - k) % 18446744073709551616 := by
    show (((X + 2 ^ 64 - Y - k) % 2 ^ 64 : Nat) : Int) = _
    omega
  have e2 : Int.ofNat (if X < Y + k then 1 else 0) = if (X : Int) < Y + k then 1 else 0 := by
    show (((if X < Y + k then 1 else 0 : Nat)) : Int) = _
    split <;> split <;> omega
  rw [e1, e2]
theorem sub64 (x y b : Int) (hx : 0 ≤ x) (hy : 0 ≤ y) (hy1 : y < 18446744073709551616) (hb0 : 0 ≤ b) (hb : b ≤ 1) (w : World) : (callFunc 122 #[.int .u64 x, .int .u64 y, .int .u64 b]).run Try.prog w =
    .ok (.value (.tuple #[.int .u64 ((x - y - b) % 18446744073709551616), .int .u64 (bor x (y + b))])) w := by
  rw [run_callFunc_extern (e := sub64Entry) Try.func122 (by kernel_rfl) (by kernel_rfl) (by kernel_rfl) (by kernel_rfl) _ w, run_sub64' x y b hx hy hy1 hb0 hb w]
  rfl
theorem bor_bd (x y : Int) : 0 ≤ bor x y ∧ bor x y ≤ 1 := by unfold bor; split <;> omega
/-- The number of two words. -/
def wid (h l : Int) : Nat := (h * 18446744073709551616 + l).toNat
end Go.Proofs.Ytokgfeeaoioegaa
