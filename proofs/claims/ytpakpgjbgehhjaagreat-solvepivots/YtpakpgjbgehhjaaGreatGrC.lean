/-
  Texts put together: SeeM Ref02C Ref02D Ref02E WordC WideM ShiftM WideC WideD WideE DivM DivC DivD RoundC.
-/
import Derived.Test.YtpakpgjbgehhjaaGreatProg
import Derived.Test.YtpakpgjbgehhjaaGreatGrA
import Derived.WalkKit
import Derived.ProofKit
import Derived.Deep.QuietTactic
import Derived.BigQuiet
import Derived.WalkSmall
import Derived.Laws.MathBits
import Derived.Laws.StructEq
import Derived.Lib.BitFns
import Derived.Deep.RegionHeld3
import Derived.WalkSpells
import Derived.Deep.DeepCutAuto
/-
  Slices of ints in memory: that a slice holds a list ('Sees'), that it is the call's own new memory ('Own'), and that both stay as the world grows. No conditions.
-/
namespace Go.Proofs.YtpakpgjbgehhjaaGreat
open Go.RowKit

/-- The slice v holds the list xs. -/
def Sees (w : World) (v : Value) (xs : List Int) : Prop :=
  ∃ b o c, v = .slice (some ⟨b, o, none⟩) xs.length c ∧ b < w.heap.size ∧ xs.length ≤ c ∧ c ≤ maxLen ∧ ∀ i, i < xs.length → w.cell? ⟨b, o + i, none⟩ = some (.int .i64 (xs[i]?.getD 0))
/-- The slice v is made of the call's own memory (blocks from base on), and holds xs. -/
def Own (w : World) (base : Nat) (v : Value) (xs : List Int) : Prop :=
  w.ownsRow base 3 1 v xs.length (xs.map (Value.int .i64)) ∧ v ≠ .slice none 0 0

theorem Own.sees {w : World} {base : Nat} {v : Value} {xs : List Int} (h : Own w base v xs) : Sees w v xs := by
  obtain ⟨h, hne⟩ := h
  have hc := fun g => World.ownsRow.cells h (g := g)
  have hlt := h.lt
  rcases h.2 with ⟨rfl, _⟩ | ⟨g, cap, cur, rfl, hb, hg, hnc, hcm, hcs, htake⟩
  · exact absurd rfl hne
  · refine ⟨g, 0, cap, rfl, (hlt g rfl).2, hnc, hcm, fun i hi => ?_⟩
    have := hc g rfl i (.int .i64 (xs[i]?.getD 0)) (by rw [List.getElem?_map, List.getElem?_eq_getElem hi]; rfl)
    rw [Addr.add_lit] at this
    exact this
theorem Sees.below {w w' : World} {v : Value} {xs : List Int} (h : Sees w v xs) (hb : Below w.heap.size w w') : Sees w' v xs := by
  obtain ⟨b, o, c, rfl, hlt, hc, hm, hcell⟩ := h
  exact ⟨b, o, c, rfl, Nat.lt_of_lt_of_le hlt hb.size, hc, hm, fun i hi => (hb.cell (p := ⟨b, o + i, none⟩) hlt).trans (hcell i hi)⟩
theorem Own.below {w w' : World} {base : Nat} {v : Value} {xs : List Int} (h : Own w base v xs) (hb : Below w.heap.size w w') : Own w' base v xs := by
  obtain ⟨h, hne⟩ := h
  refine ⟨⟨h.1, ?_⟩, hne⟩
  rcases h.2 with hn | ⟨g, cap, cur, rfl, hbg, hgg, rest⟩
  · exact .inl hn
  · refine .inr ⟨g, cap, cur, rfl, hbg, ?_, rest⟩
    rw [hb.block g (Array.getElem?_eq_some_iff.1 hgg).1]
    exact hgg
theorem Own.base {w : World} {b b' : Nat} {v : Value} {xs : List Int} (h : Own w b v xs) (hb : b' ≤ b) : Own w b' v xs := by
  obtain ⟨h, hne⟩ := h
  refine ⟨⟨h.1, ?_⟩, hne⟩
  rcases h.2 with hn | ⟨g, cap, cur, rfl, hbg, rest⟩
  · exact .inl hn
  · exact .inr ⟨g, cap, cur, rfl, Nat.le_trans hb hbg, rest⟩

theorem Own.alloc {w : World} {base : Nat} {v : Value} {xs : List Int} (h : Own w base v xs) (o : Obj) : Own (w.alloc o) base v xs := ⟨h.1.alloc o, h.2⟩
theorem Own.one (w : World) (base : Nat) (y : Int) (hb : base ≤ w.heap.size) : Own (w.alloc (.cells #[.int .i64 y] 3)) base (.slice (some ⟨w.heap.size, 0, none⟩) 1 1) [y] := by
  refine ⟨⟨rfl, .inr ⟨w.heap.size, 1, #[.int .i64 y], rfl, hb, heap_alloc_new w _, Nat.le_refl _, by unfold maxLen; omega, rfl, rfl⟩⟩, by simp⟩
theorem Sees.alloc {w : World} {v : Value} {xs : List Int} (h : Sees w v xs) (o : Obj) : Sees (w.alloc o) v xs := h.below ((Below.refl _ _).alloc (Nat.le_refl _) _)
end Go.Proofs.YtpakpgjbgehhjaaGreat

/-
  What each function of package gimbalref02 returns.
-/
namespace Go.Proofs.YtpakpgjbgehhjaaGreat
open Go.RowKit
set_option linter.unusedVariables false

/-- Whether a 1 falls out below place n. -/
def lostB (m n : Nat) : Bool := decide (m % 2 ^ n ≠ 0)
end Go.Proofs.YtpakpgjbgehhjaaGreat

/-
  What gimbalref02's Add, Sub, Cmp, Mul and Div return on lists of bits: the list of the sum, of the difference, which is greater, the list of the product, those of the quotient and of what is left. Lists of at most some thousand bits.
-/
namespace Go.Proofs.YtpakpgjbgehhjaaGreat
open Go.RowKit
set_option linter.unusedVariables false

end Go.Proofs.YtpakpgjbgehhjaaGreat

/-
  What gimbalref02's Sub and Cmp return on lists of bits: the list of the difference, where it isn't below nought; which number is greater. Lists of at most some thousand bits.
-/
namespace Go.Proofs.YtpakpgjbgehhjaaGreat
open Go.RowKit
set_option linter.unusedVariables false

end Go.Proofs.YtpakpgjbgehhjaaGreat

/-
  What each function of package word returns, as integer arithmetic, at every pattern in [0, 2^64); the world stays as it is.
-/
namespace Go.Proofs.YtpakpgjbgehhjaaGreat
open Go.ChangeShapes Go.WideShapes Go.ChangeAt Go.RowKit



theorem neg_any (b : Int) (w : World) (h0 : 0 ≤ b) (h1 : b < 18446744073709551616) :
    Calls Tryz.prog 24 #[.int .u64 b] w fun e w' => e = .returned (.bool (decide (9223372036854775808 ≤ b))) ∧ w' = w := by
  go_enter Tryz.func24, Tryz.ntmps24
  go_wp2
  go_ret
  refine ⟨ret_eq (bool_eq ?_), rfl⟩
  rw [and_sign b h0 h1]
  rw [Bool.eq_iff_iff]
  simp only [bne_iff_ne, ne_eq, decide_eq_true_eq]
  omega
theorem exp_any (b : Int) (w : World) (h0 : 0 ≤ b) (h1 : b < 18446744073709551616) :
    Calls Tryz.prog 36 #[.int .u64 b] w fun e w' => e = .returned (.int .i64 (b / 4503599627370496 % 2048)) ∧ w' = w := by
  go_enter Tryz.func36, Tryz.ntmps36
  go_wp2
  go_ret
  refine ⟨ret_eq (int_eq ?_), rfl⟩
  rw [and_exp _ (by omega) (by omega)]
  exact IntWalk.wrap64_in _ ⟨by omega, by omega⟩
theorem frac_any (b : Int) (w : World) (h0 : 0 ≤ b) (h1 : b < 18446744073709551616) :
    Calls Tryz.prog 93 #[.int .u64 b] w fun e w' => e = .returned (.int .u64 (b % 4503599627370496)) ∧ w' = w := by
  go_enter Tryz.func93, Tryz.ntmps93
  go_wp2
  go_ret
  exact ⟨ret_eq (int_eq (and_frac b h0 h1)), rfl⟩
theorem abs_any (b : Int) (w : World) (h0 : 0 ≤ b) (h1 : b < 18446744073709551616) :
    Calls Tryz.prog 25 #[.int .u64 b] w fun e w' => e = .returned (.int .u64 (b % 9223372036854775808)) ∧ w' = w := by
  go_enter Tryz.func25, Tryz.ntmps25
  go_wp2
  go_ret
  exact ⟨ret_eq (int_eq (andNot_sign b h0 h1)), rfl⟩
theorem flip_any (b : Int) (w : World) (h0 : 0 ≤ b) (h1 : b < 18446744073709551616) :
    Calls Tryz.prog 86 #[.int .u64 b] w fun e w' => e = .returned (.int .u64 (wFlip b)) ∧ w' = w := by
  go_enter Tryz.func86, Tryz.ntmps86
  go_wp2
  go_ret
  exact ⟨ret_eq (int_eq (xor_sign b h0 h1)), rfl⟩
theorem kind_any (b : Int) (w : World) (h0 : 0 ≤ b) (h1 : b < 18446744073709551616) :
    Calls Tryz.prog 92 #[.int .u64 b] w fun e w' => e = .returned (.int .i64 (wKind b)) ∧ w' = w := by
  go_enter Tryz.func92, Tryz.ntmps92
  go_wp2_with (first | (go_at_call 36; refine (exp_any _ _ h0 h1).mono ?_; rintro e w' ⟨rfl, rfl⟩) | (go_at_call 93; refine (frac_any _ _ h0 h1).mono ?_; rintro e w' ⟨rfl, rfl⟩))
  all_goals go_ret
  all_goals refine ⟨ret_eq (int_eq ?_), rfl⟩
  all_goals (unfold wKind; simp_all <;> omega)
theorem finite_any (b : Int) (w : World) (h0 : 0 ≤ b) (h1 : b < 18446744073709551616) :
    Calls Tryz.prog 10 #[.int .u64 b] w fun e w' => e = .returned (.bool (decide (b / 4503599627370496 % 2048 < 2047))) ∧ w' = w := by
  go_enter Tryz.func10, Tryz.ntmps10
  go_wp2_with (go_at_call 36; refine (exp_any _ _ h0 h1).mono ?_; rintro e w' ⟨rfl, rfl⟩)
  go_ret
  refine ⟨ret_eq (bool_eq ?_), rfl⟩
  rw [Bool.eq_iff_iff]
  simp only [bne_iff_ne, ne_eq, decide_eq_true_eq]
  omega
theorem signals_any (b : Int) (w : World) (h0 : 0 ≤ b) (h1 : b < 18446744073709551616) :
    Calls Tryz.prog 107 #[.int .u64 b] w fun e w' => e = .returned (.bool (decide (wKind b = 5 ∧ b / 2251799813685248 % 2 = 0))) ∧ w' = w := by
  go_enter Tryz.func107, Tryz.ntmps107
  go_wp2_with (go_at_call 92; refine (kind_any _ _ h0 h1).mono ?_; rintro e w' ⟨rfl, rfl⟩)
  all_goals go_ret
  all_goals refine ⟨ret_eq (bool_eq ?_), rfl⟩
  all_goals rw [Bool.eq_iff_iff]
  · rw [and_quiet b h0 h1]; simp_all; omega
  · simp_all
theorem make_any (n : Bool) (x b : Int) (w : World) (h0 : 0 ≤ b) (h1 : b < 18446744073709551616) :
    Calls Tryz.prog 90 #[.bool n, .int .i64 x, .int .u64 b] w fun e w' => e = .returned (.int .u64 (wMake n x b)) ∧ w' = w := by
  have e1 : bits .or .u64 (x % 2048 * 4503599627370496) (b % 4503599627370496) = x % 2048 * 4503599627370496 + b % 4503599627370496 := or_join52 _ _ (by omega) (by omega) (by omega) (by omega) (by omega)
  have e2 := or_sign (x % 2048 * 4503599627370496 + b % 4503599627370496) (by omega) (by omega)
  have e3 : IntKind.u64.wrap (x % 2048) = x % 2048 := by rw [IntKind.wrap_u64]; omega
  have e4 : IntKind.u64.wrap (x % 2048 * 4503599627370496) = x % 2048 * 4503599627370496 := by rw [IntKind.wrap_u64]; omega
  have E1 : Hid (_ = _) := e1
  have E2 : Hid (_ = _) := e2
  have E3 : Hid (_ = _) := e3
  have E4 : Hid (_ = _) := e4
  clear e1 e2 e3 e4
  go_enter Tryz.func90, Tryz.ntmps90
  go_wp2
  all_goals go_ret
  all_goals refine ⟨ret_eq (int_eq ?_), rfl⟩
  all_goals rw [and_exp_i, and_frac b h0 h1, E3.out, E4.out, E1.out]
  · rw [E2.out]; unfold wMake; simp_all; omega
  · unfold wMake; simp_all
theorem parts_any (b : Int) (w : World) (h0 : 0 ≤ b) (h1 : b < 18446744073709551616) :
    Calls Tryz.prog 65 #[.int .u64 b] w fun e w' => e = .returned (.tuple #[.int .u64 (wMant b), .int .i64 (wPow b)]) ∧ w' = w := by
  go_enter Tryz.func65, Tryz.ntmps65
  go_wp2_with (first | (go_at_call 92; refine (kind_any _ _ h0 h1).mono ?_; rintro e w' ⟨rfl, rfl⟩) | (go_at_call 36; refine (exp_any _ _ h0 h1).mono ?_; rintro e w' ⟨rfl, rfl⟩) | (go_at_call 93; refine (frac_any _ _ h0 h1).mono ?_; rintro e w' ⟨rfl, rfl⟩))
  all_goals go_ret2
  all_goals refine ⟨ret_eq (tup2 (int_eq ?_) (int_eq ?_)), rfl⟩
  all_goals (simp only [wMant, wPow]; simp_all)
  exact or_join52 _ _ (by omega) (by omega) (by omega) (by omega) (by omega)
end Go.Proofs.YtpakpgjbgehhjaaGreat

/-
  What math/bits' Mul64, Len64 and LeadingZeros64 return (walked at this program's own text), and Add64 and Sub64 (the model's entries): the two words of a product; how many bits a number has; sums and differences with what is carried. All uint64 arguments; a carry that comes in is 0 or 1.
-/
namespace Go.Proofs.YtpakpgjbgehhjaaGreat
open Go.RowKit
set_option linter.unusedVariables false

theorem tab_all : ∀ j : Fin 256, (Lib.len8tab.data[j.1]!).toNat = Lib.bitLen j.1 := by decide +kernel
theorem tab_get (i : Nat) (h : i < Lib.len8tab.size) : (Lib.len8tab[i]'h).toNat = Lib.bitLen i := by
  have hi : i < 256 := by rw [Lib.len8tab_size] at h; exact h
  have := tab_all ⟨i, hi⟩
  rw [← this]
  show (Lib.len8tab.data[i]'h).toNat = _
  rw [getElem!_pos Lib.len8tab.data i h]
theorem bitLen_aux (f x : Nat) (h : x < 2 ^ f) : Lib.bitLenAux f x = (bl x).length := by
  induction f generalizing x with
  | zero => obtain rfl : x = 0 := by omega
            rw [bl_zero]; rfl
  | succ f ih =>
    unfold Lib.bitLenAux
    by_cases h0 : x = 0
    · subst h0; rw [bl_zero]; rfl
    · rw [if_neg h0, ih (x / 2) (by rw [Nat.pow_succ] at h; omega), bl_pos x h0, List.length_cons]; omega
theorem bitLen_bl (x : Nat) (h : x < 18446744073709551616) : Lib.bitLen x = (bl x).length := bitLen_aux 64 x (by omega)

theorem mul64_any (x y : Int) (w : World) (hx0 : 0 ≤ x) (hx : x < 18446744073709551616) (hy0 : 0 ≤ y) (hy : y < 18446744073709551616) :
    Calls Tryz.prog 110 #[.int .u64 x, .int .u64 y] w fun e w' => e = .returned (.tuple #[.int .u64 (x * y / 18446744073709551616), .int .u64 (x * y % 18446744073709551616)]) ∧ w' = w := by
  go_enter Tryz.func110, Tryz.ntmps110
  go_wp2
  go_ret2
  refine ⟨ret_eq (tup2 (int_eq ?_) (int_eq ?_)), rfl⟩
  · rw [and_low32 x hx0 hx, and_low32 y hy0 hy]
    simp only [IntKind.wrap_u64]
    rw [and_low32 _ (by omega) (by omega)]
    exact mul64_arith x y hx0 hx hy0 hy
  · exact IntKind.wrap_u64 _
theorem len_le8 (y : Nat) (h : y < 256) : Lib.bitLen y ≤ 8 := by
  rw [bitLen_bl y (by omega)]
  exact (bl_length_le y 8).2 (by omega)
theorem len_close (c : Int) (y X : Nat) (hy : y < 256) (hX : (Lib.bitLen X : Int) = c + Lib.bitLen y) (hc0 : 0 ≤ c) (hc : c ≤ 56) : wrap64 (c + wrap64 ((Lib.bitLen y : Nat) : Int)) = ((Lib.bitLen X : Nat) : Int) := by
  have := len_le8 y hy
  rw [IntWalk.wrap64_in ((Lib.bitLen y : Nat) : Int) ⟨by omega, by omega⟩, IntWalk.wrap64_in _ ⟨by omega, by omega⟩, hX]
set_option maxHeartbeats 4000000 in
set_option maxRecDepth 100000 in
theorem len64_lib (x : Int) (w : World) (h0 : 0 ≤ x) (h1 : x < 18446744073709551616)  :
    Calls Tryz.prog 121 #[.int .u64 x] w fun e w' => e = .returned (.int .i64 (Lib.bitLen x.toNat)) ∧ w' = w := by
  have hsz := Lib.len8tab_size
  go_enter Tryz.func121, Tryz.ntmps121
  go_wp2
  all_goals (go_ret; refine ⟨ret_eq (int_eq ?_), rfl⟩)
  all_goals rw [tab_get]
  · rw [show (x / 4294967296 / 65536 / 256).toNat = x.toNat / 72057594037927936 by omega]
    exact len_close 56 _ _ (by omega) (by have := Lib.bitLen_shift56 x.toNat (by omega) (by omega); omega) (by omega) (by omega)
  · rw [show (x / 4294967296 / 65536).toNat = x.toNat / 281474976710656 by omega]
    exact len_close 48 _ _ (by omega) (by have := Lib.bitLen_shift48 x.toNat (by omega) (by omega); omega) (by omega) (by omega)
  · rw [show (x / 4294967296 / 256).toNat = x.toNat / 1099511627776 by omega]
    exact len_close 40 _ _ (by omega) (by have := Lib.bitLen_shift40 x.toNat (by omega) (by omega); omega) (by omega) (by omega)
  · rw [show (x / 4294967296).toNat = x.toNat / 4294967296 by omega]
    exact len_close 32 _ _ (by omega) (by have := Lib.bitLen_shift32 x.toNat (by omega) (by omega); omega) (by omega) (by omega)
  · rw [show (x / 65536 / 256).toNat = x.toNat / 16777216 by omega]
    exact len_close 24 _ _ (by omega) (by have := Lib.bitLen_shift24 x.toNat (by omega) (by omega); omega) (by omega) (by omega)
  · rw [show (x / 65536).toNat = x.toNat / 65536 by omega]
    exact len_close 16 _ _ (by omega) (by have := Lib.bitLen_shift16 x.toNat (by omega) (by omega); omega) (by omega) (by omega)
  · rw [show (x / 256).toNat = x.toNat / 256 by omega]
    exact len_close 8 _ _ (by omega) (by have := Lib.bitLen_shift8 x.toNat (by omega) (by omega); omega) (by omega) (by omega)
  · have := len_close 0 x.toNat x.toNat (by omega) (by omega) (by omega) (by omega)
    rwa [Int.zero_add] at this
theorem len64_any (x : Int) (w : World) (h0 : 0 ≤ x) (h1 : x < 18446744073709551616)  :
    Calls Tryz.prog 121 #[.int .u64 x] w fun e w' => e = .returned (.int .i64 ((bl x.toNat).length : Nat)) ∧ w' = w := by
  rw [← bitLen_bl x.toNat (by omega)]
  exact len64_lib x w h0 h1
theorem lead_any (x : Int) (w : World) (h0 : 0 ≤ x) (h1 : x < 18446744073709551616)  :
    Calls Tryz.prog 123 #[.int .u64 x] w fun e w' => e = .returned (.int .i64 (64 - ((bl x.toNat).length : Nat))) ∧ w' = w := by
  have hl : (bl x.toNat).length ≤ 64 := (bl_length_le x.toNat 64).2 (by omega)
  go_enter Tryz.func123, Tryz.ntmps123
  go_wp2_with fail
  refine (len64_any _ _ h0 h1).mono ?_
  rintro e w' ⟨rfl, rfl⟩
  go_wp2
  go_ret
  exact ⟨ret_eq rfl, rfl⟩
theorem add64 (x y c : Int) (hx : 0 ≤ x) (hy : 0 ≤ y) (hc0 : 0 ≤ c) (hc : c ≤ 1) (w : World) : (callFunc 100 #[.int .u64 x, .int .u64 y, .int .u64 c]).run Tryz.prog w =
    .ok (.value (.tuple #[.int .u64 ((x + y + c) % 18446744073709551616), .int .u64 ((x + y + c) / 18446744073709551616)])) w := by
  rw [run_callFunc_extern (e := add64Entry) Tryz.func100 (by kernel_rfl) (by kernel_rfl) (by kernel_rfl) (by kernel_rfl) _ w, run_add64 x y c hx hy hc0 hc w]
  rfl
/-- What is borrowed. -/
def bor (x y : Int) : Int := if x < y then 1 else 0
def sub64Entry : Array Value → Sem Value := fun args => do
  let (x, y, b) ← Extern.MathBitsCarry.three "Sub64" args
  pure (Extern.MathBitsCarry.pair ((x + Extern.MathBitsCarry.m64 - y - b) % Extern.MathBitsCarry.m64) (if x < y + b then 1 else 0))
theorem run_sub64' {P : Program} (x y b : Int) (hx : 0 ≤ x) (hy : 0 ≤ y) (hy1 : y < 18446744073709551616) (hb0 : 0 ≤ b) (hb : b ≤ 1) (w : World) :
    (sub64Entry #[.int .u64 x, .int .u64 y, .int .u64 b]).run P w =
      .ok (.tuple #[.int .u64 ((x - y - b) % 18446744073709551616), .int .u64 (bor x (y + b))]) w := by
  have key : ∀ k : Nat, k ≤ 1 → (sub64Entry #[.int .u64 x, .int .u64 y, .int .u64 (k : Int)]).run P w =
      .ok (Extern.MathBitsCarry.pair ((x.toNat + Extern.MathBitsCarry.m64 - y.toNat - k) % Extern.MathBitsCarry.m64) (if x.toNat < y.toNat + k then 1 else 0)) w := by
    intro k hk
    have : k = 0 ∨ k = 1 := by omega
    rcases this with rfl | rfl <;> rfl
  obtain ⟨k, rfl⟩ := Int.eq_ofNat_of_zero_le hb0
  rw [key k (by omega)]
  obtain ⟨X, rfl⟩ := Int.eq_ofNat_of_zero_le hx
  obtain ⟨Y, rfl⟩ := Int.eq_ofNat_of_zero_le hy
  simp only [Extern.MathBitsCarry.pair, Extern.MathBitsCarry.m64, Int.toNat_natCast, bor]
  have e1 : Int.ofNat ((X + 2 ^ 64 - Y - k) % 2 ^ 64) = ((X : Int) - Y - k) % 18446744073709551616 := by
    show (((X + 2 ^ 64 - Y - k) % 2 ^ 64 : Nat) : Int) = _
    omega
  have e2 : Int.ofNat (if X < Y + k then 1 else 0) = if (X : Int) < Y + k then 1 else 0 := by
    show (((if X < Y + k then 1 else 0 : Nat)) : Int) = _
    split <;> split <;> omega
  rw [e1, e2]
theorem sub64 (x y b : Int) (hx : 0 ≤ x) (hy : 0 ≤ y) (hy1 : y < 18446744073709551616) (hb0 : 0 ≤ b) (hb : b ≤ 1) (w : World) : (callFunc 104 #[.int .u64 x, .int .u64 y, .int .u64 b]).run Tryz.prog w =
    .ok (.value (.tuple #[.int .u64 ((x - y - b) % 18446744073709551616), .int .u64 (bor x (y + b))])) w := by
  rw [run_callFunc_extern (e := sub64Entry) Tryz.func104 (by kernel_rfl) (by kernel_rfl) (by kernel_rfl) (by kernel_rfl) _ w, run_sub64' x y b hx hy hy1 hb0 hb w]
  rfl
theorem bor_bd (x y : Int) : 0 ≤ bor x y ∧ bor x y ≤ 1 := by unfold bor; split <;> omega
/-- The number of two words. -/
def wid (h l : Int) : Nat := (h * 18446744073709551616 + l).toNat
end Go.Proofs.YtpakpgjbgehhjaaGreat

/-
  Plain arithmetic of shifts of two words (no program in sight): up by n and down by n bits. Words below 2^64.
-/
namespace Go.Proofs.YtpakpgjbgehhjaaGreat
set_option linter.unusedVariables false

theorem cast_lt (a : Nat) (h : a < 18446744073709551616) : (a : Int) < 18446744073709551616 := by omega
theorem shl_core (P Q H L : Nat) (hP : 0 < P) (hQ : 0 < Q) (hL : L < P * Q) :
    (P * (H % Q) + L / Q) * (P * Q) + P * (L % Q) = P * (H * (P * Q) + L) % (P * Q * (P * Q)) := by
  have hH := Nat.div_add_mod H Q
  have hLd := Nat.div_add_mod L Q
  have hq : L / Q < P := (Nat.div_lt_iff_lt_mul hQ).2 hL
  have hr : L % Q < Q := Nat.mod_lt _ hQ
  have hr2 : H % Q < Q := Nat.mod_lt _ hQ
  have e : P * (H * (P * Q) + L) = ((P * (H % Q) + L / Q) * (P * Q) + P * (L % Q)) + (P * Q * (P * Q)) * (H / Q) := by
    conv => lhs; rw [← hH, ← hLd]
    grind
  have b1 : P * (H % Q) + L / Q + 1 ≤ P * Q := by
    have : P * (H % Q + 1) ≤ P * Q := Nat.mul_le_mul_left P hr2
    rw [Nat.mul_add, Nat.mul_one] at this
    omega
  have b2 : P * (L % Q) < P * Q := Nat.mul_lt_mul_of_pos_left hr hP
  have b3 : (P * (H % Q) + L / Q + 1) * (P * Q) ≤ P * Q * (P * Q) := Nat.mul_le_mul_right _ b1
  rw [Nat.add_mul _ 1, Nat.one_mul] at b3
  rw [e, Nat.add_mul_mod_self_left]
  exact (Nat.mod_eq_of_lt (by omega)).symm
theorem shr_core (P Q H L : Nat) (hP : 0 < P) : (H / P) * (P * Q) + (Q * (H % P) + L / P) = (H * (P * Q) + L) / P := by
  have hH := Nat.div_add_mod H P
  rw [show H * (P * Q) + L = L + P * (H * Q) by grind, Nat.add_mul_div_left _ _ hP]
  conv => rhs; rw [← hH]
  grind
theorem pow_split (k : Nat) (h : k ≤ 64) : (2 : Nat) ^ k * 2 ^ (64 - k) = 18446744073709551616 := by
  rw [← Nat.pow_add, show k + (64 - k) = 64 by omega]
theorem or_nat (a b k : Nat) (ha : a < 18446744073709551616) (hb : b < 18446744073709551616) (h : a % 2 ^ k = 0) (g : b < 2 ^ k) : bits .or .u64 (a : Int) (b : Int) = ((a + b : Nat) : Int) := by
  rw [bits_or_u64_nat a b ha hb, nat_join k a b h g]
theorem or_nat' (a b k : Nat) (ha : a < 18446744073709551616) (hb : b < 18446744073709551616) (h : a % 2 ^ k = 0) (g : b < 2 ^ k) : bits .or .u64 (b : Int) (a : Int) = ((a + b : Nat) : Int) := by
  rw [bits_or_u64_nat b a hb ha, Nat.or_comm, nat_join k a b h g]
theorem wrap_nat (a : Nat) : IntKind.u64.wrap (a : Int) = ((a % 18446744073709551616 : Nat) : Int) := by
  rw [IntKind.wrap_u64]; omega
theorem wid_nat (h l : Nat) : wid (h : Int) (l : Int) = h * 18446744073709551616 + l := by unfold wid; omega
theorem wid_lt (h l : Int) (a0 : 0 ≤ h) (a1 : h < 18446744073709551616) (a2 : 0 ≤ l) (a3 : l < 18446744073709551616) : wid h l < 2 ^ 128 := by unfold wid; omega

theorem shl_mid (ah al n : Int) (a0 : 0 ≤ ah) (a1 : ah < 18446744073709551616) (a2 : 0 ≤ al) (a3 : al < 18446744073709551616) (n0 : 0 < n) (n1 : n < 64) :
    ∃ h l : Int, bits .or .u64 (IntKind.u64.wrap (ah * 2 ^ n.toNat)) (al / 2 ^ (64 - n).toNat) = h ∧ IntKind.u64.wrap (al * 2 ^ n.toNat) = l ∧ 0 ≤ h ∧ h < 18446744073709551616 ∧ 0 ≤ l ∧ l < 18446744073709551616 ∧ wid h l = 2 ^ n.toNat * wid ah al % 2 ^ 128 := by
  obtain ⟨H, rfl⟩ := Int.eq_ofNat_of_zero_le a0
  obtain ⟨L, rfl⟩ := Int.eq_ofNat_of_zero_le a2
  obtain ⟨k, rfl⟩ := Int.eq_ofNat_of_zero_le (Int.le_of_lt n0)
  rw [Int.toNat_natCast, show ((64 : Int) - (k : Int)).toNat = 64 - k by omega]
  have hPQ := pow_split k (by omega)
  have hP := Nat.two_pow_pos k
  have hQ := Nat.two_pow_pos (64 - k)
  have e1 : (H : Int) * 2 ^ k = ((H * 2 ^ k : Nat) : Int) := by push_cast; rfl
  have e2 : (L : Int) * 2 ^ k = ((L * 2 ^ k : Nat) : Int) := by push_cast; rfl
  have e3 : (L : Int) / 2 ^ (64 - k) = ((L / 2 ^ (64 - k) : Nat) : Int) := by push_cast; rfl
  rw [e1, e2, e3, wrap_nat, wrap_nat, wid_nat, ← hPQ]
  have m1 : H * 2 ^ k % (2 ^ k * 2 ^ (64 - k)) = 2 ^ k * (H % 2 ^ (64 - k)) := by rw [Nat.mul_comm H, Nat.mul_mod_mul_left]
  have m2 : L * 2 ^ k % (2 ^ k * 2 ^ (64 - k)) = 2 ^ k * (L % 2 ^ (64 - k)) := by rw [Nat.mul_comm L, Nat.mul_mod_mul_left]
  have hLlt : L < 2 ^ k * 2 ^ (64 - k) := by rw [hPQ]; omega
  have q2 : L / 2 ^ (64 - k) < 2 ^ k := (Nat.div_lt_iff_lt_mul hQ).2 hLlt
  have t1 : 2 ^ k * (H % 2 ^ (64 - k)) < 18446744073709551616 := by rw [← m1, hPQ]; omega
  have t2 : L / 2 ^ (64 - k) < 18446744073709551616 := Nat.lt_of_le_of_lt (Nat.div_le_self _ _) (by omega)
  have t3 : 2 ^ k * (L % 2 ^ (64 - k)) < 18446744073709551616 := by rw [← m2, hPQ]; omega
  have core := shl_core (2 ^ k) (2 ^ (64 - k)) H L hP hQ hLlt
  have b1 : 2 ^ k * (H % 2 ^ (64 - k)) + L / 2 ^ (64 - k) < 18446744073709551616 := by
    have : 2 ^ k * (H % 2 ^ (64 - k) + 1) ≤ 2 ^ k * 2 ^ (64 - k) := Nat.mul_le_mul_left _ (Nat.mod_lt _ hQ)
    rw [Nat.mul_add, Nat.mul_one, hPQ] at this
    omega
  rw [m1, m2]
  refine ⟨_, _, or_nat _ _ k t1 t2 (Nat.mul_mod_right _ _) q2, rfl, Int.natCast_nonneg _, cast_lt _ b1, Int.natCast_nonneg _, cast_lt _ t3, ?_⟩
  rw [wid_nat]
  rw [hPQ] at core ⊢
  rw [core]
theorem shr_mid (ah al n : Int) (a0 : 0 ≤ ah) (a1 : ah < 18446744073709551616) (a2 : 0 ≤ al) (a3 : al < 18446744073709551616) (n0 : 0 < n) (n1 : n < 64) :
    ∃ h l : Int, ah / 2 ^ n.toNat = h ∧ bits .or .u64 (al / 2 ^ n.toNat) (IntKind.u64.wrap (ah * 2 ^ (64 - n).toNat)) = l ∧ 0 ≤ h ∧ h < 18446744073709551616 ∧ 0 ≤ l ∧ l < 18446744073709551616 ∧ wid h l = wid ah al / 2 ^ n.toNat := by
  obtain ⟨H, rfl⟩ := Int.eq_ofNat_of_zero_le a0
  obtain ⟨L, rfl⟩ := Int.eq_ofNat_of_zero_le a2
  obtain ⟨k, rfl⟩ := Int.eq_ofNat_of_zero_le (Int.le_of_lt n0)
  rw [Int.toNat_natCast, show ((64 : Int) - (k : Int)).toNat = 64 - k by omega]
  have hPQ := pow_split k (by omega)
  have hP := Nat.two_pow_pos k
  have hQ := Nat.two_pow_pos (64 - k)
  have e1 : (H : Int) * 2 ^ (64 - k) = ((H * 2 ^ (64 - k) : Nat) : Int) := by push_cast; rfl
  have e2 : (H : Int) / 2 ^ k = ((H / 2 ^ k : Nat) : Int) := by push_cast; rfl
  have e3 : (L : Int) / 2 ^ k = ((L / 2 ^ k : Nat) : Int) := by push_cast; rfl
  rw [e1, e2, e3, wrap_nat, wid_nat]
  have m1 : H * 2 ^ (64 - k) % 18446744073709551616 = 2 ^ (64 - k) * (H % 2 ^ k) := by rw [← hPQ, Nat.mul_comm (2 ^ k), Nat.mul_comm H, Nat.mul_mod_mul_left]
  have q2 : L / 2 ^ k < 2 ^ (64 - k) := (Nat.div_lt_iff_lt_mul hP).2 (by rw [Nat.mul_comm, hPQ]; omega)
  have t1 : 2 ^ (64 - k) * (H % 2 ^ k) < 18446744073709551616 := by rw [← m1]; omega
  have t2 : L / 2 ^ k < 18446744073709551616 := Nat.lt_of_le_of_lt (Nat.div_le_self _ _) (by omega)
  have t3 : H / 2 ^ k < 18446744073709551616 := Nat.lt_of_le_of_lt (Nat.div_le_self _ _) (by omega)
  have core := shr_core (2 ^ k) (2 ^ (64 - k)) H L hP
  have b1 : 2 ^ (64 - k) * (H % 2 ^ k) + L / 2 ^ k < 18446744073709551616 := by
    have : 2 ^ (64 - k) * (H % 2 ^ k + 1) ≤ 2 ^ (64 - k) * 2 ^ k := Nat.mul_le_mul_left _ (Nat.mod_lt _ hP)
    rw [Nat.mul_add, Nat.mul_one, Nat.mul_comm (2 ^ (64 - k)) (2 ^ k), hPQ] at this
    omega
  rw [m1]
  refine ⟨_, _, rfl, or_nat' _ _ (64 - k) t1 t2 (Nat.mul_mod_right _ _) q2, Int.natCast_nonneg _, cast_lt _ t3, Int.natCast_nonneg _, cast_lt _ b1, ?_⟩
  rw [wid_nat]
  rw [hPQ] at core
  rw [← core]
theorem shl_big (ah al n : Int) (a0 : 0 ≤ ah) (a2 : 0 ≤ al) (n0 : 64 ≤ n) :
    ∃ h : Int, IntKind.u64.wrap (al * 2 ^ min (n - 64).toNat 64) = h ∧ 0 ≤ h ∧ h < 18446744073709551616 ∧ wid h 0 = 2 ^ n.toNat * wid ah al % 2 ^ 128 := by
  obtain ⟨H, rfl⟩ := Int.eq_ofNat_of_zero_le a0
  obtain ⟨L, rfl⟩ := Int.eq_ofNat_of_zero_le a2
  obtain ⟨m, hm⟩ : ∃ m : Nat, n = 64 + m := ⟨(n - 64).toNat, by omega⟩
  subst hm
  rw [show ((64 : Int) + (m : Int) - 64).toNat = m by omega, show ((64 : Int) + (m : Int)).toNat = 64 + m by omega]
  have e1 : (L : Int) * 2 ^ min m 64 = ((L * 2 ^ min m 64 : Nat) : Int) := by push_cast; rfl
  rw [e1, wrap_nat, wid_nat]
  refine ⟨_, rfl, by omega, by omega, ?_⟩
  have e2 : L * 2 ^ min m 64 % 18446744073709551616 = L * 2 ^ m % 18446744073709551616 := by
    by_cases h : m ≤ 64
    · rw [show min m 64 = m by omega]
    · rw [show min m 64 = 64 by omega, show m = 64 + (m - 64) by omega, Nat.pow_add, show (2 : Nat) ^ 64 = 18446744073709551616 by decide, Nat.mul_mod_left, ← Nat.mul_assoc, Nat.mul_right_comm, Nat.mul_mod_left]
  rw [e2, show ((0 : Int)) = ((0 : Nat) : Int) by rfl, wid_nat, Nat.add_zero]
  have e3 : 2 ^ (64 + m) * (H * 18446744073709551616 + L) = (L * 2 ^ m) * 18446744073709551616 + 2 ^ 128 * (H * 2 ^ m) := by
    rw [Nat.pow_add, show (2 : Nat) ^ 64 = 18446744073709551616 by decide, show (2 : Nat) ^ 128 = 18446744073709551616 * 18446744073709551616 by decide]
    grind
  rw [e3, Nat.add_mul_mod_self_left, show (2 : Nat) ^ 128 = 18446744073709551616 * 18446744073709551616 by decide, Nat.mul_mod_mul_right]
theorem shr_big (ah al n : Int) (a0 : 0 ≤ ah) (a1 : ah < 18446744073709551616) (a2 : 0 ≤ al) (a3 : al < 18446744073709551616) (n0 : 64 ≤ n) :
    ∃ l : Int, ah / 2 ^ min (n - 64).toNat 64 = l ∧ 0 ≤ l ∧ l < 18446744073709551616 ∧ wid 0 l = wid ah al / 2 ^ n.toNat := by
  obtain ⟨H, rfl⟩ := Int.eq_ofNat_of_zero_le a0
  obtain ⟨L, rfl⟩ := Int.eq_ofNat_of_zero_le a2
  obtain ⟨m, hm⟩ : ∃ m : Nat, n = 64 + m := ⟨(n - 64).toNat, by omega⟩
  subst hm
  rw [show ((64 : Int) + (m : Int) - 64).toNat = m by omega, show ((64 : Int) + (m : Int)).toNat = 64 + m by omega]
  have e1 : (H : Int) / 2 ^ min m 64 = ((H / 2 ^ min m 64 : Nat) : Int) := by push_cast; rfl
  rw [e1, wid_nat]
  have t : H / 2 ^ min m 64 < 18446744073709551616 := Nat.lt_of_le_of_lt (Nat.div_le_self _ _) (by omega)
  refine ⟨_, rfl, Int.natCast_nonneg _, cast_lt _ t, ?_⟩
  have e2 : H / 2 ^ min m 64 = H / 2 ^ m := by
    by_cases h : m ≤ 64
    · rw [show min m 64 = m by omega]
    · have h1 : H < 2 ^ 64 := by omega
      have h2 : (2 : Nat) ^ 64 ≤ 2 ^ m := Nat.pow_le_pow_right (by decide) (by omega)
      rw [show min m 64 = 64 by omega, Nat.div_eq_of_lt h1, Nat.div_eq_of_lt (by omega)]
  rw [e2, show ((0 : Int)) = ((0 : Nat) : Int) by rfl, wid_nat, Nat.zero_mul, Nat.zero_add, Nat.pow_add, ← Nat.div_div_eq_div_mul]
  rw [show (2 : Nat) ^ 64 = 18446744073709551616 by decide]
  congr 1
  omega
theorem lost_wid (A n : Nat) (h : A < 2 ^ 128) : (2 ^ n * (A / 2 ^ n) % 2 ^ 128 ≠ A) ↔ A % 2 ^ n ≠ 0 := by
  have e := Nat.div_add_mod A (2 ^ n)
  have : 2 ^ n * (A / 2 ^ n) ≤ A := Nat.mul_div_le _ _
  rw [Nat.mod_eq_of_lt (by omega)]
  omega
theorem wid_inj (h l h' l' : Int) (a0 : 0 ≤ h) (a1 : h < 18446744073709551616) (a2 : 0 ≤ l) (a3 : l < 18446744073709551616) (b0 : 0 ≤ h') (b1 : h' < 18446744073709551616) (b2 : 0 ≤ l') (b3 : l' < 18446744073709551616) (e : wid h l = wid h' l') : h = h' ∧ l = l' := by
  unfold wid at e; omega
end Go.Proofs.YtpakpgjbgehhjaaGreat

/-
  What the functions of package wide return, as whole numbers: products, sums, differences modulo 2^128 and what is carried; which is greater; how many bits; shifted up and down.
-/
namespace Go.Proofs.YtpakpgjbgehhjaaGreat
open Go.RowKit
set_option linter.unusedVariables false

theorem wMul (x y : Int) (w : World) (hx0 : 0 ≤ x) (hx : x < 18446744073709551616) (hy0 : 0 ≤ y) (hy : y < 18446744073709551616) :
    Calls Tryz.prog 94 #[.int .u64 x, .int .u64 y] w fun e w' => ∃ h l, e = .returned (.agg #[.int .u64 h, .int .u64 l]) ∧ 0 ≤ h ∧ h < 18446744073709551616 ∧ 0 ≤ l ∧ l < 18446744073709551616 ∧ wid h l = x.toNat * y.toNat ∧ Below w.heap.size w w' := by
  have E : Hid (0 ≤ x * y / 18446744073709551616 ∧ x * y / 18446744073709551616 < 18446744073709551616 ∧ wid (x * y / 18446744073709551616) (x * y % 18446744073709551616) = x.toNat * y.toNat) := by
    obtain ⟨X, rfl⟩ := Int.eq_ofNat_of_zero_le hx0
    obtain ⟨Y, rfl⟩ := Int.eq_ofNat_of_zero_le hy0
    rw [← Int.natCast_mul]
    have hb : X * Y < 18446744073709551616 * 18446744073709551616 := Nat.mul_lt_mul'' (by omega) (by omega)
    unfold wid
    rw [Int.toNat_natCast, Int.toNat_natCast]
    generalize X * Y = Z at *
    refine ⟨by omega, by omega, by omega⟩
  go_enter Tryz.func94, Tryz.ntmps94
  go_wp2_with fail
  refine (mul64_any _ _ _ hx0 hx hy0 hy).mono ?_
  rintro e w' ⟨rfl, rfl⟩
  have hl0 : 0 ≤ x * y % 18446744073709551616 := by omega
  have hl1 : x * y % 18446744073709551616 < 18446744073709551616 := by omega
  generalize x * y / 18446744073709551616 = h at *
  generalize x * y % 18446744073709551616 = l at *
  go_wp2
  refine bodyPost_ret (v := .agg #[.int .u64 h, .int .u64 l]) (by simp [results, Tryz.results94, go_sem]) rfl ⟨h, l, rfl, E.out.1, E.out.2.1, hl0, hl1, E.out.2.2, (Below.refl _ _).alloc (Nat.le_refl _) _⟩
theorem wAdd (ah al ch cl : Int) (w : World) (a0 : 0 ≤ ah) (a1 : ah < 18446744073709551616) (a2 : 0 ≤ al) (a3 : al < 18446744073709551616) (c0 : 0 ≤ ch) (c1 : ch < 18446744073709551616) (c2 : 0 ≤ cl) (c3 : cl < 18446744073709551616) :
    Calls Tryz.prog 95 #[.agg #[.int .u64 ah, .int .u64 al], .agg #[.int .u64 ch, .int .u64 cl]] w fun e w' => ∃ h l, e = .returned (.tuple #[.agg #[.int .u64 h, .int .u64 l], .bool (decide (2 ^ 128 ≤ wid ah al + wid ch cl))]) ∧ 0 ≤ h ∧ h < 18446744073709551616 ∧ 0 ≤ l ∧ l < 18446744073709551616 ∧ wid h l = (wid ah al + wid ch cl) % 2 ^ 128 ∧ Below w.heap.size w w' := by
  have k0 : 0 ≤ (al + cl) / 18446744073709551616 := by omega
  have k1 : (al + cl) / 18446744073709551616 ≤ 1 := by omega
  have f1 := add64 al cl 0 a2 c2 (by omega) (by omega)
  rw [Int.add_zero] at f1
  have f2 := add64 ah ch _ a0 c0 k0 k1
  go_enter Tryz.func95, Tryz.ntmps95
  go_wp2
  refine bodyPost_ret (v := .tuple #[.agg #[.int .u64 ((ah + ch + (al + cl) / 18446744073709551616) % 18446744073709551616), .int .u64 ((al + cl) % 18446744073709551616)], .bool ((ah + ch + (al + cl) / 18446744073709551616) / 18446744073709551616 != 0)]) (by simp [results, Tryz.results95, go_sem]) rfl ⟨_, _, ret_eq (tup2 rfl (bool_eq ?_)), by omega, by omega, by omega, by omega, ?_, (((Below.refl _ _).alloc (Nat.le_refl _) _).alloc (by simp) _).alloc (by simp; omega) _⟩
  · rw [Bool.eq_iff_iff, bne_iff_ne, decide_eq_true_eq]; unfold wid; omega
  · unfold wid; omega
theorem wSub (ah al ch cl : Int) (w : World) (a0 : 0 ≤ ah) (a1 : ah < 18446744073709551616) (a2 : 0 ≤ al) (a3 : al < 18446744073709551616) (c0 : 0 ≤ ch) (c1 : ch < 18446744073709551616) (c2 : 0 ≤ cl) (c3 : cl < 18446744073709551616) :
    Calls Tryz.prog 119 #[.agg #[.int .u64 ah, .int .u64 al], .agg #[.int .u64 ch, .int .u64 cl]] w fun e w' => ∃ h l, e = .returned (.tuple #[.agg #[.int .u64 h, .int .u64 l], .bool (decide (wid ah al < wid ch cl))]) ∧ 0 ≤ h ∧ h < 18446744073709551616 ∧ 0 ≤ l ∧ l < 18446744073709551616 ∧ wid h l = (2 ^ 128 + wid ah al - wid ch cl) % 2 ^ 128 ∧ Below w.heap.size w w' := by
  have k := bor_bd al cl
  have f1 := sub64 al cl 0 a2 c2 c3 (by omega) (by omega)
  rw [Int.add_zero, Int.sub_zero] at f1
  have f2 := sub64 ah ch _ a0 c0 c1 k.1 k.2
  have kk := bor_bd ah (ch + bor al cl)
  have K1 : Hid (bor al cl = if al < cl then 1 else 0) := rfl
  have K2 : Hid (bor ah (ch + bor al cl) = if ah < ch + bor al cl then 1 else 0) := rfl
  generalize bor ah (ch + bor al cl) = t at *
  generalize bor al cl = s at *
  go_enter Tryz.func119, Tryz.ntmps119
  go_wp2
  refine bodyPost_ret (v := .tuple #[.agg #[.int .u64 ((ah - ch - s) % 18446744073709551616), .int .u64 ((al - cl) % 18446744073709551616)], .bool (t != 0)]) (by simp [results, Tryz.results119, go_sem]) rfl ⟨_, _, ret_eq (tup2 rfl (bool_eq ?_)), by omega, by omega, by omega, by omega, ?_, (((Below.refl _ _).alloc (Nat.le_refl _) _).alloc (by simp) _).alloc (by simp; omega) _⟩
  · have e1 := K1.out
    have e2 := K2.out
    rw [Bool.eq_iff_iff, bne_iff_ne, decide_eq_true_eq]; unfold wid
    split at e1 <;> split at e2 <;> omega
  · have e1 := K1.out
    unfold wid
    split at e1 <;> omega
theorem wZero (ah al : Int) (w : World) (a0 : 0 ≤ ah) (a1 : ah < 18446744073709551616) (a2 : 0 ≤ al) (a3 : al < 18446744073709551616) :
    Calls Tryz.prog 113 #[.agg #[.int .u64 ah, .int .u64 al]] w fun e w' => e = .returned (.bool (decide (wid ah al = 0))) ∧ Below w.heap.size w w' := by
  go_enter Tryz.func113, Tryz.ntmps113
  go_wp2
  all_goals go_ret
  all_goals refine ⟨ret_eq (bool_eq ?_), (Below.refl _ _).alloc (Nat.le_refl _) _⟩
  all_goals (unfold wid; rw [eq_comm]; first | (rw [decide_eq_true_eq]; omega) | (rw [decide_eq_false_iff_not]; omega))
theorem len_hi (h l : Nat) (hh : h ≠ 0) (hl : l < 18446744073709551616) : (bl (h * 18446744073709551616 + l)).length = 64 + (bl h).length := by
  have h1 := (bl_length_le h (bl h).length).1 (Nat.le_refl _)
  have hp : 0 < (bl h).length := by have := bl_nil_iff h; omega
  have h2 := (bl_length_lt h ((bl h).length - 1)).1 (by omega)
  have e1 : (bl (h * 18446744073709551616 + l)).length ≤ 64 + (bl h).length := by
    rw [bl_length_le, Nat.pow_add]
    have : (h + 1) * 18446744073709551616 ≤ 2 ^ (bl h).length * 18446744073709551616 := Nat.mul_le_mul_right _ (by omega)
    rw [show (2 : Nat) ^ 64 = 18446744073709551616 by decide]
    omega
  have e2 : 64 + ((bl h).length - 1) < (bl (h * 18446744073709551616 + l)).length := by
    rw [bl_length_lt, Nat.pow_add]
    have : 2 ^ ((bl h).length - 1) * 18446744073709551616 ≤ h * 18446744073709551616 := Nat.mul_le_mul_right _ h2
    rw [show (2 : Nat) ^ 64 = 18446744073709551616 by decide]
    omega
  omega
theorem wLen (ah al : Int) (w : World) (a0 : 0 ≤ ah) (a1 : ah < 18446744073709551616) (a2 : 0 ≤ al) (a3 : al < 18446744073709551616) :
    Calls Tryz.prog 115 #[.agg #[.int .u64 ah, .int .u64 al]] w fun e w' => e = .returned (.int .i64 ((bl (wid ah al)).length : Nat)) ∧ Below w.heap.size w w' := by
  have hl1 : (bl ah.toNat).length ≤ 64 := (bl_length_le _ 64).2 (by omega)
  by_cases h : ah = 0
  · have E : Hid (bl (wid ah al) = bl al.toNat) := by show _ = _; unfold wid; rw [h]; simp
    have h' : (ah != 0) = false := by simp [h]
    go_enter Tryz.func115, Tryz.ntmps115
    go_wp2_with (go_at_call 121; refine (len64_any al _ a2 a3).mono ?_; rintro e w' ⟨rfl, rfl⟩)
    go_ret
    refine ⟨ret_eq (int_eq ?_), (Below.refl _ _).alloc (Nat.le_refl _) _⟩
    rw [E.out]
  · have E : Hid ((bl (wid ah al)).length = 64 + (bl ah.toNat).length) := by
      show _ = _
      have := len_hi ah.toNat al.toNat (by omega) (by omega)
      rw [← this]
      unfold wid
      congr 2
      omega
    have h' : (ah != 0) = true := by rw [bne_iff_ne]; exact h
    go_enter Tryz.func115, Tryz.ntmps115
    go_wp2_with (go_at_call 121; refine (len64_any ah _ a0 a1).mono ?_; rintro e w' ⟨rfl, rfl⟩)
    go_ret
    refine ⟨ret_eq (int_eq ?_), (Below.refl _ _).alloc (Nat.le_refl _) _⟩
    rw [E.out]; rfl
theorem wLeft (ah al n : Int) (w : World) (a0 : 0 ≤ ah) (a1 : ah < 18446744073709551616) (a2 : 0 ≤ al) (a3 : al < 18446744073709551616) (n1 : n ≤ 9223372036854775807) :
    Calls Tryz.prog 78 #[.agg #[.int .u64 ah, .int .u64 al], .int .i64 n] w fun e w' => ∃ h l, e = .returned (.agg #[.int .u64 h, .int .u64 l]) ∧ 0 ≤ h ∧ h < 18446744073709551616 ∧ 0 ≤ l ∧ l < 18446744073709551616 ∧ wid h l = 2 ^ n.toNat * wid ah al % 2 ^ 128 ∧ Below w.heap.size w w' := by
  by_cases h0 : n ≤ 0
  · have E : Hid (wid ah al = 2 ^ n.toNat * wid ah al % 2 ^ 128) := by
      show _ = _
      have := wid_lt ah al a0 a1 a2 a3
      rw [show n.toNat = 0 by omega]
      rw [Nat.pow_zero, Nat.one_mul, Nat.mod_eq_of_lt this]
    go_enter Tryz.func78, Tryz.ntmps78
    go_wp2
    exact bodyPost_ret (v := .agg #[.int .u64 ah, .int .u64 al]) (by simp [results, Tryz.results78, go_sem]) rfl ⟨_, _, rfl, a0, a1, a2, a3, E.out, ((Below.refl _ _).alloc (Nat.le_refl _) _).alloc (by simp) _⟩
  · by_cases h1 : n < 64
    · obtain ⟨h, l, e1, e2, g0, g1, g2, g3, g4⟩ := shl_mid ah al n a0 a1 a2 a3 (by omega) h1
      have E1 : Hid (_ = _) := e1
      have E2 : Hid (_ = _) := e2
      have E3 : Hid (_ = _) := g4
      clear e1 e2 g4
      go_enter Tryz.func78, Tryz.ntmps78
      go_wp2
      go_region
      all_goals go_wp2
      rw [E1.out, E2.out]
      exact bodyPost_ret (v := .agg #[.int .u64 h, .int .u64 l]) (by simp [results, Tryz.results78, go_sem]) rfl ⟨_, _, rfl, g0, g1, g2, g3, E3.out, (((Below.refl _ _).alloc (Nat.le_refl _) _).alloc (by simp) _).drew⟩
    · obtain ⟨h, e1, g0, g1, g4⟩ := shl_big ah al n a0 a2 (by omega)
      have E1 : Hid (_ = _) := e1
      have E3 : Hid (_ = _) := g4
      clear e1 g4
      go_enter Tryz.func78, Tryz.ntmps78
      go_wp2
      rw [E1.out]
      exact bodyPost_ret (v := .agg #[.int .u64 h, .int .u64 0]) (by simp [results, Tryz.results78, go_sem]) rfl ⟨_, _, rfl, g0, g1, by omega, by omega, E3.out, ((Below.refl _ _).alloc (Nat.le_refl _) _).alloc (by simp) _⟩
theorem wDown (ah al n : Int) (w : World) (a0 : 0 ≤ ah) (a1 : ah < 18446744073709551616) (a2 : 0 ≤ al) (a3 : al < 18446744073709551616) (n1 : n ≤ 9223372036854775807) :
    Calls Tryz.prog 122 #[.agg #[.int .u64 ah, .int .u64 al], .int .i64 n] w fun e w' => ∃ h l, e = .returned (.agg #[.int .u64 h, .int .u64 l]) ∧ 0 ≤ h ∧ h < 18446744073709551616 ∧ 0 ≤ l ∧ l < 18446744073709551616 ∧ wid h l = wid ah al / 2 ^ n.toNat ∧ Below w.heap.size w w' := by
  by_cases h0 : n ≤ 0
  · have E : Hid (wid ah al = wid ah al / 2 ^ n.toNat) := by
      show _ = _
      have := wid_lt ah al a0 a1 a2 a3
      rw [show n.toNat = 0 by omega]
      rw [Nat.pow_zero, Nat.div_one]
    go_enter Tryz.func122, Tryz.ntmps122
    go_wp2
    exact bodyPost_ret (v := .agg #[.int .u64 ah, .int .u64 al]) (by simp [results, Tryz.results122, go_sem]) rfl ⟨_, _, rfl, a0, a1, a2, a3, E.out, ((Below.refl _ _).alloc (Nat.le_refl _) _).alloc (by simp) _⟩
  · by_cases h1 : n < 64
    · obtain ⟨h, l, e1, e2, g0, g1, g2, g3, g4⟩ := shr_mid ah al n a0 a1 a2 a3 (by omega) h1
      have E1 : Hid (_ = _) := e1
      have E2 : Hid (_ = _) := e2
      have E3 : Hid (_ = _) := g4
      clear e1 e2 g4
      go_enter Tryz.func122, Tryz.ntmps122
      go_wp2
      go_region
      all_goals go_wp2
      rw [E1.out, E2.out]
      exact bodyPost_ret (v := .agg #[.int .u64 h, .int .u64 l]) (by simp [results, Tryz.results122, go_sem]) rfl ⟨_, _, rfl, g0, g1, g2, g3, E3.out, (((Below.refl _ _).alloc (Nat.le_refl _) _).alloc (by simp) _).drew⟩
    · obtain ⟨l, e1, g0, g1, g4⟩ := shr_big ah al n a0 a1 a2 a3 (by omega)
      have E1 : Hid (_ = _) := e1
      have E3 : Hid (_ = _) := g4
      clear e1 g4
      go_enter Tryz.func122, Tryz.ntmps122
      go_wp2
      rw [E1.out]
      exact bodyPost_ret (v := .agg #[.int .u64 0, .int .u64 l]) (by simp [results, Tryz.results122, go_sem]) rfl ⟨_, _, rfl, by omega, by omega, g0, g1, E3.out, ((Below.refl _ _).alloc (Nat.le_refl _) _).alloc (by simp) _⟩
end Go.Proofs.YtpakpgjbgehhjaaGreat

/-
  What wide's Right, Div and Sqrt return: divided by 2^n and whether a 1 fell out; the quotient and what is left; the root and whether it is exact.
-/
namespace Go.Proofs.YtpakpgjbgehhjaaGreat
open Go.RowKit
set_option linter.unusedVariables false

set_option maxHeartbeats 1000000 in
theorem wRight (ah al n : Int) (w : World) (a0 : 0 ≤ ah) (a1 : ah < 18446744073709551616) (a2 : 0 ≤ al) (a3 : al < 18446744073709551616) (n1 : n ≤ 9223372036854775807) :
    Calls Tryz.prog 118 #[.agg #[.int .u64 ah, .int .u64 al], .int .i64 n] w fun e w' => ∃ h l, e = .returned (.tuple #[.agg #[.int .u64 h, .int .u64 l], .bool (lostB (wid ah al) n.toNat)]) ∧ 0 ≤ h ∧ h < 18446744073709551616 ∧ 0 ≤ l ∧ l < 18446744073709551616 ∧ wid h l = wid ah al / 2 ^ n.toNat ∧ Below w.heap.size w w' := by
  go_enter Tryz.func118, Tryz.ntmps118
  go_wp2_with fail
  refine (wDown _ _ _ _ a0 a1 a2 a3 n1).mono ?_
  rintro e w1 ⟨h, l, rfl, g0, g1, g2, g3, g4, hb1⟩
  have f0 := hb1.cell (p := ⟨w.heap.size, 0, none⟩) (by simp; omega)
  have f1 := hb1.cell (p := ⟨w.heap.size, 1, none⟩) (by simp; omega)
  have f2 := hb1.cell (p := ⟨w.heap.size + 1, 0, none⟩) (by simp)
  have f3 := hb1.cell (p := ⟨w.heap.size + 1, 1, none⟩) (by simp)
  have f4 := hb1.frozen (p := ⟨w.heap.size + 1, 0, none⟩) (by simp)
  have f5 := hb1.frozen (p := ⟨w.heap.size + 1, 1, none⟩) (by simp)
  have hz : w.heap.size + 1 < w1.heap.size := by have := hb1.size; simp at this; omega
  simp [go_sem] at f0 f1 f2 f3 f4 f5
  have hz0 : w.heap.size < w1.heap.size := by omega
  have hn0 : ¬ w.heap.size = w1.heap.size := by omega
  have hn1 : ¬ w.heap.size + 1 = w1.heap.size := by omega
  have hn2 : ¬ w1.heap.size = w.heap.size := by omega
  have hn3 : ¬ w1.heap.size = w.heap.size + 1 := by omega
  have hbw : Below w.heap.size w w1 := (((Below.refl _ _).alloc (Nat.le_refl _) _).alloc (by simp) _).trans (hb1.mono (by simp; omega))
  have G : Hid (_ = _) := g4
  clear g4 hb1
  have LW : Hid (∀ h2 l2 : Int, 0 ≤ h2 → h2 < 18446744073709551616 → 0 ≤ l2 → l2 < 18446744073709551616 → wid h2 l2 = 2 ^ n.toNat * wid h l % 2 ^ 128 → (decide (h2 = ah ∧ l2 = al) = !(lostB (wid ah al) n.toNat))) := by
    intro h2 l2 b0 b1 b2 b3 e
    rw [G.out] at e
    have hl := lost_wid (wid ah al) n.toNat (wid_lt ah al a0 a1 a2 a3)
    rw [← e] at hl
    unfold lostB
    rw [Bool.eq_iff_iff, decide_eq_true_eq]
    simp only [Bool.not_eq_true', decide_eq_false_iff_not, ← hl, Decidable.not_not]
    constructor
    · rintro ⟨rfl, rfl⟩; rfl
    · intro e; exact wid_inj h2 l2 ah al b0 b1 b2 b3 a0 a1 a2 a3 e
  obtain ⟨H2, L2, b0, b1, b2, b3, e4⟩ : ∃ H2 L2 : Int, 0 ≤ H2 ∧ H2 < 18446744073709551616 ∧ 0 ≤ L2 ∧ L2 < 18446744073709551616 ∧ wid H2 L2 = 2 ^ n.toNat * wid h l % 2 ^ 128 := by
    refine ⟨((2 ^ n.toNat * wid h l % 2 ^ 128 / 18446744073709551616 : Nat) : Int), ((2 ^ n.toNat * wid h l % 2 ^ 128 % 18446744073709551616 : Nat) : Int), ?_⟩
    have : 2 ^ n.toNat * wid h l % 2 ^ 128 < 2 ^ 128 := Nat.mod_lt _ (by decide)
    generalize 2 ^ n.toNat * wid h l % 2 ^ 128 = X at *
    unfold wid
    refine ⟨by omega, by omega, by omega, by omega, by omega⟩
  have lw := LW.out H2 L2 b0 b1 b2 b3 e4
  have E4 : Hid (_ = _) := e4
  clear e4 LW
  by_cases p1 : H2 = ah
  · by_cases p2 : L2 = al
    · subst p1 p2
      have hlo : Hid (lostB (wid H2 L2) n.toNat = false) := by show _ = _; simpa using lw
      clear lw
      go_wp2_with fail
      go_region_held3 (fun w' => w'.cell? ⟨w.heap.size, 0, none⟩ = some (.int .u64 H2) ∧ w'.cell? ⟨w.heap.size, 1, none⟩ = some (.int .u64 L2) ∧ w'.cell? ⟨w1.heap.size, 0, none⟩ = some (.int .u64 h) ∧ w'.cell? ⟨w1.heap.size, 1, none⟩ = some (.int .u64 l)) (simp [go_sem, *])
        (first | (go_at_call 78; refine (wLeft _ _ _ _ g0 g1 g2 g3 n1).mono ?_; rintro e w2 ⟨h2, l2, rfl, k0, k1, k2, k3, k4, hb2⟩; have hbx : Below w1.heap.size w1 w2 := ((((Below.refl _ _).alloc (Nat.le_refl _) _).drew).trans (hb2.mono (by simp))); have q0 := cell_later hbx f0; have q1 := cell_later hbx f1; have q2 := cell_later hbx f2; have q3 := cell_later hbx f3; have q4 := (hbx.frozen (p := ⟨w.heap.size + 1, 0, none⟩) (by simp; omega)).trans f4; have q5 := (hbx.frozen (p := ⟨w.heap.size + 1, 1, none⟩) (by simp; omega)).trans f5; have q6 := hb2.cell (p := ⟨w1.heap.size, 0, none⟩) (by simp); have q7 := hb2.cell (p := ⟨w1.heap.size, 1, none⟩) (by simp); simp [go_sem] at q6 q7; have hz2 := hbx.size; obtain ⟨rfl, rfl⟩ := wid_inj h2 l2 H2 L2 k0 k1 k2 k3 b0 b1 b2 b3 (k4.trans E4.out.symm); clear k4 hb2))
      go_wp2
      refine bodyPost_ret (v := .tuple #[.agg #[.int .u64 h, .int .u64 l], .bool false]) (by simp [results, Tryz.results118, go_sem, *]) rfl ⟨_, _, ret_eq (tup2 rfl (bool_eq hlo.out.symm)), g0, g1, g2, g3, G.out, ((hbw.trans (hbx.mono (by omega))).setCell (by simp) _).setCell (by simp) _⟩
    · subst p1
      have hlo : Hid (lostB (wid H2 al) n.toNat = true) := by show _ = _; simpa [p2] using lw
      clear lw
      go_wp2_with fail
      go_region_held3 (fun w' => w'.cell? ⟨w.heap.size, 0, none⟩ = some (.int .u64 H2) ∧ w'.cell? ⟨w.heap.size, 1, none⟩ = some (.int .u64 al) ∧ w'.cell? ⟨w1.heap.size, 0, none⟩ = some (.int .u64 h) ∧ w'.cell? ⟨w1.heap.size, 1, none⟩ = some (.int .u64 l)) (simp [go_sem, *])
        (first | (go_at_call 78; refine (wLeft _ _ _ _ g0 g1 g2 g3 n1).mono ?_; rintro e w2 ⟨h2, l2, rfl, k0, k1, k2, k3, k4, hb2⟩; have hbx : Below w1.heap.size w1 w2 := ((((Below.refl _ _).alloc (Nat.le_refl _) _).drew).trans (hb2.mono (by simp))); have q0 := cell_later hbx f0; have q1 := cell_later hbx f1; have q2 := cell_later hbx f2; have q3 := cell_later hbx f3; have q4 := (hbx.frozen (p := ⟨w.heap.size + 1, 0, none⟩) (by simp; omega)).trans f4; have q5 := (hbx.frozen (p := ⟨w.heap.size + 1, 1, none⟩) (by simp; omega)).trans f5; have q6 := hb2.cell (p := ⟨w1.heap.size, 0, none⟩) (by simp); have q7 := hb2.cell (p := ⟨w1.heap.size, 1, none⟩) (by simp); simp [go_sem] at q6 q7; have hz2 := hbx.size; obtain ⟨rfl, rfl⟩ := wid_inj h2 l2 H2 L2 k0 k1 k2 k3 b0 b1 b2 b3 (k4.trans E4.out.symm); clear k4 hb2))
      go_wp2
      refine bodyPost_ret (v := .tuple #[.agg #[.int .u64 h, .int .u64 l], .bool true]) (by simp [results, Tryz.results118, go_sem, *]) rfl ⟨_, _, ret_eq (tup2 rfl (bool_eq hlo.out.symm)), g0, g1, g2, g3, G.out, ((hbw.trans (hbx.mono (by omega))).setCell (by simp) _).setCell (by simp) _⟩
  · have hlo : Hid (lostB (wid ah al) n.toNat = true) := by show _ = _; simpa [p1] using lw
    clear lw
    go_wp2_with fail
    go_region_held3 (fun w' => w'.cell? ⟨w.heap.size, 0, none⟩ = some (.int .u64 ah) ∧ w'.cell? ⟨w.heap.size, 1, none⟩ = some (.int .u64 al) ∧ w'.cell? ⟨w1.heap.size, 0, none⟩ = some (.int .u64 h) ∧ w'.cell? ⟨w1.heap.size, 1, none⟩ = some (.int .u64 l)) (simp [go_sem, *])
      (first | (go_at_call 78; refine (wLeft _ _ _ _ g0 g1 g2 g3 n1).mono ?_; rintro e w2 ⟨h2, l2, rfl, k0, k1, k2, k3, k4, hb2⟩; have hbx : Below w1.heap.size w1 w2 := ((((Below.refl _ _).alloc (Nat.le_refl _) _).drew).trans (hb2.mono (by simp))); have q0 := cell_later hbx f0; have q1 := cell_later hbx f1; have q2 := cell_later hbx f2; have q3 := cell_later hbx f3; have q4 := (hbx.frozen (p := ⟨w.heap.size + 1, 0, none⟩) (by simp; omega)).trans f4; have q5 := (hbx.frozen (p := ⟨w.heap.size + 1, 1, none⟩) (by simp; omega)).trans f5; have q6 := hb2.cell (p := ⟨w1.heap.size, 0, none⟩) (by simp); have q7 := hb2.cell (p := ⟨w1.heap.size, 1, none⟩) (by simp); simp [go_sem] at q6 q7; have hz2 := hbx.size; obtain ⟨rfl, rfl⟩ := wid_inj h2 l2 H2 L2 k0 k1 k2 k3 b0 b1 b2 b3 (k4.trans E4.out.symm); clear k4 hb2))
    go_wp2
    refine bodyPost_ret (v := .tuple #[.agg #[.int .u64 h, .int .u64 l], .bool true]) (by simp [results, Tryz.results118, go_sem, *]) rfl ⟨_, _, ret_eq (tup2 rfl (bool_eq hlo.out.symm)), g0, g1, g2, g3, G.out, ((hbw.trans (hbx.mono (by omega))).setCell (by simp) _).setCell (by simp) _⟩
end Go.Proofs.YtpakpgjbgehhjaaGreat

/-
  What wide's Sqrt returns: the greatest whole number whose square is at most the number, and whether it is its square. All numbers below 2^128.
-/
namespace Go.Proofs.YtpakpgjbgehhjaaGreat
open Go.RowKit
set_option linter.unusedVariables false

end Go.Proofs.YtpakpgjbgehhjaaGreat

/-
  The plain arithmetic of dividing two words by one, digit by digit of 32 bits (no program in sight): a guess that is too great by at most two, mended step by step.
-/
namespace Go.Proofs.YtpakpgjbgehhjaaGreat
set_option linter.unusedVariables false

/-- One digit: T = U b + u, divided by Y = A b + B, where U < Y: the true digit Q = T / Y. What holds at the loop's head. -/
structure Digit (b A B U u q r : Nat) : Prop where
  sum : q * A + r = U
  ge : (U * b + u) / (A * b + B) ≤ q
  le : q ≤ b + 1
  lt : r < b
section
variable {b A B U u q r : Nat}
theorem digit_lt (hb : 0 < b) (hA : 0 < A) (hU : U < A * b + B) (hu : u < b) : (U * b + u) / (A * b + B) < b := by
  rw [Nat.div_lt_iff_lt_mul (by have := Nat.mul_pos hA hb; omega)]
  have : (U + 1) * b ≤ (A * b + B) * b := Nat.mul_le_mul_right _ hU
  rw [Nat.add_mul, Nat.one_mul] at this
  rw [Nat.mul_comm b]
  omega
theorem Digit.start (hA : 0 < A) (h2 : b ≤ 2 * A) (hAb : A < b) (hB : B < b) (hU : U < A * b + B) (hu : u < b) : Digit b A B U u (U / A) (U % A) := by
  have hb : 0 < b := by omega
  have hm := Nat.mod_lt U hA
  have hd := Nat.div_add_mod U A
  refine ⟨?_, ?_, ?_, by omega⟩
  · rw [Nat.mul_comm]; exact hd
  · have h1 : (U * b + u) / (A * b + B) ≤ (U * b + u) / (A * b) := Nat.div_le_div_left (by omega) (Nat.mul_pos hA hb)
    have h3 : (U * b + u) / (A * b) = U / A := by
      rw [Nat.mul_comm A b, ← Nat.div_div_eq_div_mul, Nat.add_comm, Nat.add_mul_div_right _ _ hb, Nat.div_eq_of_lt hu, Nat.zero_add]
    omega
  · have : U / A < b + 2 := by
      rw [Nat.div_lt_iff_lt_mul hA, Nat.add_mul, Nat.mul_comm b]
      omega
    omega
/-- The test says that the guess is too great. -/
theorem Digit.test (h : Digit b A B U u q r) : (A * b + B) * q > U * b + u ↔ b * r + u < q * B := by
  have e := h.sum
  have e2 : (A * b + B) * q = q * A * b + q * B := by rw [Nat.add_mul]; grind
  have e3 : U * b = q * A * b + b * r := by rw [← e]; grind
  rw [e2, e3]
  omega
theorem Digit.too_great (h : Digit b A B U u q r) (hA : 0 < A) (hb : 0 < b) : (U * b + u) / (A * b + B) < q ↔ b * r + u < q * B := by
  rw [Nat.div_lt_iff_lt_mul (by have := Nat.mul_pos hA hb; omega), Nat.mul_comm q, ← h.test]
theorem Digit.step (h : Digit b A B U u q r) (hq : (U * b + u) / (A * b + B) < q) (hr : r + A < b) : Digit b A B U u (q - 1) (r + A) := by
  have e := h.sum
  have l := h.le
  have hq0 : 0 < q := Nat.lt_of_le_of_lt (Nat.zero_le _) hq
  obtain ⟨k, rfl⟩ : ∃ k, q = k + 1 := ⟨q - 1, by omega⟩
  refine ⟨?_, by rw [Nat.add_sub_cancel]; omega, by omega, hr⟩
  rw [Nat.add_sub_cancel, ← e, Nat.add_mul]
  omega
/-- Where what is left has become too great, the guess is right. -/
theorem Digit.broke (h : Digit b A B U u q r) (hA : 0 < A) (hb : 0 < b) (hB : B < b) (hq : (U * b + u) / (A * b + B) < q) (hr : b ≤ r + A) : q - 1 = (U * b + u) / (A * b + B) := by
  have e := h.sum
  have l := h.le
  have hq0 : 0 < q := Nat.lt_of_le_of_lt (Nat.zero_le _) hq
  obtain ⟨k, rfl⟩ : ∃ k, q = k + 1 := ⟨q - 1, by omega⟩
  rw [Nat.add_sub_cancel]
  have hk : k ≤ (U * b + u) / (A * b + B) := by
    rw [Nat.le_div_iff_mul_le (by have := Nat.mul_pos hA hb; omega)]
    have e2 : k * (A * b + B) = k * A * b + k * B := by grind
    have e3 : U * b = k * A * b + (r + A) * b := by rw [← e]; grind
    have e4 : k * B ≤ b * b := Nat.mul_le_mul (by omega) (by omega)
    have e5 : b * b ≤ (r + A) * b := Nat.mul_le_mul_right _ hr
    rw [e2, e3]
    omega
  omega
end
/-- Both digits together. -/
theorem two_digits (b Y U u1 u0 : Nat) (hY : 0 < Y) (hb : 0 < b) : ((U * b + u1) / Y) * b + ((U * b + u1) % Y * b + u0) / Y = ((U * b + u1) * b + u0) / Y ∧ ((U * b + u1) % Y * b + u0) % Y = ((U * b + u1) * b + u0) % Y := by
  have e := Nat.div_add_mod (U * b + u1) Y
  have k : (U * b + u1) * b + u0 = ((U * b + u1) % Y * b + u0) + Y * ((U * b + u1) / Y * b) := by
    conv => lhs; rw [← e]
    grind
  rw [k, Nat.add_mul_div_left _ _ hY, Nat.add_mul_mod_self_left]
  refine ⟨by omega, rfl⟩
/-- What is left of a digit, reckoned with wraps. -/
theorem rest_wrap (U u q Y : Int) (R : Nat) (hR : (R : Int) = U * 4294967296 + u - q * Y) (hlt : R < 18446744073709551616) :
    IntKind.u64.wrap (IntKind.u64.wrap (IntKind.u64.wrap (U * 4294967296) + u) - IntKind.u64.wrap (q * Y)) = (R : Int) := by
  simp only [IntKind.wrap_u64]
  generalize q * Y = Z at *
  omega
/-- The divisor and both words shifted up, so that the divisor's highest bit is 1. -/
theorem div_norm (hi lo y : Int) (s : Nat) (h0 : 0 < hi) (h1 : hi < y) (l0 : 0 ≤ lo) (l1 : lo < 18446744073709551616) (y1 : y < 18446744073709551616) (hs : s + (bl y.toNat).length = 64) (hs1 : s ≤ 62) :
    ∃ Y U L : Int, IntKind.u64.wrap (y * 2 ^ s) = Y ∧ bits .or .u64 (IntKind.u64.wrap (hi * 2 ^ s)) (lo / 2 ^ (64 - s)) = U ∧ IntKind.u64.wrap (lo * 2 ^ s) = L ∧
      9223372036854775808 ≤ Y ∧ Y < 18446744073709551616 ∧ 0 ≤ U ∧ U < Y ∧ 0 ≤ L ∧ L < 18446744073709551616 ∧ Y.toNat = 2 ^ s * y.toNat ∧ U.toNat * 18446744073709551616 + L.toNat = 2 ^ s * wid hi lo := by
  obtain ⟨H, rfl⟩ := Int.eq_ofNat_of_zero_le (Int.le_of_lt h0)
  obtain ⟨l, rfl⟩ := Int.eq_ofNat_of_zero_le l0
  obtain ⟨v, rfl⟩ := Int.eq_ofNat_of_zero_le (show 0 ≤ y by omega)
  rw [Int.toNat_natCast] at hs
  have hv1 := (bl_length_le v (bl v).length).1 (Nat.le_refl _)
  have hv2 := (bl_length_lt v ((bl v).length - 1)).1 (by omega)
  have hp := Nat.two_pow_pos s
  have p1 : (2 : Nat) ^ s * 2 ^ (bl v).length = 18446744073709551616 := by rw [← Nat.pow_add, hs]
  have p2 : (2 : Nat) ^ s * 2 ^ ((bl v).length - 1) = 9223372036854775808 := by rw [← Nat.pow_add, show s + ((bl v).length - 1) = 63 by omega]
  have b1 : 2 ^ s * v < 18446744073709551616 := by rw [← p1]; exact Nat.mul_lt_mul_of_pos_left hv1 hp
  have b2 : 9223372036854775808 ≤ 2 ^ s * v := by rw [← p2]; exact Nat.mul_le_mul_left _ hv2
  have e1 : (v : Int) * 2 ^ s = ((2 ^ s * v : Nat) : Int) := by rw [Nat.mul_comm]; push_cast; rfl
  have e2 : (l : Int) * 2 ^ s = ((l * 2 ^ s : Nat) : Int) := by push_cast; rfl
  have e3 : (H : Int) * 2 ^ s = ((H * 2 ^ s : Nat) : Int) := by push_cast; rfl
  have e4 : (l : Int) / 2 ^ (64 - s) = ((l / 2 ^ (64 - s) : Nat) : Int) := by push_cast; rfl
  have hPQ := pow_split s (by omega)
  have hQ := Nat.two_pow_pos (64 - s)
  have hH : 2 ^ s * H + 2 ^ s ≤ 2 ^ s * v := by
    have : 2 ^ s * (H + 1) ≤ 2 ^ s * v := Nat.mul_le_mul_left _ (by omega)
    rw [Nat.mul_add, Nat.mul_one] at this
    exact this
  have q2 : l / 2 ^ (64 - s) < 2 ^ s := (Nat.div_lt_iff_lt_mul hQ).2 (by rw [hPQ]; omega)
  have m1 : H * 2 ^ s % 18446744073709551616 = 2 ^ s * H := by rw [Nat.mul_comm]; exact Nat.mod_eq_of_lt (by omega)
  have t2 : l / 2 ^ (64 - s) < 18446744073709551616 := Nat.lt_of_le_of_lt (Nat.div_le_self _ _) (by omega)
  have m2 : l * 2 ^ s % 18446744073709551616 = 2 ^ s * (l % 2 ^ (64 - s)) := by rw [← hPQ, Nat.mul_comm l, Nat.mul_mod_mul_left]
  have t3 : 2 ^ s * (l % 2 ^ (64 - s)) < 18446744073709551616 := by rw [← m2]; omega
  rw [e1, e2, e3, e4, wrap_nat, wrap_nat, wrap_nat, m1, m2, Nat.mod_eq_of_lt b1, or_nat _ _ s (by omega) t2 (Nat.mul_mod_right _ _) q2, wid_nat]
  refine ⟨_, _, _, rfl, rfl, rfl, ?_, ?_, Int.natCast_nonneg _, ?_, Int.natCast_nonneg _, cast_lt _ t3, by rw [Int.toNat_natCast, Int.toNat_natCast], ?_⟩
  · generalize 2 ^ s * v = X at *; omega
  · exact cast_lt _ b1
  · generalize 2 ^ s * v = X at *; generalize l / 2 ^ (64 - s) = Z at *; generalize 2 ^ s * H = W at *; omega
  · rw [Int.toNat_natCast, Int.toNat_natCast]
    have hl := Nat.div_add_mod l (2 ^ (64 - s))
    rw [← hPQ]
    conv => rhs; rw [← hl]
    grind
theorem join32 (U L : Nat) : (U * 4294967296 + L / 4294967296) * 4294967296 + L % 4294967296 = U * 18446744073709551616 + L := by omega
theorem div_fin (s y N U L Y A : Nat) (hp : 0 < y) (hY : Y = 2 ^ s * y) (hN : U * 18446744073709551616 + L = 2 ^ s * N) :
    ((U * 4294967296 + L / 4294967296) / Y) * 4294967296 + ((U * 4294967296 + L / 4294967296) % Y * 4294967296 + L % 4294967296) / Y = N / y ∧
    ((U * 4294967296 + L / 4294967296) % Y * 4294967296 + L % 4294967296) % Y / 2 ^ s = N % y := by
  have h2 := Nat.two_pow_pos s
  have hYp : 0 < Y := by rw [hY]; exact Nat.mul_pos h2 hp
  obtain ⟨a, b⟩ := two_digits 4294967296 Y U (L / 4294967296) (L % 4294967296) hYp (by omega)
  have e : (U * 4294967296 + L / 4294967296) * 4294967296 + L % 4294967296 = U * 18446744073709551616 + L := join32 U L
  rw [a, b, e, hN, hY, Nat.mul_div_mul_left _ _ h2, Nat.mul_mod_mul_left, Nat.mul_div_cancel_left _ h2]
  exact ⟨rfl, rfl⟩
/-- A digit's first guess. -/
theorem start_of (U A B u : Int) (hA0 : 2147483648 ≤ A) (hA1 : A < 4294967296) (hB0 : 0 ≤ B) (hB1 : B < 4294967296) (hU0 : 0 ≤ U) (hU : U < A * 4294967296 + B) (hu0 : 0 ≤ u) (hu1 : u < 4294967296) :
    ∃ q : Int, U / A = q ∧ 0 ≤ q ∧ 0 ≤ q * A ∧ q * A ≤ U ∧ Digit 4294967296 A.toNat B.toNat U.toNat u.toNat q.toNat (U - q * A).toNat := by
  have hst := Digit.start (b := 4294967296) (A := A.toNat) (B := B.toNat) (U := U.toNat) (u := u.toNat) (by omega) (by omega) (by omega) (by omega) (by omega) (by omega)
  obtain ⟨q, hq⟩ : ∃ q : Int, U / A = q := ⟨_, rfl⟩
  have hq1n : U.toNat / A.toNat = q.toNat := by
    rw [← hq]
    obtain ⟨a, rfl⟩ := Int.eq_ofNat_of_zero_le (show 0 ≤ A by omega)
    obtain ⟨v, rfl⟩ := Int.eq_ofNat_of_zero_le hU0
    rw [Int.toNat_natCast, Int.toNat_natCast, ← Int.natCast_ediv, Int.toNat_natCast]
  have hq10 : 0 ≤ q := by rw [← hq]; exact Int.ediv_nonneg hU0 (by omega)
  have hqA : q * A ≤ U := by rw [← hq]; exact Int.ediv_mul_le _ (by omega)
  have hqA0 : 0 ≤ q * A := Int.mul_nonneg hq10 (by omega)
  have hr1n : U.toNat % A.toNat = (U - q * A).toNat := by
    have h := Nat.div_add_mod U.toNat A.toNat
    rw [hq1n] at h
    have e : A.toNat * q.toNat = (q * A).toNat := by rw [Int.mul_comm, Int.toNat_mul (by omega) hq10]
    rw [e] at h
    generalize U.toNat % A.toNat = X at *
    omega
  rw [hq1n, hr1n] at hst
  exact ⟨q, hq, hq10, hqA0, hqA, hst⟩
/-- What is left behind a right digit. -/
theorem rest_of (U u q Y : Int) (hU : 0 ≤ U) (hu : 0 ≤ u) (hq0 : 0 ≤ q) (hY : 0 < Y) (hY1 : Y < 18446744073709551616) (hq : q.toNat = (U.toNat * 4294967296 + u.toNat) / Y.toNat) :
    ∃ R : Int, IntKind.u64.wrap (IntKind.u64.wrap (IntKind.u64.wrap (U * 4294967296) + u) - IntKind.u64.wrap (q * Y)) = R ∧ 0 ≤ R ∧ R < Y ∧ R.toNat = (U.toNat * 4294967296 + u.toNat) % Y.toNat := by
  have hm := Nat.mod_lt (U.toNat * 4294967296 + u.toNat) (show 0 < Y.toNat by omega)
  have hd := Nat.div_add_mod (U.toNat * 4294967296 + u.toNat) Y.toNat
  rw [← hq] at hd
  have e : Y.toNat * q.toNat = (q * Y).toNat := by rw [Int.mul_comm, Int.toNat_mul (by omega) hq0]
  rw [e] at hd
  have h0 : 0 ≤ q * Y := Int.mul_nonneg hq0 (by omega)
  generalize (U.toNat * 4294967296 + u.toNat) % Y.toNat = X at *
  refine ⟨(X : Int), rest_wrap U u q Y X ?_ (by omega), by omega, by omega, by omega⟩
  generalize q * Y = Z at *
  omega
/-- The test, as the program makes it. -/
theorem test_of (A B U u q r : Int) (hA : 0 < A) (hB0 : 0 ≤ B) (hu : 0 ≤ u) (hq : 0 ≤ q) (hr : 0 ≤ r) (h : Digit 4294967296 A.toNat B.toNat U.toNat u.toNat q.toNat r.toNat) :
    (U.toNat * 4294967296 + u.toNat) / (A.toNat * 4294967296 + B.toNat) < q.toNat ↔ 4294967296 * r + u < q * B := by
  rw [h.too_great (by omega) (by omega)]
  have e : q.toNat * B.toNat = (q * B).toNat := (Int.toNat_mul hq hB0).symm
  have h0 : 0 ≤ q * B := Int.mul_nonneg hq hB0
  rw [e]
  generalize q * B = Z at *
  omega
theorem prod_lt32 (q B : Int) (h0 : 0 ≤ q) (h1 : q < 4294967296) (g0 : 0 ≤ B) (g1 : B < 4294967296) : q * B < 18446744073709551616 := by
  have := prod_bound q B h0 (by omega) g0 (by omega)
  omega
/-- Both digits and what is left, back in whole numbers. -/
theorem div_close (s y N : Nat) (U L Y u1 u0 q R q' R' : Int) (hq : 0 ≤ q) (hR : 0 ≤ R) (hq' : 0 ≤ q') (hR' : 0 ≤ R')
    (hDF : (U.toNat * 4294967296 + L.toNat / 4294967296) / Y.toNat * 4294967296 + ((U.toNat * 4294967296 + L.toNat / 4294967296) % Y.toNat * 4294967296 + L.toNat % 4294967296) / Y.toNat = N / y ∧
      ((U.toNat * 4294967296 + L.toNat / 4294967296) % Y.toNat * 4294967296 + L.toNat % 4294967296) % Y.toNat / 2 ^ s = N % y)
    (hu : L.toNat / 4294967296 = u1.toNat ∧ L.toNat % 4294967296 = u0.toNat)
    (e1 : q.toNat = (U.toNat * 4294967296 + u1.toNat) / Y.toNat) (e2 : R.toNat = (U.toNat * 4294967296 + u1.toNat) % Y.toNat)
    (e3 : q'.toNat = (R.toNat * 4294967296 + u0.toNat) / Y.toNat) (e4 : R'.toNat = (R.toNat * 4294967296 + u0.toNat) % Y.toNat) :
    q * 4294967296 + q' = ((N / y : Nat) : Int) ∧ R' / 2 ^ s = ((N % y : Nat) : Int) := by
  obtain ⟨d1, d2⟩ := hDF
  rw [hu.1, hu.2, ← e1, ← e2, ← e3] at d1
  rw [hu.1, hu.2, ← e2, ← e4] at d2
  rw [← d1, ← d2]
  obtain ⟨a, rfl⟩ := Int.eq_ofNat_of_zero_le hq
  obtain ⟨b, rfl⟩ := Int.eq_ofNat_of_zero_le hq'
  obtain ⟨c, rfl⟩ := Int.eq_ofNat_of_zero_le hR'
  rw [Int.toNat_natCast, Int.toNat_natCast, Int.toNat_natCast]
  exact ⟨by omega, by rw [Int.natCast_ediv, Int.natCast_pow]; rfl⟩
end Go.Proofs.YtpakpgjbgehhjaaGreat

/-
  What math/bits' Div64 returns, where the upper word is less than the divisor: the quotient and what is left of the two words' number.
-/
namespace Go.Proofs.YtpakpgjbgehhjaaGreat
open Go.RowKit
set_option linter.unusedVariables false

theorem tup2i {a b c d : Int} (h : a = c) (g : b = d) : Value.tuple #[.int .u64 a, .int .u64 b] = Value.tuple #[.int .u64 c, .int .u64 d] := by rw [h, g]
set_option maxHeartbeats 1000000 in
theorem div64_zero (lo y : Int) (w : World) (l0 : 0 ≤ lo) (l1 : lo < 18446744073709551616) (y0 : 0 < y) (y1 : y < 18446744073709551616) :
    Calls Tryz.prog 120 #[.int .u64 0, .int .u64 lo, .int .u64 y] w fun e w' => e = .returned (.tuple #[.int .u64 (lo / y), .int .u64 (lo % y)]) ∧ Below w.heap.size w w' := by
  have hy : (y == 0) = false := by rw [beq_eq_false_iff_ne]; omega
  have hy' : ¬ y = 0 := by omega
  go_enter Tryz.func120, Tryz.ntmps120
  go_wp2_with fail
  go_quiet (fail)
  go_wp2
  go_ret2
  exact ⟨ret_eq rfl, below_drewN (Below.refl _ _) _⟩
set_option maxHeartbeats 1000000 in
theorem div64_more (hi lo y Qt Rt : Int) (w : World) (h0 : 0 < hi) (h1 : hi < y) (l0 : 0 ≤ lo) (l1 : lo < 18446744073709551616) (y1 : y < 18446744073709551616) (hQt : Qt = ((wid hi lo / y.toNat : Nat) : Int)) (hRt : Rt = ((wid hi lo % y.toNat : Nat) : Int)) :
    Calls Tryz.prog 120 #[.int .u64 hi, .int .u64 lo, .int .u64 y] w fun e w' => e = .returned (.tuple #[.int .u64 Qt, .int .u64 Rt]) ∧ Below w.heap.size w w' := by
  have HQt : Hid (_ = _) := hQt
  have HRt : Hid (_ = _) := hRt
  clear hQt hRt
  have hy : (y == 0) = false := by rw [beq_eq_false_iff_ne]; omega
  have hh : (hi == 0) = false := by rw [beq_eq_false_iff_ne]; omega
  have hl1 : (bl y.toNat).length ≤ 64 := (bl_length_le _ 64).2 (by omega)
  have hl2 : 1 < (bl y.toNat).length := (bl_length_lt _ 1).2 (by omega)
  obtain ⟨s, hs⟩ : ∃ s : Nat, s + (bl y.toNat).length = 64 := ⟨64 - (bl y.toNat).length, by omega⟩
  have hs1 : s ≤ 62 := by omega
  have HS : Hid ((64 : Int) - ((bl y.toNat).length : Nat) = (s : Int)) := by show _ = _; omega
  obtain ⟨Y, U, L, eY, eU, eL, hY0, hY1, hU0, hU1, hL0, hL1, hYn, hN⟩ := div_norm hi lo y s h0 h1 l0 l1 y1 hs hs1
  obtain ⟨A, eA⟩ : ∃ A : Int, Y / 4294967296 = A := ⟨_, rfl⟩
  obtain ⟨B, eB'⟩ : ∃ B : Int, Y % 4294967296 = B := ⟨_, rfl⟩
  obtain ⟨u1, eu1⟩ : ∃ u1 : Int, L / 4294967296 = u1 := ⟨_, rfl⟩
  obtain ⟨u0, eu0'⟩ : ∃ u0 : Int, L % 4294967296 = u0 := ⟨_, rfl⟩
  have eB : bits .and .u64 Y 4294967295 = B := by rw [and_low32 Y (by omega) hY1, eB']
  have eu0 : bits .and .u64 L 4294967295 = u0 := by rw [and_low32 L hL0 hL1, eu0']
  have hA0 : 2147483648 ≤ A := by omega
  have hA1 : A < 4294967296 := by omega
  have hB0 : 0 ≤ B := by omega
  have hB1 : B < 4294967296 := by omega
  have hu10 : 0 ≤ u1 := by omega
  have hu11 : u1 < 4294967296 := by omega
  have hu00 : 0 ≤ u0 := by omega
  have hu01 : u0 < 4294967296 := by omega
  have eYn : Y.toNat = A.toNat * 4294967296 + B.toNat := by omega
  obtain ⟨q1, eq1, hq10, hqA0, hqA, hst⟩ := start_of U A B u1 hA0 hA1 hB0 hB1 hU0 (by omega) hu10 hu11
  have DF := div_fin s y.toNat (wid hi lo) U.toNat L.toNat Y.toNat A.toNat (by omega) hYn hN
  have HDF : Hid (_ ∧ _) := DF
  have HYN : Hid (_ = _) := eYn
  have HU1 : Hid (L.toNat / 4294967296 = u1.toNat ∧ L.toNat % 4294967296 = u0.toNat) := ⟨by omega, by omega⟩
  have Q1lt : Hid ((U.toNat * 4294967296 + u1.toNat) / (A.toNat * 4294967296 + B.toNat) < 4294967296) := digit_lt (by omega) (by omega) (by omega) (by omega)
  clear hl1 hl2 hs DF eYn hYn hN eB' eu0'
  have HST : Hid (Digit _ _ _ _ _ _ _) := hst
  clear hst
  go_enter Tryz.func120, Tryz.ntmps120
  go_wp2_with fail
  refine (lead_any _ _ (by omega) y1).mono ?_
  rintro e w' ⟨rfl, rfl⟩
  rw [HS.out]
  go_wp2_with fail
  go_loop [15, 16] (fun qv rv => ∃ q r : Int, qv = .int .u64 q ∧ rv = .int .u64 r ∧ 0 ≤ q ∧ 0 ≤ r ∧ Digit 4294967296 A.toNat B.toNat U.toNat u1.toNat q.toNat r.toNat) (fun qv _ => (intOf qv).toNat)
  case atStart => rw [eq1]; exact ⟨_, _, rfl, rfl, hq10, by omega, HST.out⟩
  case round =>
    obtain ⟨q, r, rfl, rfl, hq0, hr0, hd⟩ := hrel
    have hdl := hd.le
    have hdt := hd.lt
    have hdg := hd.ge
    have T := test_of A B U u1 q r (by omega) hB0 (by omega) hq0 hr0 hd
    have hq2 : q ≤ 4294967297 := by omega
    have hr2 : r < 4294967296 := by omega
    have HD : Hid (Digit _ _ _ _ _ _ _) := hd
    have QL := Q1lt.out
    clear hd hdl hdt
    by_cases hg : (U.toNat * 4294967296 + u1.toNat) / (A.toNat * 4294967296 + B.toNat) < q.toNat
    · have hq1 : 0 < q := by have := Nat.lt_of_le_of_lt (Nat.zero_le _) hg; omega
      have ht := T.1 hg
      have HG : Hid (_ < _) := hg
      clear T hg hdg
      by_cases hbig : 4294967296 ≤ q
      · clear ht
        by_cases hbr : 4294967296 ≤ r + A
        · have HB := HD.out.broke (by omega) (by omega) (by omega) HG.out (by omega)
          have hqn : (q - 1).toNat = _ := (show (q - 1).toNat = q.toNat - 1 by omega).trans HB
          have hq3 : q - 1 < 4294967296 := by rw [← hqn] at QL; omega
          clear HB QL
          have hqz : 0 ≤ (q - 1) := by omega
          rw [← HYN.out] at hqn
          obtain ⟨R, eR, hR0, hR1, hRn⟩ := rest_of U u1 (q - 1) Y hU0 hu10 hqz (by omega) hY1 hqn
          have HQ1 : Hid (_ = _) := hqn
          have HRn : Hid (_ = _) := hRn
          have hRY : R < A * 4294967296 + B := by have := HYN.out; omega
          obtain ⟨q2, eq2, hq20, hq2A0, hq2A, hst2⟩ := start_of R A B u0 hA0 hA1 hB0 hB1 hR0 hRY hu00 hu01
          have HST2 : Hid (Digit _ _ _ _ _ _ _) := hst2
          have Q2lt : Hid ((R.toNat * 4294967296 + u0.toNat) / (A.toNat * 4294967296 + B.toNat) < 4294967296) := digit_lt (by omega) (by omega) (by omega) (by omega)
          clear hst2 hqn hRn hq0 hq2
          go_wp2_with fail
          go_loop [18, 16] (fun qv rv => ∃ q r : Int, qv = .int .u64 q ∧ rv = .int .u64 r ∧ 0 ≤ q ∧ 0 ≤ r ∧ Digit 4294967296 A.toNat B.toNat R.toNat u0.toNat q.toNat r.toNat) (fun qv _ => (intOf qv).toNat)
          case atStart => exact ⟨_, _, rfl, rfl, hq20, by omega, HST2.out⟩
          case round =>
            obtain ⟨q', r', rfl, rfl, hq0, hr0, hd⟩ := hrel
            have hdl := hd.le
            have hdt := hd.lt
            have hdg := hd.ge
            have T := test_of A B R u0 q' r' (by omega) hB0 (by omega) hq0 hr0 hd
            have hq2 : q' ≤ 4294967297 := by omega
            have hr2 : r' < 4294967296 := by omega
            have HD : Hid (Digit _ _ _ _ _ _ _) := hd
            have QL := Q2lt.out
            clear hd hdl hdt
            by_cases hg : (R.toNat * 4294967296 + u0.toNat) / (A.toNat * 4294967296 + B.toNat) < q'.toNat
            · have hq1 : 0 < q' := by have := Nat.lt_of_le_of_lt (Nat.zero_le _) hg; omega
              have ht := T.1 hg
              have HG : Hid (_ < _) := hg
              clear T hg hdg
              by_cases hbig : 4294967296 ≤ q'
              · clear ht
                by_cases hbr : 4294967296 ≤ r' + A
                · have HB := HD.out.broke (by omega) (by omega) (by omega) HG.out (by omega)
                  have hqn : (q' - 1).toNat = _ := (show (q' - 1).toNat = q'.toNat - 1 by omega).trans HB
                  have hq3 : q' - 1 < 4294967296 := by rw [← hqn] at QL; omega
                  clear HB QL
                  rw [← HYN.out] at hqn
                  obtain ⟨R2, eR2, hR20, hR21, hR2n⟩ := rest_of R u0 (q' - 1) Y hR0 hu00 (by omega) (by omega) hY1 hqn
                  have HC : Hid (_ ∧ _) := div_close s y.toNat (wid hi lo) U L Y u1 u0 (q - 1) R (q' - 1) R2 (by omega) hR0 (by omega) hR20 HDF.out HU1.out HQ1.out HRn.out hqn hR2n
                  clear hqn hR2n
                  go_wp2
                  go_ret2
                  exact ⟨ret_eq (tup2i (HC.out.1.trans HQt.out.symm) (HC.out.2.trans HRt.out.symm)), Below.refl _ _⟩
                · clear QL
                  go_wp2_with fail
                  go_round
                  case rel => exact ⟨_, _, rfl, rfl, by omega, by omega, by rw [show (q' - 1).toNat = q'.toNat - 1 by omega, show (r' + A).toNat = r'.toNat + A.toNat by omega]; exact HD.out.step HG.out (by omega)⟩
                  case measure => show (q' - 1).toNat < q'.toNat; omega
              · have hqB := prod_lt32 q' B hq0 (by omega) hB0 hB1
                have hqB0 : 0 ≤ q' * B := Int.mul_nonneg hq0 hB0
                by_cases hbr : 4294967296 ≤ r' + A
                · have HB := HD.out.broke (by omega) (by omega) (by omega) HG.out (by omega)
                  have hqn : (q' - 1).toNat = _ := (show (q' - 1).toNat = q'.toNat - 1 by omega).trans HB
                  have hq3 : q' - 1 < 4294967296 := by omega
                  clear HB QL
                  rw [← HYN.out] at hqn
                  obtain ⟨R2, eR2, hR20, hR21, hR2n⟩ := rest_of R u0 (q' - 1) Y hR0 hu00 (by omega) (by omega) hY1 hqn
                  have HC : Hid (_ ∧ _) := div_close s y.toNat (wid hi lo) U L Y u1 u0 (q - 1) R (q' - 1) R2 (by omega) hR0 (by omega) hR20 HDF.out HU1.out HQ1.out HRn.out hqn hR2n
                  clear hqn hR2n
                  go_wp2
                  go_ret2
                  exact ⟨ret_eq (tup2i (HC.out.1.trans HQt.out.symm) (HC.out.2.trans HRt.out.symm)), Below.refl _ _⟩
                · clear QL
                  go_wp2_with fail
                  go_round
                  case rel => exact ⟨_, _, rfl, rfl, by omega, by omega, by rw [show (q' - 1).toNat = q'.toNat - 1 by omega, show (r' + A).toNat = r'.toNat + A.toNat by omega]; exact HD.out.step HG.out (by omega)⟩
                  case measure => show (q' - 1).toNat < q'.toNat; omega
            · have hqn : q'.toNat = _ := Nat.le_antisymm (Nat.le_of_not_lt hg) hdg
              have hq3 : q' < 4294967296 := by rw [← hqn] at QL; omega
              have ht : ¬ 4294967296 * r' + u0 < q' * B := fun h => hg (T.2 h)
              have hqB := prod_lt32 q' B hq0 (by omega) hB0 hB1
              have hqB0 : 0 ≤ q' * B := Int.mul_nonneg hq0 hB0
              clear T hg hdg QL
              rw [← HYN.out] at hqn
              obtain ⟨R2, eR2, hR20, hR21, hR2n⟩ := rest_of R u0 q' Y hR0 hu00 (by omega) (by omega) hY1 hqn
              have HC : Hid (_ ∧ _) := div_close s y.toNat (wid hi lo) U L Y u1 u0 (q - 1) R q' R2 (by omega) hR0 (by omega) hR20 HDF.out HU1.out HQ1.out HRn.out hqn hR2n
              clear hqn hR2n
              go_wp2
              go_ret2
              exact ⟨ret_eq (tup2i (HC.out.1.trans HQt.out.symm) (HC.out.2.trans HRt.out.symm)), Below.refl _ _⟩
        · clear QL
          go_wp2_with fail
          go_round
          case rel => exact ⟨_, _, rfl, rfl, by omega, by omega, by rw [show (q - 1).toNat = q.toNat - 1 by omega, show (r + A).toNat = r.toNat + A.toNat by omega]; exact HD.out.step HG.out (by omega)⟩
          case measure => show (q - 1).toNat < q.toNat; omega
      · have hqB := prod_lt32 q B hq0 (by omega) hB0 hB1
        have hqB0 : 0 ≤ q * B := Int.mul_nonneg hq0 hB0
        by_cases hbr : 4294967296 ≤ r + A
        · have HB := HD.out.broke (by omega) (by omega) (by omega) HG.out (by omega)
          have hqn : (q - 1).toNat = _ := (show (q - 1).toNat = q.toNat - 1 by omega).trans HB
          have hq3 : q - 1 < 4294967296 := by omega
          clear HB QL
          have hqz : 0 ≤ (q - 1) := by omega
          rw [← HYN.out] at hqn
          obtain ⟨R, eR, hR0, hR1, hRn⟩ := rest_of U u1 (q - 1) Y hU0 hu10 hqz (by omega) hY1 hqn
          have HQ1 : Hid (_ = _) := hqn
          have HRn : Hid (_ = _) := hRn
          have hRY : R < A * 4294967296 + B := by have := HYN.out; omega
          obtain ⟨q2, eq2, hq20, hq2A0, hq2A, hst2⟩ := start_of R A B u0 hA0 hA1 hB0 hB1 hR0 hRY hu00 hu01
          have HST2 : Hid (Digit _ _ _ _ _ _ _) := hst2
          have Q2lt : Hid ((R.toNat * 4294967296 + u0.toNat) / (A.toNat * 4294967296 + B.toNat) < 4294967296) := digit_lt (by omega) (by omega) (by omega) (by omega)
          clear hst2 hqn hRn hq0 hq2
          go_wp2_with fail
          go_loop [18, 16] (fun qv rv => ∃ q r : Int, qv = .int .u64 q ∧ rv = .int .u64 r ∧ 0 ≤ q ∧ 0 ≤ r ∧ Digit 4294967296 A.toNat B.toNat R.toNat u0.toNat q.toNat r.toNat) (fun qv _ => (intOf qv).toNat)
          case atStart => exact ⟨_, _, rfl, rfl, hq20, by omega, HST2.out⟩
          case round =>
            obtain ⟨q', r', rfl, rfl, hq0, hr0, hd⟩ := hrel
            have hdl := hd.le
            have hdt := hd.lt
            have hdg := hd.ge
            have T := test_of A B R u0 q' r' (by omega) hB0 (by omega) hq0 hr0 hd
            have hq2 : q' ≤ 4294967297 := by omega
            have hr2 : r' < 4294967296 := by omega
            have HD : Hid (Digit _ _ _ _ _ _ _) := hd
            have QL := Q2lt.out
            clear hd hdl hdt
            by_cases hg : (R.toNat * 4294967296 + u0.toNat) / (A.toNat * 4294967296 + B.toNat) < q'.toNat
            · have hq1 : 0 < q' := by have := Nat.lt_of_le_of_lt (Nat.zero_le _) hg; omega
              have ht := T.1 hg
              have HG : Hid (_ < _) := hg
              clear T hg hdg
              by_cases hbig : 4294967296 ≤ q'
              · clear ht
                by_cases hbr : 4294967296 ≤ r' + A
                · have HB := HD.out.broke (by omega) (by omega) (by omega) HG.out (by omega)
                  have hqn : (q' - 1).toNat = _ := (show (q' - 1).toNat = q'.toNat - 1 by omega).trans HB
                  have hq3 : q' - 1 < 4294967296 := by rw [← hqn] at QL; omega
                  clear HB QL
                  rw [← HYN.out] at hqn
                  obtain ⟨R2, eR2, hR20, hR21, hR2n⟩ := rest_of R u0 (q' - 1) Y hR0 hu00 (by omega) (by omega) hY1 hqn
                  have HC : Hid (_ ∧ _) := div_close s y.toNat (wid hi lo) U L Y u1 u0 (q - 1) R (q' - 1) R2 (by omega) hR0 (by omega) hR20 HDF.out HU1.out HQ1.out HRn.out hqn hR2n
                  clear hqn hR2n
                  go_wp2
                  go_ret2
                  exact ⟨ret_eq (tup2i (HC.out.1.trans HQt.out.symm) (HC.out.2.trans HRt.out.symm)), Below.refl _ _⟩
                · clear QL
                  go_wp2_with fail
                  go_round
                  case rel => exact ⟨_, _, rfl, rfl, by omega, by omega, by rw [show (q' - 1).toNat = q'.toNat - 1 by omega, show (r' + A).toNat = r'.toNat + A.toNat by omega]; exact HD.out.step HG.out (by omega)⟩
                  case measure => show (q' - 1).toNat < q'.toNat; omega
              · have hqB := prod_lt32 q' B hq0 (by omega) hB0 hB1
                have hqB0 : 0 ≤ q' * B := Int.mul_nonneg hq0 hB0
                by_cases hbr : 4294967296 ≤ r' + A
                · have HB := HD.out.broke (by omega) (by omega) (by omega) HG.out (by omega)
                  have hqn : (q' - 1).toNat = _ := (show (q' - 1).toNat = q'.toNat - 1 by omega).trans HB
                  have hq3 : q' - 1 < 4294967296 := by omega
                  clear HB QL
                  rw [← HYN.out] at hqn
                  obtain ⟨R2, eR2, hR20, hR21, hR2n⟩ := rest_of R u0 (q' - 1) Y hR0 hu00 (by omega) (by omega) hY1 hqn
                  have HC : Hid (_ ∧ _) := div_close s y.toNat (wid hi lo) U L Y u1 u0 (q - 1) R (q' - 1) R2 (by omega) hR0 (by omega) hR20 HDF.out HU1.out HQ1.out HRn.out hqn hR2n
                  clear hqn hR2n
                  go_wp2
                  go_ret2
                  exact ⟨ret_eq (tup2i (HC.out.1.trans HQt.out.symm) (HC.out.2.trans HRt.out.symm)), Below.refl _ _⟩
                · clear QL
                  go_wp2_with fail
                  go_round
                  case rel => exact ⟨_, _, rfl, rfl, by omega, by omega, by rw [show (q' - 1).toNat = q'.toNat - 1 by omega, show (r' + A).toNat = r'.toNat + A.toNat by omega]; exact HD.out.step HG.out (by omega)⟩
                  case measure => show (q' - 1).toNat < q'.toNat; omega
            · have hqn : q'.toNat = _ := Nat.le_antisymm (Nat.le_of_not_lt hg) hdg
              have hq3 : q' < 4294967296 := by rw [← hqn] at QL; omega
              have ht : ¬ 4294967296 * r' + u0 < q' * B := fun h => hg (T.2 h)
              have hqB := prod_lt32 q' B hq0 (by omega) hB0 hB1
              have hqB0 : 0 ≤ q' * B := Int.mul_nonneg hq0 hB0
              clear T hg hdg QL
              rw [← HYN.out] at hqn
              obtain ⟨R2, eR2, hR20, hR21, hR2n⟩ := rest_of R u0 q' Y hR0 hu00 (by omega) (by omega) hY1 hqn
              have HC : Hid (_ ∧ _) := div_close s y.toNat (wid hi lo) U L Y u1 u0 (q - 1) R q' R2 (by omega) hR0 (by omega) hR20 HDF.out HU1.out HQ1.out HRn.out hqn hR2n
              clear hqn hR2n
              go_wp2
              go_ret2
              exact ⟨ret_eq (tup2i (HC.out.1.trans HQt.out.symm) (HC.out.2.trans HRt.out.symm)), Below.refl _ _⟩
        · clear QL
          go_wp2_with fail
          go_round
          case rel => exact ⟨_, _, rfl, rfl, by omega, by omega, by rw [show (q - 1).toNat = q.toNat - 1 by omega, show (r + A).toNat = r.toNat + A.toNat by omega]; exact HD.out.step HG.out (by omega)⟩
          case measure => show (q - 1).toNat < q.toNat; omega
    · have hqn : q.toNat = _ := Nat.le_antisymm (Nat.le_of_not_lt hg) hdg
      have hq3 : q < 4294967296 := by rw [← hqn] at QL; omega
      have ht : ¬ 4294967296 * r + u1 < q * B := fun h => hg (T.2 h)
      have hqB := prod_lt32 q B hq0 (by omega) hB0 hB1
      have hqB0 : 0 ≤ q * B := Int.mul_nonneg hq0 hB0
      clear T hg hdg QL
      have hqz : 0 ≤ q := by omega
      rw [← HYN.out] at hqn
      obtain ⟨R, eR, hR0, hR1, hRn⟩ := rest_of U u1 q Y hU0 hu10 hqz (by omega) hY1 hqn
      have HQ1 : Hid (_ = _) := hqn
      have HRn : Hid (_ = _) := hRn
      have hRY : R < A * 4294967296 + B := by have := HYN.out; omega
      obtain ⟨q2, eq2, hq20, hq2A0, hq2A, hst2⟩ := start_of R A B u0 hA0 hA1 hB0 hB1 hR0 hRY hu00 hu01
      have HST2 : Hid (Digit _ _ _ _ _ _ _) := hst2
      have Q2lt : Hid ((R.toNat * 4294967296 + u0.toNat) / (A.toNat * 4294967296 + B.toNat) < 4294967296) := digit_lt (by omega) (by omega) (by omega) (by omega)
      clear hst2 hqn hRn hq0 hq2
      go_wp2_with fail
      go_loop [18, 16] (fun qv rv => ∃ q r : Int, qv = .int .u64 q ∧ rv = .int .u64 r ∧ 0 ≤ q ∧ 0 ≤ r ∧ Digit 4294967296 A.toNat B.toNat R.toNat u0.toNat q.toNat r.toNat) (fun qv _ => (intOf qv).toNat)
      case atStart => exact ⟨_, _, rfl, rfl, hq20, by omega, HST2.out⟩
      case round =>
        obtain ⟨q', r', rfl, rfl, hq0, hr0, hd⟩ := hrel
        have hdl := hd.le
        have hdt := hd.lt
        have hdg := hd.ge
        have T := test_of A B R u0 q' r' (by omega) hB0 (by omega) hq0 hr0 hd
        have hq2 : q' ≤ 4294967297 := by omega
        have hr2 : r' < 4294967296 := by omega
        have HD : Hid (Digit _ _ _ _ _ _ _) := hd
        have QL := Q2lt.out
        clear hd hdl hdt
        by_cases hg : (R.toNat * 4294967296 + u0.toNat) / (A.toNat * 4294967296 + B.toNat) < q'.toNat
        · have hq1 : 0 < q' := by have := Nat.lt_of_le_of_lt (Nat.zero_le _) hg; omega
          have ht := T.1 hg
          have HG : Hid (_ < _) := hg
          clear T hg hdg
          by_cases hbig : 4294967296 ≤ q'
          · clear ht
            by_cases hbr : 4294967296 ≤ r' + A
            · have HB := HD.out.broke (by omega) (by omega) (by omega) HG.out (by omega)
              have hqn : (q' - 1).toNat = _ := (show (q' - 1).toNat = q'.toNat - 1 by omega).trans HB
              have hq3 : q' - 1 < 4294967296 := by rw [← hqn] at QL; omega
              clear HB QL
              rw [← HYN.out] at hqn
              obtain ⟨R2, eR2, hR20, hR21, hR2n⟩ := rest_of R u0 (q' - 1) Y hR0 hu00 (by omega) (by omega) hY1 hqn
              have HC : Hid (_ ∧ _) := div_close s y.toNat (wid hi lo) U L Y u1 u0 q R (q' - 1) R2 (by omega) hR0 (by omega) hR20 HDF.out HU1.out HQ1.out HRn.out hqn hR2n
              clear hqn hR2n
              go_wp2
              go_ret2
              exact ⟨ret_eq (tup2i (HC.out.1.trans HQt.out.symm) (HC.out.2.trans HRt.out.symm)), Below.refl _ _⟩
            · clear QL
              go_wp2_with fail
              go_round
              case rel => exact ⟨_, _, rfl, rfl, by omega, by omega, by rw [show (q' - 1).toNat = q'.toNat - 1 by omega, show (r' + A).toNat = r'.toNat + A.toNat by omega]; exact HD.out.step HG.out (by omega)⟩
              case measure => show (q' - 1).toNat < q'.toNat; omega
          · have hqB := prod_lt32 q' B hq0 (by omega) hB0 hB1
            have hqB0 : 0 ≤ q' * B := Int.mul_nonneg hq0 hB0
            by_cases hbr : 4294967296 ≤ r' + A
            · have HB := HD.out.broke (by omega) (by omega) (by omega) HG.out (by omega)
              have hqn : (q' - 1).toNat = _ := (show (q' - 1).toNat = q'.toNat - 1 by omega).trans HB
              have hq3 : q' - 1 < 4294967296 := by omega
              clear HB QL
              rw [← HYN.out] at hqn
              obtain ⟨R2, eR2, hR20, hR21, hR2n⟩ := rest_of R u0 (q' - 1) Y hR0 hu00 (by omega) (by omega) hY1 hqn
              have HC : Hid (_ ∧ _) := div_close s y.toNat (wid hi lo) U L Y u1 u0 q R (q' - 1) R2 (by omega) hR0 (by omega) hR20 HDF.out HU1.out HQ1.out HRn.out hqn hR2n
              clear hqn hR2n
              go_wp2
              go_ret2
              exact ⟨ret_eq (tup2i (HC.out.1.trans HQt.out.symm) (HC.out.2.trans HRt.out.symm)), Below.refl _ _⟩
            · clear QL
              go_wp2_with fail
              go_round
              case rel => exact ⟨_, _, rfl, rfl, by omega, by omega, by rw [show (q' - 1).toNat = q'.toNat - 1 by omega, show (r' + A).toNat = r'.toNat + A.toNat by omega]; exact HD.out.step HG.out (by omega)⟩
              case measure => show (q' - 1).toNat < q'.toNat; omega
        · have hqn : q'.toNat = _ := Nat.le_antisymm (Nat.le_of_not_lt hg) hdg
          have hq3 : q' < 4294967296 := by rw [← hqn] at QL; omega
          have ht : ¬ 4294967296 * r' + u0 < q' * B := fun h => hg (T.2 h)
          have hqB := prod_lt32 q' B hq0 (by omega) hB0 hB1
          have hqB0 : 0 ≤ q' * B := Int.mul_nonneg hq0 hB0
          clear T hg hdg QL
          rw [← HYN.out] at hqn
          obtain ⟨R2, eR2, hR20, hR21, hR2n⟩ := rest_of R u0 q' Y hR0 hu00 (by omega) (by omega) hY1 hqn
          have HC : Hid (_ ∧ _) := div_close s y.toNat (wid hi lo) U L Y u1 u0 q R q' R2 (by omega) hR0 (by omega) hR20 HDF.out HU1.out HQ1.out HRn.out hqn hR2n
          clear hqn hR2n
          go_wp2
          go_ret2
          exact ⟨ret_eq (tup2i (HC.out.1.trans HQt.out.symm) (HC.out.2.trans HRt.out.symm)), Below.refl _ _⟩
end Go.Proofs.YtpakpgjbgehhjaaGreat

/-
  What wide's Div returns.
-/
namespace Go.Proofs.YtpakpgjbgehhjaaGreat
open Go.RowKit
set_option linter.unusedVariables false

theorem div64 (hi lo y Qt Rt : Int) (w : World) (h0 : 0 ≤ hi) (h1 : hi < y) (l0 : 0 ≤ lo) (l1 : lo < 18446744073709551616) (y1 : y < 18446744073709551616) (hQt : Qt = ((wid hi lo / y.toNat : Nat) : Int)) (hRt : Rt = ((wid hi lo % y.toNat : Nat) : Int)) :
    Calls Tryz.prog 120 #[.int .u64 hi, .int .u64 lo, .int .u64 y] w fun e w' => e = .returned (.tuple #[.int .u64 Qt, .int .u64 Rt]) ∧ Below w.heap.size w w' := by
  by_cases h : hi = 0
  · subst h
    obtain ⟨l, rfl⟩ := Int.eq_ofNat_of_zero_le l0
    obtain ⟨v, rfl⟩ := Int.eq_ofNat_of_zero_le (show 0 ≤ y by omega)
    have e : wid 0 (l : Int) = l := by unfold wid; simp
    rw [e, Int.toNat_natCast] at hQt hRt
    rw [hQt, hRt, Int.natCast_ediv, Int.natCast_emod]
    exact div64_zero _ _ w l0 l1 (by omega) y1
  · exact div64_more hi lo y Qt Rt w (by omega) h1 l0 l1 y1 hQt hRt

set_option maxHeartbeats 1000000 in
theorem wDiv (ah al b Qt Rt : Int) (w : World) (a0 : 0 ≤ ah) (a2 : 0 ≤ al) (a3 : al < 18446744073709551616) (b1 : b < 18446744073709551616) (h : ah < b) (hQt : Qt = ((wid ah al / b.toNat : Nat) : Int)) (hRt : Rt = ((wid ah al % b.toNat : Nat) : Int)) :
    Calls Tryz.prog 109 #[.agg #[.int .u64 ah, .int .u64 al], .int .u64 b] w fun e w' => e = .returned (.tuple #[.int .u64 Qt, .int .u64 Rt, .bool true]) ∧ Below w.heap.size w w' := by
  have HQt : Hid (_ = _) := hQt
  have HRt : Hid (_ = _) := hRt
  clear hQt hRt
  go_enter Tryz.func109, Tryz.ntmps109
  go_wp2_with fail
  refine (div64 _ _ _ _ _ _ a0 h a2 a3 b1 HQt.out HRt.out).mono ?_
  rintro e w1 ⟨rfl, hb1⟩
  have hb0 : Below w.heap.size w (w.alloc _) := (Below.refl _ _).alloc (Nat.le_refl _) (.cells #[.int .u64 ah, .int .u64 al] 104)
  have hb := hb0.trans (hb1.mono hb0.size)
  go_wp2
  go_ret3
  exact ⟨ret_eq rfl, hb⟩
end Go.Proofs.YtpakpgjbgehhjaaGreat

/-
  What package round returns: the nearest pattern and the flags, as numR and flagR tell them. Exponents are any; all 128 bits.
-/
namespace Go.Proofs.YtpakpgjbgehhjaaGreat
open Go.RowKit
set_option linter.unusedVariables false

theorem sgnB_bd (n : Bool) : 0 ≤ sgnB n ∧ sgnB n ≤ 9223372036854775808 := by cases n <;> simp [sgnB]
theorem make_sig (n : Bool) (x b : Int) : wMake n x b = sgnB n + x % 2048 * 4503599627370496 + b % 4503599627370496 := rfl
theorem wid_lo (h l : Int) (h0 : 0 ≤ h) (l0 : 0 ≤ l) (g : wid h l < 18446744073709551616) : l = ((wid h l : Nat) : Int) := by
  unfold wid at *; omega

theorem run_lo (h l : Int) (w : World) : (Instr.field 104 (.agg #[.int .u64 h, .int .u64 l]) 1).run Tryz.prog w = .ok (.int .u64 l) w := by kernel_rfl
theorem pZero (neg more : Bool) (w : World) :
    Calls Tryz.prog 114 #[.bool neg, .bool more] w fun e w' => e = .returned (.tuple #[.int .u64 (sgnB neg), .int .u8 (if more then 3 else 0)]) ∧ w' = w := by
  cases more
  all_goals
    go_enter Tryz.func114, Tryz.ntmps114
    go_wp2_with (go_at_call 90; refine (make_any _ _ _ _ (by omega) (by omega)).mono ?_; rintro e w' ⟨rfl, rfl⟩)
    go_ret2
    refine ⟨ret_eq (tup2 (int_eq ?_) rfl), rfl⟩
    rw [make_sig]
    omega

set_option maxHeartbeats 1000000 in
theorem pNearest (h l n : Int) (more : Bool) (w : World) (a0 : 0 ≤ h) (a1 : h < 18446744073709551616) (a2 : 0 ≤ l) (a3 : l < 18446744073709551616) (n0 : -1000000 ≤ n) (n1 : n ≤ 1000000) (hfit : nearN (wid h l) n more < 9223372036854775808) :
    Calls Tryz.prog 116 #[.agg #[.int .u64 h, .int .u64 l], .int .i64 n, .bool more] w fun e w' => e = .returned (.tuple #[.int .u64 ((nearN (wid h l) n more : Nat) : Int), .bool (inexN (wid h l) n more)]) ∧ Below w.heap.size w w' := by
  by_cases hn : n ≤ 0
  · have N1 : Hid (nearN (wid h l) n more = wid h l * 2 ^ (-n).toNat) := by show _ = _; unfold nearN; rw [if_pos hn]
    have N2 : Hid (inexN (wid h l) n more = more) := by show _ = _; unfold inexN; rw [if_pos hn]
    have F : Hid (_ < _) := hfit
    clear hfit
    go_enter Tryz.func116, Tryz.ntmps116
    go_wp2_with fail
    refine (wLeft _ _ _ _ a0 a1 a2 a3 (by omega)).mono ?_
    rintro e w1 ⟨h1, l1, rfl, b0, b1, b2, b3, b4, hb1⟩
    have B : Hid (l1 = ((nearN (wid h l) n more : Nat) : Int)) := by
      show _ = _
      have f := F.out
      rw [N1.out] at f ⊢
      rw [Nat.mul_comm, Nat.mod_eq_of_lt (Nat.lt_trans f (by decide))] at b4
      rw [wid_lo h1 l1 b0 b2 (by rw [b4]; exact Nat.lt_trans f (by decide)), b4]
    have hbw : Below w.heap.size w w1 := ((Below.refl _ _).alloc (Nat.le_refl _) _).trans (hb1.mono (by simp))
    clear b4 hb1
    have hlo := run_lo h1 l1 w1
    go_wp2
    go_ret2
    exact ⟨ret_eq (tup2 (int_eq B.out) (bool_eq N2.out.symm)), hbw⟩
  · obtain ⟨c, hc⟩ : ∃ c : Nat, n.toNat = c + 1 := ⟨n.toNat - 1, by omega⟩
    have N1 : Hid (nearN (wid h l) n more = wid h l / 2 ^ (c + 1) + (if wid h l / 2 ^ c % 2 = 1 ∧ (wid h l % 2 ^ c ≠ 0 ∨ more = true ∨ wid h l / 2 ^ (c + 1) % 2 = 1) then 1 else 0)) := by
      show _ = _; unfold nearN; rw [if_neg hn, hc, Nat.add_sub_cancel]
    have N2 : Hid (inexN (wid h l) n more = decide (wid h l / 2 ^ c % 2 = 1 ∨ wid h l % 2 ^ c ≠ 0 ∨ more = true)) := by
      show _ = _; unfold inexN; rw [if_neg hn, hc, Nat.add_sub_cancel]
    have F : Hid (_ < _) := hfit
    clear hfit
    have hc1 : (n - 1).toNat = c := by omega
    have hn2 : (n ≤ 0) = False := by simp [hn]
    have HC : Hid (_ = _) := hc1
    clear hc hc1
    go_enter Tryz.func116, Tryz.ntmps116
    go_wp2_with fail
    refine (wRight _ _ _ _ a0 a1 a2 a3 (by omega)).mono ?_
    rintro e w1 ⟨h1, l1, rfl, b0, b1, b2, b3, b4, hb1⟩
    rw [HC.out] at b4 ⊢
    have hbw : Below w.heap.size w w1 := ((Below.refl _ _).alloc (Nat.le_refl _) _).trans (hb1.mono (by simp))
    have hz1 := hbw.size
    clear hb1
    have B4 : Hid (_ = _) := b4
    clear b4
    obtain ⟨lo, hlo⟩ : ∃ lo, lostB (wid h l) c = lo := ⟨_, rfl⟩
    rw [hlo]
    have LO : Hid (_ = _) := hlo
    clear hlo
    go_wp2_with fail
    refine (wRight _ _ _ _ b0 b1 b2 b3 (by omega)).mono ?_
    rintro e w2 ⟨h2, l2, rfl, c0, c1, c2, c3, c4, hb2⟩
    rw [show (1 : Int).toNat = 1 from rfl] at c4 ⊢
    have hbx : Below w.heap.size w w2 := (hbw.trans ((Below.refl _ _).alloc hz1 _)).trans (hb2.mono (by simp; omega))
    have hz2 := hbx.size
    clear hb2
    obtain ⟨hf, hhf⟩ : ∃ hf, lostB (wid h1 l1) 1 = hf := ⟨_, rfl⟩
    rw [hhf]
    obtain ⟨Z, hZ⟩ : ∃ Z, wid h l / 2 ^ (c + 1) = Z := ⟨_, rfl⟩
    have Q : Hid (l2 = (Z : Int) ∧ Z < 9223372036854775808 ∧ nearN (wid h l) n more = Z + (if (hf && (lo || more || decide (Z % 2 = 1))) = true then 1 else 0) ∧ inexN (wid h l) n more = (hf || lo || more)) := by
      have f := F.out
      rw [N1.out] at f
      have e1 : wid h2 l2 = wid h l / 2 ^ (c + 1) := by rw [c4, B4.out, Nat.div_div_eq_div_mul, ← Nat.pow_add]
      have e2 : wid h l / 2 ^ (c + 1) < 9223372036854775808 := Nat.lt_of_le_of_lt (Nat.le_add_right _ _) f
      rw [hZ] at e1 e2
      have e3 : hf = decide (wid h l / 2 ^ c % 2 = 1) := by rw [← hhf, B4.out]; unfold lostB; rw [decide_eq_decide, Nat.pow_one]; omega
      have e4 : lo = decide (wid h l % 2 ^ c ≠ 0) := by rw [← LO.out]; rfl
      refine ⟨?_, e2, ?_, ?_⟩
      · rw [wid_lo h2 l2 c0 c2 (by omega), e1]
      · rw [N1.out, hZ, e3, e4]; simp [Bool.or_assoc]
      · rw [N2.out, e3, e4]; simp [Bool.or_assoc]
    clear hhf c4 B4 LO F N1 N2 hZ
    have hodd := and_one_u64 l2 c2 (by omega)
    have hup : IntKind.u64.wrap (l2 + 1) = l2 + 1 := by have := Q.out.1; have := Q.out.2.1; rw [IntKind.wrap_u64]; omega
    by_cases ho : l2 % 2 = 1
    all_goals
      cases hf
      all_goals
        cases lo
        all_goals
          cases more
          all_goals
            go_wp2
            go_ret2
            obtain ⟨q1, q2, q3, q4⟩ := Q.out
            refine ⟨ret_eq (tup2 (int_eq ?_) (bool_eq ?_)), (hbx.alloc hz2 _)⟩
            · rw [q3]
              simp <;> (try split) <;> omega
            · rw [q4]; rfl
theorem pPattern (neg : Bool) (K u : Int) (w : World) (k0 : 0 ≤ K) (k1 : K ≤ 9007199254740992) (hk : 4503599627370496 ≤ K ∨ u = -1074) (u0 : -1074 ≤ u) (u1 : u ≤ 1000000) :
    Calls Tryz.prog 117 #[.bool neg, .int .u64 K, .int .i64 u] w fun e w' => e = .returned (.int .u64 (sgnB neg + min (K + (u + 1074) * 4503599627370496) 9218868437227405312)) ∧ w' = w := by
  have HK : Hid (_ ∨ _) := hk
  clear hk
  by_cases h1 : K = 9007199254740992
  · subst h1
    by_cases h2 : 2046 < u + 1 + 1075
    all_goals
      go_enter Tryz.func117, Tryz.ntmps117
      go_wp2_with (go_at_call 90; refine (make_any _ _ _ _ (by omega) (by omega)).mono ?_; rintro e w' ⟨rfl, rfl⟩)
      go_ret
      refine ⟨ret_eq (int_eq ?_), rfl⟩
      rw [make_sig]
      omega
  · by_cases h3 : K < 4503599627370496
    · have hu : u = -1074 := by have := HK.out; omega
      subst hu
      go_enter Tryz.func117, Tryz.ntmps117
      go_wp2_with (go_at_call 90; refine (make_any _ _ _ _ (by omega) (by omega)).mono ?_; rintro e w' ⟨rfl, rfl⟩)
      go_ret
      refine ⟨ret_eq (int_eq ?_), rfl⟩
      rw [make_sig]
      omega
    · by_cases h2 : 2046 < u + 1075
      all_goals
        go_enter Tryz.func117, Tryz.ntmps117
        go_wp2_with (go_at_call 90; refine (make_any _ _ _ _ (by omega) (by omega)).mono ?_; rintro e w' ⟨rfl, rfl⟩)
        go_ret
        refine ⟨ret_eq (int_eq ?_), rfl⟩
        rw [make_sig]
        omega
/-- Exponents end at 100000, either way. -/
def clampE (e : Int) : Int := min (max e (-100000)) 100000
theorem clampE_bd (e : Int) : -100000 ≤ clampE e ∧ clampE e ≤ 100000 := by unfold clampE; omega
theorem clampE_in (e : Int) (h0 : -100000 ≤ e) (h1 : e ≤ 100000) : clampE e = e := by unfold clampE; omega
theorem lastP_bd (L E : Int) (n : Nat) (h : L = max (E + (n : Int) - 53) (-1074)) (h0 : -100000 ≤ E) (h1 : E ≤ 100000) (hn : n ≤ 128) : -1074 ≤ L ∧ L ≤ 200000 := by omega
theorem fin_pat (neg : Bool) (P : Nat) : decide ((sgnB neg + min (P : Int) 9218868437227405312) / 4503599627370496 % 2048 < 2047) = decide (P < 9218868437227405312) := by
  rw [decide_eq_decide]
  cases neg <;> simp only [sgnB] <;> simp <;> omega
set_option maxHeartbeats 1000000 in
theorem pRound (neg more : Bool) (h l e : Int) (w : World) (a0 : 0 ≤ h) (a1 : h < 18446744073709551616) (a2 : 0 ≤ l) (a3 : l < 18446744073709551616) :
    Calls Tryz.prog 105 #[.bool neg, .agg #[.int .u64 h, .int .u64 l], .int .i64 e, .bool more] w fun r w' => r = .returned (.tuple #[.int .u64 (sgnB neg + ((numR (wid h l) (clampE e) more : Nat) : Int)), .int .u8 ((flagR (wid h l) (clampE e) more : Nat) : Int)]) ∧ Below w.heap.size w w' := by
  by_cases hx : wid h l = 0
  · have R : Hid (numR (wid h l) (clampE e) more = 0 ∧ ((flagR (wid h l) (clampE e) more : Nat) : Int) = if more then 3 else 0) := by
      show _ ∧ _
      unfold numR flagR
      rw [if_pos hx, if_pos hx]
      refine ⟨rfl, ?_⟩
      cases more <;> rfl
    have HX : Hid (_ = _) := hx
    clear hx
    cases more
    all_goals
      go_enter Tryz.func105, Tryz.ntmps105
      go_wp2_with fail
      refine (wZero _ _ _ a0 a1 a2 a3).mono ?_
      rintro r w1 ⟨rfl, hb1⟩
      rw [show decide (wid h l = 0) = true from decide_eq_true HX.out]
      have hbw : Below w.heap.size w w1 := ((Below.refl _ _).alloc (Nat.le_refl _) _).trans (hb1.mono (by simp))
      clear hb1
      go_wp2_with fail
      refine (pZero _ _ _).mono ?_
      rintro r w2 ⟨rfl, rfl⟩
      go_wp2
      go_ret2
      refine ⟨ret_eq (tup2 (int_eq ?_) (int_eq ?_)), hbw⟩
      · rw [R.out.1]; omega
      · rw [R.out.2]; rfl
  · obtain ⟨E, hE⟩ : ∃ E, clampE e = E := ⟨_, rfl⟩
    rw [hE]
    have hEb := clampE_bd e
    rw [hE] at hEb
    obtain ⟨hE0, hE1⟩ := hEb
    have CE : Hid (_ = _) := hE
    clear hE
    have hpos : 0 < wid h l := by omega
    obtain ⟨n, hn⟩ : ∃ n : Nat, (bl (wid h l)).length = n := ⟨_, rfl⟩
    have hn1 : n ≤ 128 := by rw [← hn]; exact (bl_length_le _ 128).2 (wid_lt h l a0 a1 a2 a3)
    have hn0 : 1 ≤ n := by rw [← hn]; exact (bl_length_lt _ 0).2 (by rw [Nat.pow_zero]; exact hpos)
    obtain ⟨L, hL⟩ : ∃ L, lastP (wid h l) E = L := ⟨_, rfl⟩
    have hL2 : L = max (E + (n : Int) - 53) (-1074) := by rw [← hL, ← hn]; rfl
    have hLb : -1074 ≤ L ∧ L ≤ 200000 := lastP_bd L E n hL2 hE0 hE1 hn1
    obtain ⟨nb1, nb2⟩ := near_bd (wid h l) E more hpos
    obtain ⟨rn1, rn2⟩ := round_num (wid h l) E more hpos
    rw [hL] at nb1 nb2 rn1 rn2
    rw [hn] at rn2
    obtain ⟨K, hK⟩ : ∃ K, nearN (wid h l) (L - E) more = K := ⟨_, rfl⟩
    obtain ⟨ix, hix⟩ : ∃ ix, inexN (wid h l) (L - E) more = ix := ⟨_, rfl⟩
    rw [hK] at nb1 nb2 rn1 rn2
    rw [hix] at rn2
    have RN : Hid (_ ∧ _) := ⟨rn1, rn2⟩
    have HL2 : Hid (_ = _) := hL2
    have HN : Hid (_ = _) := hn
    have HK : Hid (_ = _) := hK
    have HI : Hid (_ = _) := hix
    have HX : Hid (¬ _) := hx
    have NB : Hid (_ ∨ _) := nb2
    clear rn1 rn2 hL2 hn hL hK hix hx hpos nb2
    go_enter Tryz.func105, Tryz.ntmps105
    go_wp2_with fail
    refine (wZero _ _ _ a0 a1 a2 a3).mono ?_
    rintro r w1 ⟨rfl, hb1⟩
    rw [show decide (wid h l = 0) = false from decide_eq_false HX.out]
    have hbw : Below w.heap.size w w1 := ((Below.refl _ _).alloc (Nat.le_refl _) _).trans (hb1.mono (by simp))
    have f0 := hb1.cell (p := ⟨w.heap.size, 0, none⟩) (by simp)
    have f1 := hb1.cell (p := ⟨w.heap.size, 1, none⟩) (by simp)
    simp [go_sem] at f0 f1
    have hz1 := hbw.size
    clear hb1
    go_upto_region 3 with fail
    go_cut [2] (fun t wx => t = .int .i64 E ∧ wx = w1)
    case first =>
      by_cases c1 : e < -100000
      · go_wp2
        go_meet
        exact ⟨int_eq (by have := CE.out; unfold clampE at this; omega), rfl⟩
      · by_cases c2 : 100000 < e
        · go_wp2
          go_meet
          exact ⟨int_eq (by have := CE.out; unfold clampE at this; omega), rfl⟩
        · go_wp2
          go_meet
          exact ⟨int_eq (by have := CE.out; unfold clampE at this; omega), rfl⟩
    case rest =>
      obtain ⟨rfl, rfl⟩ := hcut
      go_wp2_with fail
      refine (wLen _ _ _ a0 a1 a2 a3).mono ?_
      rintro r w2 ⟨rfl, hb2⟩
      rw [HN.out]
      have g0 := cell_later hb2 f0
      have g1 := cell_later hb2 f1
      have hbx : Below w.heap.size w w2 := hbw.trans (hb2.mono hz1)
      clear hb2 f0 f1
      go_upto_region 5 with fail
      go_cut [11] (fun t wx => t = .int .i64 L ∧ wx = w2)
      case first =>
        by_cases c1 : (n : Int) + E - 53 < -1074
        · go_wp2
          go_meet
          exact ⟨int_eq (by have := HL2.out; omega), rfl⟩
        · go_wp2
          go_meet
          exact ⟨int_eq (by have := HL2.out; omega), rfl⟩
      case rest =>
        obtain ⟨rfl, rfl⟩ := hcut
        go_wp2_with fail
        refine (pNearest h l (L - E) more _ a0 a1 a2 a3 (by omega) (by omega) (by rw [HK.out]; omega)).mono ?_
        rintro r w3 ⟨rfl, hb3⟩
        rw [HK.out, HI.out]
        have hbz : Below w.heap.size w w3 := hbx.trans (hb3.mono (by have := hbx.size; omega))
        clear hb3 g0 g1
        go_wp2_with fail
        refine (pPattern neg K L _ (by omega) (by omega) (by have := NB.out; omega) (by omega) (by omega)).mono ?_
        rintro r w4 ⟨rfl, rfl⟩
        obtain ⟨P, hP⟩ : ∃ P : Nat, K + (L + 1074).toNat * 4503599627370496 = P := ⟨_, rfl⟩
        have hP2 : (K : Int) + (L + 1074) * 4503599627370496 = (P : Int) := by omega
        have RN2 : Hid (_ ∧ _) := hP ▸ RN.out
        rw [hP2]
        have hfp := fin_pat neg P
        have FP : Hid (_ = _) := hfp
        have hsb := sgnB_bd neg
        obtain ⟨b, hb⟩ : ∃ b, sgnB neg + min (P : Int) 9218868437227405312 = b := ⟨_, rfl⟩
        have hbb : 0 ≤ b ∧ b < 18446744073709551616 := by omega
        rw [hb] at hfp ⊢
        have HB : Hid (_ = _) := hb
        clear hP hP2 FP RN HK HI NB hb
        have HFP : Hid (_ = _) := hfp
        clear hfp hsb
        go_wp2_with fail
        refine (finite_any b _ hbb.1 hbb.2).mono ?_
        rintro r w5 ⟨rfl, rfl⟩
        rw [HFP.out]
        by_cases hov : P < 9218868437227405312
        · rw [show decide (P < 9218868437227405312) = true from decide_eq_true hov]
          cases ix
          · go_wp2
            go_ret2
            refine ⟨ret_eq (tup2 (int_eq ?_) (int_eq ?_)), hbz⟩
            · rw [RN2.out.1, ← HB.out]; omega
            · rw [RN2.out.2, if_neg (by omega)]; rfl
          · by_cases hs : (n : Int) + E ≤ -1022
            · go_wp2
              go_ret2
              refine ⟨ret_eq (tup2 (int_eq ?_) (int_eq ?_)), hbz⟩
              · rw [RN2.out.1, ← HB.out]; omega
              · rw [RN2.out.2, if_neg (by omega), if_pos True.intro, if_pos (by omega)]; rfl
            · go_wp2
              go_ret2
              refine ⟨ret_eq (tup2 (int_eq ?_) (int_eq ?_)), hbz⟩
              · rw [RN2.out.1, ← HB.out]; omega
              · rw [RN2.out.2, if_neg (by omega), if_pos True.intro, if_neg (by omega)]; rfl
        · rw [show decide (P < 9218868437227405312) = false from decide_eq_false hov]
          go_wp2
          go_ret2
          refine ⟨ret_eq (tup2 (int_eq ?_) (int_eq ?_)), hbz⟩
          · rw [RN2.out.1, ← HB.out]; omega
          · rw [RN2.out.2, if_pos (by omega)]; rfl
end Go.Proofs.YtpakpgjbgehhjaaGreat
