/-
  What the closure of the law HexRows returns, and the digits of a small number. No conditions.
-/
import Derived.Test.YtaamonmkfgonmaaDoorHexK
import Derived.Test.YtaamonmkfgonmaaDoorHexL
import Derived.Test.YtaamonmkfgonmaaDoorHexD
import Derived.Deep.QuietTactic
import Derived.BigQuiet
namespace Go.Proofs.YtaamonmkfgonmaaDoor
open Go.RowKit
set_option linter.unusedVariables false
set_option linter.unusedSimpArgs false

/-- The slice holds, at each place below len, the number Z i. -/
def URow (w : World) (a : Option Addr) (len cap : Nat) (Z : Nat → Int) : Prop :=
  len ≤ cap ∧ cap ≤ maxLen ∧ (∀ i, 0 ≤ Z i ∧ Z i < 18446744073709551616) ∧ (0 < len → ∃ b o, a = some ⟨b, o, none⟩ ∧ b < w.heap.size ∧ ∀ i, i < len → w.cell? ⟨b, o + i, none⟩ = some (.int .u64 (Z i)))
theorem URow.below {w w' : World} {a : Option Addr} {len cap : Nat} {Z : Nat → Int} (h : URow w a len cap Z) (hb : Below w.heap.size w w') : URow w' a len cap Z := by
  obtain ⟨h1, h2, h3, h4⟩ := h
  refine ⟨h1, h2, h3, fun hp => ?_⟩
  obtain ⟨b, o, e, hlt, hc⟩ := h4 hp
  have := hb.size
  exact ⟨b, o, e, by omega, fun i hi => (hb.cell (p := ⟨b, o + i, none⟩) hlt).trans (hc i hi)⟩
/-- The number of a place: nought behind the slice's end. -/
def atR (len : Nat) (Z : Nat → Int) (n i k : Nat) : Int := if i * n + k < len then Z (i * n + k) else 0
theorem atR_rng (len : Nat) (Z : Nat → Int) (h : ∀ i, 0 ≤ Z i ∧ Z i < 18446744073709551616) (n i k : Nat) : 0 ≤ atR len Z n i k ∧ atR len Z n i k < 18446744073709551616 := by
  unfold atR
  split
  · exact h _
  · exact ⟨by decide, by decide⟩
set_option maxRecDepth 100000 in
set_option maxHeartbeats 1000000 in
theorem hAt1 (pb qb n i k : Nat) (a : Option Addr) (len cap : Nat) (Z : Nat → Int) (W : World) (hp : W.cell? ⟨pb, 0, none⟩ = some (.int .i64 n)) (hq : W.cell? ⟨qb, 0, none⟩ = some (.slice a len cap)) (hr : URow W a len cap Z) (hi : i ≤ 7) (hn : n ≤ 7) (hk : k ≤ 7) :
    Calls Tryd.prog 16 #[.int .i64 i, .int .i64 k, .pointer (some ⟨pb, 0, none⟩), .pointer (some ⟨qb, 0, none⟩)] W fun e w' => e = .returned (.int .u64 (atR len Z n i k)) ∧ W = w' := by
  obtain ⟨hc, hm, hz, hcell⟩ := hr
  obtain ⟨x, hx⟩ : ∃ x : Nat, i * n = x := ⟨_, rfl⟩
  have hxi : (i : Int) * (n : Int) = (x : Int) := by rw [← hx]; push_cast; rfl
  have hxb : x ≤ 49 := by rw [← hx]; exact Nat.mul_le_mul hi hn
  unfold atR
  rw [hx]
  clear hx
  unfold maxLen at hm
  by_cases h : x + k < len
  · rw [if_pos h]
    obtain ⟨b, o, rfl, hlt, hcl⟩ := hcell (by omega)
    have cc := hcl (x + k) h
    obtain ⟨z, hz'⟩ : ∃ z, Z (x + k) = z := ⟨_, rfl⟩
    rw [hz'] at cc ⊢
    have h' : (x : Int) + (k : Int) < (len : Int) := by omega
    have hx2 : ((x : Int) + (k : Int)).toNat = x + k := by omega
    clear hcl hcell hz hz'
    go_enter Tryd.func16, Tryd.ntmps16
    go_wp2
    go_ret
    exact ⟨rfl, rfl⟩
  · rw [if_neg h]
    have h' : ¬ (x : Int) + (k : Int) < (len : Int) := by omega
    clear hcell hz
    go_enter Tryd.func16, Tryd.ntmps16
    go_wp2
    go_ret
    exact ⟨rfl, rfl⟩
set_option maxRecDepth 100000 in
set_option maxHeartbeats 1000000 in
theorem lDigQ (N : Nat) (w : World) (hN : N < 10) :
    Calls Tryd.prog 17 #[.int .u64 N, .int .u64 10] w fun e w' => e = .returned (.string ⟨#[hxB N]⟩) ∧ ∃ k, w' = w.drewN k := by
  have h10 : (N : Int) % 10 = (N : Int) := by omega
  have hS := fun W => sig_slice (N : Int) N (by omega) (by omega) W
  have hd : (N : Int) / 10 = 0 := by omega
  go_enter Tryd.func17, Tryd.ntmps17
  go_wp2
  go_quiet (fail)
  clear hS
  go_wp2
  go_loopw [0, 6] (fun vn vo wr => vn = .int .u64 0 ∧ vo = .string ⟨#[hxB N]⟩ ∧ ∃ k, wr = w.drewN k) (fun vn _ _ => 0)
  case atStart => exact ⟨rfl, rfl, _, rfl⟩
  case round =>
    obtain ⟨rfl, rfl, k, rfl⟩ := hrel
    go_wp2
    go_ret
    exact ⟨rfl, _, rfl⟩
end Go.Proofs.YtaamonmkfgonmaaDoor
