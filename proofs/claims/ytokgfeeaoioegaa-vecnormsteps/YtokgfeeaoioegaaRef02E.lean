/-
  What gimbalref02's Sub and Cmp return on lists of bits: the list of the difference, where it isn't below nought; which number is greater. Lists of at most some thousand bits.
-/
import Derived.Test.YtokgfeeaoioegaaRef02D
import Derived.Deep.QuietTactic
import Derived.BigQuiet
import Derived.WalkSmall
namespace Go.Proofs.Ytokgfeeaoioegaa
open Go.RowKit
set_option linter.unusedVariables false

theorem sub_step (zs : List Int) (k : Nat) (d p q t d' : Int) (A B : Nat) (T : Int) (hz : zs.length = k) (h : (val zs : Int) + ((2 ^ k : Nat) : Int) * ((p + 2 * (A : Int)) - d - (q + 2 * (B : Int))) = T) (ht : 0 ≤ t) (he : t - 2 * d' = p - d - q) :
    (val (zs ++ [t]) : Int) + ((2 ^ (k + 1) : Nat) : Int) * ((A : Int) - d' - (B : Int)) = T := by
  rw [val_snoc, hz, ← h]
  obtain ⟨t, rfl⟩ := Int.eq_ofNat_of_zero_le ht
  rw [Int.toNat_natCast, Nat.pow_succ]
  push_cast
  have e : p + 2 * (A : Int) - d - (q + 2 * (B : Int)) = (t : Int) + 2 * ((A : Int) - d' - (B : Int)) := by omega
  rw [e]
  generalize (A : Int) - d' - (B : Int) = M
  rw [Int.mul_add, ← Int.mul_assoc, Int.mul_assoc]
  omega
theorem sub_end (a b z s K : Nat) (h : (z : Int) + (K : Int) * (0 - (s : Int)) = (a : Int) - (b : Int)) (hz : z < K) (hb : b ≤ a) : z = a - b := by
  have e : z = a - b + K * s := by
    have : (K : Int) * (0 - (s : Int)) = -((K * s : Nat) : Int) := by rw [Int.zero_sub, Int.mul_neg]; push_cast; rfl
    rw [this] at h
    omega
  rcases Nat.eq_zero_or_pos s with h0 | h0
  · subst h0; simpa using e
  · have : K ≤ K * s := Nat.le_mul_of_pos_right K h0
    omega

/-- Which of two is greater, as -1, 0, 1. -/
def cmpI (m n : Nat) : Int := if m < n then -1 else if m = n then 0 else 1
theorem cmp_len (m n : Nat) (h : (bl m).length < (bl n).length) : m < n := by
  have h1 := (bl_length_le m (bl m).length).1 (Nat.le_refl _)
  have h2 := (bl_length_lt n (bl m).length).1 h
  omega
theorem cmp_bits (A B : List Int) (k : Nat) (ha : Bin A) (hb : Bin B) (h1 : k < A.length) (h2 : k < B.length) (hd : A.drop (k + 1) = B.drop (k + 1)) (h : bitAt A k < bitAt B k) : val A < val B := by
  have e1 := val_take_drop A k (by omega)
  have e2 := val_take_drop B k (by omega)
  rw [val_drop_bit A k] at e1
  rw [val_drop_bit B k, ← hd] at e2
  have ba := bitAt_bin A k ha
  have bb := bitAt_bin B k hb
  have l1 := val_lt (A.take k) (ha.take k)
  rw [List.length_take, show min k A.length = k by omega] at l1
  have z1 : (bitAt A k).toNat = 0 := by omega
  have z2 : (bitAt B k).toNat = 1 := by omega
  rw [z1] at e1
  rw [z2] at e2
  generalize val (A.drop (k + 1)) = D at *
  rw [e1, e2, Nat.mul_add, Nat.mul_add, Nat.mul_one]
  omega
theorem drop_eq_of (A B : List Int) (k : Nat) (h1 : k < A.length) (h2 : k < B.length) (hd : A.drop (k + 1) = B.drop (k + 1)) (h : bitAt A k = bitAt B k) : A.drop k = B.drop k := by
  rw [List.drop_eq_getElem_cons h1, List.drop_eq_getElem_cons h2, hd, ← bitAt_lt A k h1, ← bitAt_lt B k h2, h]

end Go.Proofs.Ytokgfeeaoioegaa
