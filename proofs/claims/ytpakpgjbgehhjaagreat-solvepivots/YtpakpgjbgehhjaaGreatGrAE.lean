/-
  Texts put together: SolG SolH SolI.
-/
import Derived.Test.YtpakpgjbgehhjaaGreatProg
import Derived.Test.YtpakpgjbgehhjaaGreatGrZ
import Derived.Test.YtpakpgjbgehhjaaGreatGrAA
import Derived.Test.YtpakpgjbgehhjaaGreatGrAD
import Derived.Test.YtpakpgjbgehhjaaGreatGrT
/-
  The mathematics of SolveBack: what a triangle of whole numbers makes of whole numbers leads back to these, pattern by pattern. No conditions.
-/
namespace Go.Proofs.YtpakpgjbgehhjaaGreat
open Go.RowKit
set_option linter.unusedVariables false

/-- The pattern of the whole number k that isn't minus zero. -/
def IsC (x k : Int) : Prop := IsW x k ∧ x ≠ 9223372036854775808
theorem IsC.only {x y k : Int} (h : IsC x k) (g : IsC y k) : x = y := by
  rcases h.1.same g.1 with e | ⟨z1, z2⟩
  · exact e
  · rcases zero_two x h.1.1 h.1.2.1 ((z_iff x).2 z1) with e1 | e1
    · rcases zero_two y g.1.1 g.1.2.1 ((z_iff y).2 z2) with e2 | e2
      · rw [e1, e2]
      · exact absurd e2 g.2
    · exact absurd e1 h.2
theorem IsW.flip {x k : Int} (h : IsW x k) : IsW (wFlip x) (-k) := by
  obtain ⟨f0, f1⟩ := flip_rng x h.1 h.2.1
  exact ⟨f0, f1, by rw [flip_mag x h.1 h.2.1]; exact h.2.2.1, by rw [flip_sv x h.1 h.2.1, h.2.2.2, Int.neg_mul]⟩
/-- What steps ahead of s have reached. -/
def don (up : Bool) (N s k : Nat) : Prop := if up then N - s ≤ k else k < s
theorem don_succ {up : Bool} {N s k : Nat} (hs : s < N) (hk : k < N) (h : don up N (s + 1) k) : k = svI up N s ∨ (k ≠ svI up N s ∧ don up N s k) := by
  unfold don svI at *
  cases up <;> simp at h ⊢ <;> omega
theorem don_beside (up : Bool) (N s i : Nat) (hs : s < N) (hi : i < tn up N (svI up N s)) : tb up (svI up N s) + i < N ∧ don up N s (tb up (svI up N s) + i) := by
  unfold don svI tb tn at *
  cases up <;> simp at hi ⊢ <;> omega
end Go.Proofs.YtpakpgjbgehhjaaGreat

/-
  The mathematics of SolveOnes and MulOnes: what is joined with zeros stays; a power of two goes out as it came in. No conditions.
-/
namespace Go.Proofs.YtpakpgjbgehhjaaGreat
open Go.RowKit
set_option linter.unusedVariables false
set_option linter.unusedSimpArgs false

end Go.Proofs.YtpakpgjbgehhjaaGreat

/-
  The mathematics of SolveNears: what Trsv leaves is near, row by row, where nothing was too great, too small or invalid. No conditions but small sizes.
-/
namespace Go.Proofs.YtpakpgjbgehhjaaGreat
open Go.RowKit
set_option linter.unusedVariables false

theorem addS_rngF (a b : Int) (h0 : 0 ≤ a) (h1 : a < 18446744073709551616) (g0 : 0 ≤ b) (g1 : b < 18446744073709551616) : 0 ≤ (addS a b).2 ∧ (addS a b).2 ≤ 31 := by
  have := addS_bd a b h0 h1 g0 g1
  omega
theorem subS_rngF (a b : Int) (h0 : 0 ≤ a) (h1 : a < 18446744073709551616) (g0 : 0 ≤ b) (g1 : b < 18446744073709551616) : 0 ≤ (subS a b).2 ∧ (subS a b).2 ≤ 31 := by
  obtain ⟨f0, f1⟩ := flip_rng b g0 g1
  exact addS_rngF a _ h0 h1 f0 f1
theorem gatS_rngF (F f : Int) (A X : Nat → Int) (b n : Nat) (h0 : 0 ≤ F) (h1 : F ≤ 31) (f0 : 0 ≤ f) (f1 : f < 18446744073709551616) : 0 ≤ gatF subS F f A X b n ∧ gatF subS F f A X b n ≤ 31 := by
  induction n with
  | zero => exact ⟨h0, h1⟩
  | succ k ih =>
    obtain ⟨v0, v1⟩ := gatV_rngS f A X b k f0 f1
    obtain ⟨m0, m1, m2, m3⟩ := mulS_bd (A (b + k)) (X (b + k))
    obtain ⟨s0, s1⟩ := subS_rngF _ _ v0 v1 m0 m1
    obtain ⟨o0, o1⟩ := or_rng _ _ ih.1 ih.2 m2 m3
    exact or_rng _ _ o0 o1 s0 s1
/-- No Over, Under, Invalid of the whole: none of any step. -/
theorem gatS_mask (F f : Int) (A X : Nat → Int) (b : Nat) (h0 : 0 ≤ F) (h1 : F ≤ 31) (f0 : 0 ≤ f) (f1 : f < 18446744073709551616) : ∀ n, bits .and .u8 (gatF subS F f A X b n) 22 = 0 → bits .and .u8 F 22 = 0 ∧ ∀ k, k < n → bits .and .u8 (mulS (A (b + k)) (X (b + k))).2 22 = 0 ∧ bits .and .u8 (subS (gatV subS f A X b k) (mulS (A (b + k)) (X (b + k))).1).2 22 = 0
  | 0, h => ⟨h, fun k hk => absurd hk (Nat.not_lt_zero k)⟩
  | n + 1, h => by
    obtain ⟨v0, v1⟩ := gatV_rngS f A X b n f0 f1
    obtain ⟨g0, g1⟩ := gatS_rngF F f A X b n h0 h1 f0 f1
    obtain ⟨m0, m1, m2, m3⟩ := mulS_bd (A (b + n)) (X (b + n))
    obtain ⟨s0, s1⟩ := subS_rngF _ _ v0 v1 m0 m1
    obtain ⟨o0, o1⟩ := or_rng _ _ g0 g1 m2 m3
    obtain ⟨a1, a2⟩ := or_and 22 _ _ o0 o1 s0 s1 h
    obtain ⟨b1, b2⟩ := or_and 22 _ _ g0 g1 m2 m3 a1
    obtain ⟨i1, i2⟩ := gatS_mask F f A X b h0 h1 f0 f1 n b1
    refine ⟨i1, fun k hk => ?_⟩
    by_cases e : k = n
    · subst e; exact ⟨b2, a2⟩
    · exact i2 k (by omega)
theorem svF_rng (up un : Bool) (F : Int) (Z : Nat → Int) (S C : Nat) (Bv : Nat → Int) (h0 : 0 ≤ F) (h1 : F ≤ 31) (hB : ∀ i, 0 ≤ Bv i ∧ Bv i < 18446744073709551616) : ∀ s, 0 ≤ svF up un F Z S C Bv s ∧ svF up un F Z S C Bv s ≤ 31
  | 0 => ⟨h0, h1⟩
  | s + 1 => by
    obtain ⟨i0, i1⟩ := svF_rng up un F Z S C Bv h0 h1 hB s
    obtain ⟨b0, b1⟩ := hB (svI up C s)
    have hg := gatS_rngF (svF up un F Z S C Bv s) (Bv (svI up C s)) (fun k => Z (svI up C s * S + k)) (svX up un Z S C Bv s) (tb up (svI up C s)) (tn up C (svI up C s)) i0 i1 b0 b1
    unfold svF
    cases un
    · obtain ⟨_, _, d0, d1⟩ := divS_bd (svR up Z S C Bv (svX up false Z S C Bv s) (svI up C s)) (Z (svI up C s * S + svI up C s))
      exact or_rng _ _ hg.1 hg.2 d0 d1
    · exact hg
/-- Of each step: none of the flags. -/
theorem svF_mask (up un : Bool) (F : Int) (Z : Nat → Int) (S C : Nat) (Bv : Nat → Int) (h0 : 0 ≤ F) (h1 : F ≤ 31) (hB : ∀ i, 0 ≤ Bv i ∧ Bv i < 18446744073709551616) : ∀ n, bits .and .u8 (svF up un F Z S C Bv n) 22 = 0 → ∀ s, s < n →
    (∀ k, k < tn up C (svI up C s) → bits .and .u8 (mulS (Z (svI up C s * S + (tb up (svI up C s) + k))) (svX up un Z S C Bv s (tb up (svI up C s) + k))).2 22 = 0 ∧ bits .and .u8 (subS (gatV subS (Bv (svI up C s)) (fun k => Z (svI up C s * S + k)) (svX up un Z S C Bv s) (tb up (svI up C s)) k) (mulS (Z (svI up C s * S + (tb up (svI up C s) + k))) (svX up un Z S C Bv s (tb up (svI up C s) + k))).1).2 22 = 0)
    ∧ (un = false → bits .and .u8 (divS (svR up Z S C Bv (svX up un Z S C Bv s) (svI up C s)) (Z (svI up C s * S + svI up C s))).2 22 = 0)
  | 0, _, s, hs => absurd hs (Nat.not_lt_zero s)
  | n + 1, h, s, hs => by
    obtain ⟨i0, i1⟩ := svF_rng up un F Z S C Bv h0 h1 hB n
    obtain ⟨b0, b1⟩ := hB (svI up C n)
    have hg := gatS_rngF (svF up un F Z S C Bv n) (Bv (svI up C n)) (fun k => Z (svI up C n * S + k)) (svX up un Z S C Bv n) (tb up (svI up C n)) (tn up C (svI up C n)) i0 i1 b0 b1
    have key : bits .and .u8 (gatF subS (svF up un F Z S C Bv n) (Bv (svI up C n)) (fun k => Z (svI up C n * S + k)) (svX up un Z S C Bv n) (tb up (svI up C n)) (tn up C (svI up C n))) 22 = 0 ∧ (un = false → bits .and .u8 (divS (svR up Z S C Bv (svX up un Z S C Bv n) (svI up C n)) (Z (svI up C n * S + svI up C n))).2 22 = 0) := by
      unfold svF at h
      cases un
      · obtain ⟨_, _, d0, d1⟩ := divS_bd (svR up Z S C Bv (svX up false Z S C Bv n) (svI up C n)) (Z (svI up C n * S + svI up C n))
        obtain ⟨a1, a2⟩ := or_and 22 _ _ hg.1 hg.2 d0 d1 h
        exact ⟨a1, fun _ => a2⟩
      · exact ⟨h, fun e => by cases e⟩
    obtain ⟨m1, m2⟩ := gatS_mask _ _ _ _ _ i0 i1 b0 b1 _ key.1
    by_cases e : s = n
    · subst e
      exact ⟨m2, key.2⟩
    · exact svF_mask up un F Z S C Bv h0 h1 hB n m1 s (by omega)
/-- What a step has answered, stays. -/
theorem svX_stay (up un : Bool) (Z : Nat → Int) (S C : Nat) (Bv : Nat → Int) (s : Nat) : ∀ n, s ≤ n → n ≤ C → ∀ k, k < C → don up C s k → svX up un Z S C Bv n k = svX up un Z S C Bv s k
  | 0, h, _, k, _, _ => by rw [show s = 0 by omega]
  | n + 1, h, hC, k, hk, hd => by
    by_cases e : s = n + 1
    · rw [e]
    · have hne : k ≠ svI up C n := by
        intro g
        unfold don svI at *
        cases up <;> simp at hd g <;> omega
      have hstep : svX up un Z S C Bv (n + 1) k = if k = svI up C n then svQ un (svR up Z S C Bv (svX up un Z S C Bv n) (svI up C n)) (Z (svI up C n * S + svI up C n)) else svX up un Z S C Bv n k := rfl
      rw [hstep, if_neg hne]
      exact svX_stay up un Z S C Bv s n (by omega) (by omega) k hk hd
theorem mul22 (a b : Int) (ha : mag a < 9218868437227405312) (hb : mag b < 9218868437227405312) (h : bits .and .u8 (mulS a b).2 22 = 0) : (mulS a b).2 ≤ 1 := by
  rw [mulS_fin _ _ ha hb] at h ⊢
  have := flag_low _ (flag_four _ _) h
  show ((flagP _ _ : Nat) : Int) ≤ 1
  omega
theorem add22 (a b : Int) (ha : mag a < 9218868437227405312) (hb : mag b < 9218868437227405312) (h : bits .and .u8 (addS a b).2 22 = 0) : (addS a b).2 < 4 := by
  rw [addS_fin _ _ ha hb] at h ⊢
  split
  · exact (by decide : (0 : Int) < 4)
  · rename_i hz
    rw [if_neg hz] at h
    have := flag_low _ (flag_four _ _) h
    show ((flagP _ _ : Nat) : Int) < 4
    omega
theorem div22 (a b : Int) (ha : mag a < 9218868437227405312) (hb : mag b < 9218868437227405312) (hz : mag b ≠ 0) (h : bits .and .u8 (divS a b).2 22 = 0) : (divS a b).2 ≤ 1 := by
  rw [divS_fin _ _ ha hb hz] at h ⊢
  split
  · exact (by decide : (0 : Int) ≤ 1)
  · rename_i hza
    rw [if_neg hza] at h
    have h4 : quoF (V (mag a)) (V (mag b)) = 0 ∨ quoF (V (mag a)) (V (mag b)) = 1 ∨ quoF (V (mag a)) (V (mag b)) = 3 ∨ quoF (V (mag a)) (V (mag b)) = 5 := by
      unfold quoF flagM
      exact flag_four _ _
    have := flag_low _ h4 h
    show ((quoF _ _ : Nat) : Int) ≤ 1
    omega
theorem sub_err (a b : Int) (ha : mag a < 9218868437227405312) (hb : mag b < 9218868437227405312) (b0 : 0 ≤ b) (b1 : b < 18446744073709551616) (h : bits .and .u8 (subS a b).2 22 = 0) :
    mag (subS a b).1 < 9218868437227405312 ∧ (sv (subS a b).1 * ((2 ^ uu : Nat) : Int) - (sv a * ((2 ^ uu : Nat) : Int) - sv b * ((2 ^ uu : Nat) : Int))).natAbs * 9007199254740992 ≤ (sv a * ((2 ^ uu : Nat) : Int) - sv b * ((2 ^ uu : Nat) : Int)).natAbs := by
  have hf : mag (wFlip b) < 9218868437227405312 := by rw [flip_mag b b0 b1]; exact hb
  obtain ⟨h1, h2⟩ := add_err a (wFlip b) ha hf (add22 a (wFlip b) ha hf h)
  have h3 := scale_err 9007199254740992 _ _ _ (2 ^ uu) h2
  rw [flip_sv b b0 b1, Int.neg_mul, ← Int.sub_eq_add_neg] at h3
  exact ⟨h1, h3⟩
/-- One row: each product, and each difference, is near. -/
theorem row_near (A X : Nat → Int) (f : Int) (b : Nat) (f0 : 0 ≤ f) (f1 : f < 18446744073709551616) (ff : mag f < 9218868437227405312) : ∀ m : Nat, (∀ k, k < m → mag (A (b + k)) < 9218868437227405312 ∧ mag (X (b + k)) < 9218868437227405312) →
    (∀ k, k < m → bits .and .u8 (mulS (A (b + k)) (X (b + k))).2 22 = 0 ∧ bits .and .u8 (subS (gatV subS f A X b k) (mulS (A (b + k)) (X (b + k))).1).2 22 = 0) →
    mag (gatV subS f A X b m) < 9218868437227405312 ∧ (∀ k, k < m → (sv (mulS (A (b + k)) (X (b + k))).1 * ((2 ^ uu : Nat) : Int) - sv (A (b + k)) * sv (X (b + k))).natAbs * 9007199254740992 ≤ (sv (A (b + k)) * sv (X (b + k))).natAbs)
      ∧ ∀ k, k < m → (sv (gatV subS f A X b (k + 1)) * ((2 ^ uu : Nat) : Int) - (sv (gatV subS f A X b k) * ((2 ^ uu : Nat) : Int) - sv (mulS (A (b + k)) (X (b + k))).1 * ((2 ^ uu : Nat) : Int))).natAbs * 9007199254740992 ≤ (sv (gatV subS f A X b k) * ((2 ^ uu : Nat) : Int) - sv (mulS (A (b + k)) (X (b + k))).1 * ((2 ^ uu : Nat) : Int)).natAbs
  | 0, _, _ => ⟨ff, fun k hk => absurd hk (Nat.not_lt_zero k), fun k hk => absurd hk (Nat.not_lt_zero k)⟩
  | m + 1, hfin, hfl => by
    obtain ⟨i1, i2, i3⟩ := row_near A X f b f0 f1 ff m (fun k hk => hfin k (by omega)) (fun k hk => hfl k (by omega))
    obtain ⟨a1, a2⟩ := hfin m (by omega)
    obtain ⟨g1, g2⟩ := hfl m (by omega)
    obtain ⟨p1, p2⟩ := mul_err _ _ a1 a2 (mul22 _ _ a1 a2 g1)
    obtain ⟨m0, m1⟩ := mulS_rng (A (b + m)) (X (b + m))
    obtain ⟨q1, q2⟩ := sub_err _ _ i1 p1 m0 m1 g2
    refine ⟨q1, fun k hk => ?_, fun k hk => ?_⟩
    · by_cases e : k = m
      · subst e; exact p2
      · exact i2 k (by omega)
    · by_cases e : k = m
      · subst e; exact q2
      · exact i3 k (by omega)
/-- Which step a row belongs to. -/
def stp (up : Bool) (C i : Nat) : Nat := if up then C - 1 - i else i
theorem stp_is (up : Bool) (C i : Nat) (hi : i < C) : stp up C i < C ∧ svI up C (stp up C i) = i := by unfold stp svI; cases up <;> simp <;> omega
theorem don_new (up : Bool) (C s : Nat) (hs : s < C) : don up C (s + 1) (svI up C s) := by unfold don svI; cases up <;> simp <;> omega
/-- What the diagonal makes of an answer. -/
def dgV (un : Bool) (x d : Int) : Int := if un then sv x * ((2 ^ uu : Nat) : Int) else sv x * sv d
/-- One step of Trsv. -/
theorem sv_stepF (F : Int) (F0 : 0 ≤ F) (F1 : F ≤ 31) (up un : Bool) (Z : Nat → Int) (S C : Nat) (Bv : Nat → Int) (hC : C ≤ 100) (hB : ∀ i, 0 ≤ Bv i ∧ Bv i < 18446744073709551616) (fB : ∀ i, i < C → mag (Bv i) < 9218868437227405312)
    (fZ : ∀ i k, i < C → k < C → mag (Z (i * S + k)) < 9218868437227405312) (dz : un = false → ∀ i, i < C → mag (Z (i * S + i)) ≠ 0) (hF : bits .and .u8 (svF up un F Z S C Bv C) 22 = 0) (s : Nat) (hs : s < C)
    (fX : ∀ k, k < C → don up C s k → mag (svX up un Z S C Bv s k) < 9218868437227405312) :
    mag (svX up un Z S C Bv (s + 1) (svI up C s)) < 9218868437227405312 ∧
      (sv (Bv (svI up C s)) * ((2 ^ uu : Nat) : Int) - (fsum (fun k => sv (Z (svI up C s * S + (tb up (svI up C s) + k))) * sv (svX up un Z S C Bv s (tb up (svI up C s) + k))) (tn up C (svI up C s)) + dgV un (svX up un Z S C Bv (s + 1) (svI up C s)) (Z (svI up C s * S + svI up C s)))).natAbs * 9007199254740992
        ≤ (2 * C + 2) * (fabs (fun k => sv (Z (svI up C s * S + (tb up (svI up C s) + k))) * sv (svX up un Z S C Bv s (tb up (svI up C s) + k))) (tn up C (svI up C s)) + (dgV un (svX up un Z S C Bv (s + 1) (svI up C s)) (Z (svI up C s * S + svI up C s))).natAbs) := by
  obtain ⟨k1, k2⟩ := svF_mask up un F Z S C Bv F0 F1 hB C hF s hs
  have hstep : svX up un Z S C Bv (s + 1) (svI up C s) = svQ un (svR up Z S C Bv (svX up un Z S C Bv s) (svI up C s)) (Z (svI up C s * S + svI up C s)) := by
    show (if svI up C s = svI up C s then _ else _) = _
    rw [if_pos rfl]
  have hn : tn up C (svI up C s) + 1 ≤ C := by unfold tn svI; cases up <;> simp <;> omega
  have hbs := don_beside up C s
  rw [hstep]
  have hiC : svI up C s < C := by unfold svI; cases up <;> simp <;> omega
  have hR : svR up Z S C Bv (svX up un Z S C Bv s) (svI up C s) = gatV subS (Bv (svI up C s)) (fun k => Z (svI up C s * S + k)) (svX up un Z S C Bv s) (tb up (svI up C s)) (tn up C (svI up C s)) := rfl
  rw [hR]
  obtain ⟨b0, b1⟩ := hB (svI up C s)
  obtain ⟨r1, r2, r3⟩ := row_near (fun k => Z (svI up C s * S + k)) (svX up un Z S C Bv s) (Bv (svI up C s)) (tb up (svI up C s)) b0 b1 (fB _ hiC) (tn up C (svI up C s)) (fun k hk => by
    obtain ⟨g1, g2⟩ := hbs k hs hk
    exact ⟨fZ _ _ hiC g1, fX _ g1 g2⟩) k1
  have hD : mag (svQ un (gatV subS (Bv (svI up C s)) (fun k => Z (svI up C s * S + k)) (svX up un Z S C Bv s) (tb up (svI up C s)) (tn up C (svI up C s))) (Z (svI up C s * S + svI up C s))) < 9218868437227405312 ∧ (dgV un (svQ un (gatV subS (Bv (svI up C s)) (fun k => Z (svI up C s * S + k)) (svX up un Z S C Bv s) (tb up (svI up C s)) (tn up C (svI up C s))) (Z (svI up C s * S + svI up C s))) (Z (svI up C s * S + svI up C s)) - sv (gatV subS (Bv (svI up C s)) (fun k => Z (svI up C s * S + k)) (svX up un Z S C Bv s) (tb up (svI up C s)) (tn up C (svI up C s))) * ((2 ^ uu : Nat) : Int)).natAbs * 9007199254740992 ≤ 2 * (sv (gatV subS (Bv (svI up C s)) (fun k => Z (svI up C s * S + k)) (svX up un Z S C Bv s) (tb up (svI up C s)) (tn up C (svI up C s))) * ((2 ^ uu : Nat) : Int)).natAbs := by
    have fd := fZ _ _ hiC hiC
    have k3 : un = false → bits .and .u8 (divS (gatV subS (Bv (svI up C s)) (fun k => Z (svI up C s * S + k)) (svX up un Z S C Bv s) (tb up (svI up C s)) (tn up C (svI up C s))) (Z (svI up C s * S + svI up C s))).2 22 = 0 := k2
    clear k2
    generalize gatV subS (Bv (svI up C s)) (fun k => Z (svI up C s * S + k)) (svX up un Z S C Bv s) (tb up (svI up C s)) (tn up C (svI up C s)) = r at *
    cases un
    · have hz := dz rfl _ hiC
      exact div_err r _ r1 fd hz (div22 r _ r1 fd hz (k3 rfl))
    · refine ⟨r1, ?_⟩
      show (sv r * _ - sv r * _).natAbs * _ ≤ _
      rw [Int.sub_self]
      simp
  refine ⟨hD.1, ?_⟩
  obtain ⟨_, t2⟩ := tri_row 9007199254740992 _ (tn up C (svI up C s)) (fun k => sv (Z (svI up C s * S + (tb up (svI up C s) + k))) * sv (svX up un Z S C Bv s (tb up (svI up C s) + k))) (fun k => sv (mulS (Z (svI up C s * S + (tb up (svI up C s) + k))) (svX up un Z S C Bv s (tb up (svI up C s) + k))).1 * ((2 ^ uu : Nat) : Int)) (fun k => sv (gatV subS (Bv (svI up C s)) (fun k => Z (svI up C s * S + k)) (svX up un Z S C Bv s) (tb up (svI up C s)) k) * ((2 ^ uu : Nat) : Int)) (by omega) r2 r3 hD.2
  refine Nat.le_trans t2 ?_
  exact Nat.mul_le_mul_right _ (by omega)
theorem fsum_congr (P Q : Nat → Int) : ∀ n, (∀ k, k < n → P k = Q k) → fsum P n = fsum Q n ∧ fabs P n = fabs Q n
  | 0, _ => ⟨rfl, rfl⟩
  | n + 1, h => by
    obtain ⟨a, b⟩ := fsum_congr P Q n (fun k hk => h k (by omega))
    have c := h n (by omega)
    exact ⟨by show fsum P n + P n = fsum Q n + Q n; rw [a, c], by show fabs P n + (P n).natAbs = fabs Q n + (Q n).natAbs; rw [b, c]⟩
/-- P12.2: the answer is near, row by row. -/
theorem sv_nearF (F : Int) (F0 : 0 ≤ F) (F1 : F ≤ 31) (up un : Bool) (Z : Nat → Int) (S C : Nat) (Bv : Nat → Int) (hC : C ≤ 100) (hB : ∀ i, 0 ≤ Bv i ∧ Bv i < 18446744073709551616) (fB : ∀ i, i < C → mag (Bv i) < 9218868437227405312)
    (fZ : ∀ i k, i < C → k < C → mag (Z (i * S + k)) < 9218868437227405312) (dz : un = false → ∀ i, i < C → mag (Z (i * S + i)) ≠ 0) (hF : bits .and .u8 (svF up un F Z S C Bv C) 22 = 0) (i : Nat) (hi : i < C) :
    mag (svX up un Z S C Bv C i) < 9218868437227405312 ∧
      (sv (Bv i) * ((2 ^ uu : Nat) : Int) - (fsum (fun k => sv (Z (i * S + (tb up i + k))) * sv (svX up un Z S C Bv C (tb up i + k))) (tn up C i) + dgV un (svX up un Z S C Bv C i) (Z (i * S + i)))).natAbs * 9007199254740992
        ≤ (2 * C + 2) * (fabs (fun k => sv (Z (i * S + (tb up i + k))) * sv (svX up un Z S C Bv C (tb up i + k))) (tn up C i) + (dgV un (svX up un Z S C Bv C i) (Z (i * S + i))).natAbs) := by
  have fin : ∀ s, s ≤ C → ∀ k, k < C → don up C s k → mag (svX up un Z S C Bv s k) < 9218868437227405312 := by
    intro s
    induction s with
    | zero => intro _ k hk hd; exfalso; unfold don at hd; cases up <;> simp at hd; omega
    | succ s ih =>
      intro hs k hk hd
      rcases don_succ (by omega) hk hd with e | ⟨ne, hd2⟩
      · rw [e]
        exact (sv_stepF F F0 F1 up un Z S C Bv hC hB fB fZ dz hF s (by omega) (ih (by omega))).1
      · have hstep : svX up un Z S C Bv (s + 1) k = if k = svI up C s then svQ un (svR up Z S C Bv (svX up un Z S C Bv s) (svI up C s)) (Z (svI up C s * S + svI up C s)) else svX up un Z S C Bv s k := rfl
        rw [hstep, if_neg ne]
        exact ih (by omega) k hk hd2
  obtain ⟨h1, h2⟩ := stp_is up C i hi
  obtain ⟨g1, g2⟩ := sv_stepF F F0 F1 up un Z S C Bv hC hB fB fZ dz hF (stp up C i) h1 (fin _ (by omega))
  have e1 := svX_stay up un Z S C Bv (stp up C i + 1) C (by omega) (Nat.le_refl _) i hi (by have := don_new up C (stp up C i) h1; rw [h2] at this; exact this)
  have e2 := fsum_congr (fun k => sv (Z (i * S + (tb up i + k))) * sv (svX up un Z S C Bv C (tb up i + k))) (fun k => sv (Z (i * S + (tb up i + k))) * sv (svX up un Z S C Bv (stp up C i) (tb up i + k))) (tn up C i) (fun k hk => by
    have hb := don_beside up C (stp up C i) k h1 (by rw [h2]; exact hk)
    rw [h2] at hb
    show _ * sv (svX up un Z S C Bv C (tb up i + k)) = _ * sv (svX up un Z S C Bv (stp up C i) (tb up i + k))
    rw [svX_stay up un Z S C Bv (stp up C i) C (by omega) (Nat.le_refl _) _ hb.1 hb.2])
  rw [h2] at g1 g2
  rw [e1, e2.1, e2.2]
  exact ⟨g1, g2⟩
theorem svF_low (up un : Bool) (F : Int) (Z : Nat → Int) (S C : Nat) (Bv : Nat → Int) (h0 : 0 ≤ F) (h1 : F ≤ 31) (hB : ∀ i, 0 ≤ Bv i ∧ Bv i < 18446744073709551616) : ∀ n, bits .and .u8 (svF up un F Z S C Bv n) 22 = 0 → bits .and .u8 F 22 = 0
  | 0, h => h
  | n + 1, h => by
    obtain ⟨i0, i1⟩ := svF_rng up un F Z S C Bv h0 h1 hB n
    obtain ⟨b0, b1⟩ := hB (svI up C n)
    have hg := gatS_rngF (svF up un F Z S C Bv n) (Bv (svI up C n)) (fun k => Z (svI up C n * S + k)) (svX up un Z S C Bv n) (tb up (svI up C n)) (tn up C (svI up C n)) i0 i1 b0 b1
    have key : bits .and .u8 (gatF subS (svF up un F Z S C Bv n) (Bv (svI up C n)) (fun k => Z (svI up C n * S + k)) (svX up un Z S C Bv n) (tb up (svI up C n)) (tn up C (svI up C n))) 22 = 0 := by
      unfold svF at h
      cases un
      · obtain ⟨_, _, d0, d1⟩ := divS_bd (svR up Z S C Bv (svX up false Z S C Bv n) (svI up C n)) (Z (svI up C n * S + svI up C n))
        exact (or_and 22 _ _ hg.1 hg.2 d0 d1 h).1
      · exact h
    exact svF_low up un F Z S C Bv h0 h1 hB n (gatS_mask _ _ _ _ _ i0 i1 b0 b1 _ key).1
end Go.Proofs.YtpakpgjbgehhjaaGreat
