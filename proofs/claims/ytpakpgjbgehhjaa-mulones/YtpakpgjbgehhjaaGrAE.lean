/-
  Texts put together: SolG SolH SolI.
-/
import Derived.Test.YtpakpgjbgehhjaaProg
import Derived.Test.YtpakpgjbgehhjaaGrZ
import Derived.Test.YtpakpgjbgehhjaaGrAA
import Derived.Test.YtpakpgjbgehhjaaGrAD
import Derived.Test.YtpakpgjbgehhjaaGrT
/-
  The mathematics of SolveBack: what a triangle of whole numbers makes of whole numbers leads back to these, pattern by pattern. No conditions.
-/
namespace Go.Proofs.Ytpakpgjbgehhjaa
open Go.RowKit
set_option linter.unusedVariables false

/-- The pattern of the whole number k that isn't minus zero. -/
def IsC (x k : Int) : Prop := IsW x k ∧ x ≠ 9223372036854775808
theorem IsC.only {x y k : Int} (h : IsC x k) (g : IsC y k) : x = y := by
  rcases h.1.same g.1 with e | ⟨z1, z2⟩
  · exact e
  · rcases zero_two x h.1.1 h.1.2.1 ((z_iff x).2 z1) with e1 | e1
    · rcases zero_two y g.1.1 g.1.2.1 ((z_iff y).2 z2) with e2 | e2
      · rw [e1, e2]
      · exact absurd e2 g.2
    · exact absurd e1 h.2
theorem rndC (k : Int) (hk : k.natAbs < 9007199254740992) : IsC (rndS (k * ((2 ^ uu : Nat) : Int))).1 k ∧ (rndS (k * ((2 ^ uu : Nat) : Int))).2 = 0 := by
  obtain ⟨h1, h2⟩ := rndW k hk
  refine ⟨⟨h1, fun e => ?_⟩, h2⟩
  by_cases hz : k = 0
  · subst hz
    rw [Int.zero_mul, rnd_zero] at e
    exact absurd e (by decide)
  · have := h1.nonzero hz
    rw [e] at this
    exact this (by decide)
theorem addC {x y a b : Int} (hx : IsC x a) (hy : IsW y b) (hk : (a + b).natAbs < 9007199254740992) : IsC (addS x y).1 (a + b) ∧ (addS x y).2 = 0 := by
  obtain ⟨w1, w2⟩ := addW hx.1 hy hk
  refine ⟨⟨w1, fun e => ?_⟩, w2⟩
  rw [addS_fin x y hx.1.2.2.1 hy.2.2.1] at e
  by_cases hz : (isZ x && isZ y) = true
  · rw [if_pos hz] at e
    rw [Bool.and_eq_true] at hz
    rcases zero_two x hx.1.1 hx.1.2.1 hz.1 with e1 | e1
    · subst e1
      rw [show sgn 0 = false by decide, Bool.false_and] at e
      exact absurd e (by decide)
    · exact hx.2 e1
  · rw [if_neg hz, hx.1.2.2.2, hy.2.2.2, ← Int.add_mul] at e
    exact (rndC (a + b) hk).1.2 e
theorem IsW.flip {x k : Int} (h : IsW x k) : IsW (wFlip x) (-k) := by
  obtain ⟨f0, f1⟩ := flip_rng x h.1 h.2.1
  exact ⟨f0, f1, by rw [flip_mag x h.1 h.2.1]; exact h.2.2.1, by rw [flip_sv x h.1 h.2.1, h.2.2.2, Int.neg_mul]⟩
theorem subC {x y a b : Int} (hx : IsC x a) (hy : IsW y b) (hk : (a - b).natAbs < 9007199254740992) : IsC (subS x y).1 (a - b) ∧ (subS x y).2 = 0 := by
  rw [Int.sub_eq_add_neg] at hk ⊢
  exact addC hx hy.flip hk
/-- A sum of whole products from place b on. -/
def wsumB (a v : Nat → Int) (b : Nat) : Nat → Int
  | 0 => 0
  | n + 1 => wsumB a v b n + a (b + n) * v (b + n)
theorem wsumB_bd (a v : Nat → Int) (b n : Nat) (hp : ∀ i, i < n → (a (b + i) * v (b + i)).natAbs ≤ 5000) : (wsumB a v b n).natAbs ≤ 5000 * n := by
  induction n with
  | zero => exact Nat.le_refl _
  | succ k ih =>
    have h1 := ih (fun i hi => hp i (by omega))
    have h2 := hp k (by omega)
    show (wsumB a v b k + a (b + k) * v (b + k)).natAbs ≤ 5000 * (k + 1)
    generalize a (b + k) * v (b + k) = p at *
    omega
theorem gat_addC (A X a v : Nat → Int) (b n : Nat) (f F : Int) (hf : IsC f F) (hF : F.natAbs ≤ 1000000) (hn : n ≤ 100) (hA : ∀ i, i < n → IsW (A (b + i)) (a (b + i))) (hX : ∀ i, i < n → IsW (X (b + i)) (v (b + i))) (hp : ∀ i, i < n → (a (b + i) * v (b + i)).natAbs ≤ 5000) :
    IsC (gatV addS f A X b n) (F + wsumB a v b n) := by
  induction n with
  | zero => rw [show wsumB a v b 0 = 0 from rfl, Int.add_zero]; exact hf
  | succ k ih =>
    have h1 := ih (by omega) (fun i hi => hA i (by omega)) (fun i hi => hX i (by omega)) (fun i hi => hp i (by omega))
    have h2 := mulW (hA k (by omega)) (hX k (by omega)) (by have := hp k (by omega); omega)
    have h3 := wsumB_bd a v b k (fun i hi => hp i (by omega))
    have h4 := hp k (by omega)
    have e : F + wsumB a v b (k + 1) = F + wsumB a v b k + a (b + k) * v (b + k) := by rw [Int.add_assoc]; rfl
    rw [e]
    exact (addC h1 h2.1 (by generalize a (b + k) * v (b + k) = p at *; omega)).1
theorem gat_subC (A X a v : Nat → Int) (b n : Nat) (f F : Int) (hf : IsC f F) (hF : F.natAbs ≤ 2000000) (hn : n ≤ 100) (hA : ∀ i, i < n → IsW (A (b + i)) (a (b + i))) (hX : ∀ i, i < n → IsW (X (b + i)) (v (b + i))) (hp : ∀ i, i < n → (a (b + i) * v (b + i)).natAbs ≤ 5000) :
    IsC (gatV subS f A X b n) (F - wsumB a v b n) := by
  induction n with
  | zero => rw [show wsumB a v b 0 = 0 from rfl, Int.sub_zero]; exact hf
  | succ k ih =>
    have h1 := ih (by omega) (fun i hi => hA i (by omega)) (fun i hi => hX i (by omega)) (fun i hi => hp i (by omega))
    have h2 := mulW (hA k (by omega)) (hX k (by omega)) (by have := hp k (by omega); omega)
    have h3 := wsumB_bd a v b k (fun i hi => hp i (by omega))
    have h4 := hp k (by omega)
    have e : F - wsumB a v b (k + 1) = F - wsumB a v b k - a (b + k) * v (b + k) := by
      show F - (wsumB a v b k + a (b + k) * v (b + k)) = _
      omega
    rw [e]
    exact (subC h1 h2.1 (by generalize a (b + k) * v (b + k) = p at *; omega)).1
theorem gat_back (A X a v : Nat → Int) (b n : Nat) (f F : Int) (hf : IsC f F) (hF : F.natAbs ≤ 5000) (hn : n ≤ 100) (hA : ∀ i, i < n → IsW (A (b + i)) (a (b + i))) (hX : ∀ i, i < n → IsW (X (b + i)) (v (b + i))) (hp : ∀ i, i < n → (a (b + i) * v (b + i)).natAbs ≤ 5000) :
    gatV subS (gatV addS f A X b n) A X b n = f := by
  have h1 := gat_addC A X a v b n f F hf (by omega) hn hA hX hp
  have h2 := wsumB_bd a v b n hp
  have h3 := gat_subC A X a v b n _ _ h1 (by omega) hn hA hX hp
  rw [show F + wsumB a v b n - wsumB a v b n = F by omega] at h3
  exact h3.only hf
theorem gatV_congr (J : Int → Int → Int × Int) (f : Int) (A X Y : Nat → Int) (b n : Nat) (h : ∀ i, i < n → X (b + i) = Y (b + i)) : gatV J f A X b n = gatV J f A Y b n := by
  induction n with
  | zero => rfl
  | succ k ih =>
    show (J (gatV J f A X b k) (mulS (A (b + k)) (X (b + k))).1).1 = (J (gatV J f A Y b k) (mulS (A (b + k)) (Y (b + k))).1).1
    rw [ih (fun i hi => h i (by omega)), h k (by omega)]
/-- What steps ahead of s have reached. -/
def don (up : Bool) (N s k : Nat) : Prop := if up then N - s ≤ k else k < s
theorem don_all (up : Bool) (N k : Nat) (h : k < N) : don up N N k := by unfold don; cases up <;> simp <;> omega
theorem don_succ {up : Bool} {N s k : Nat} (hs : s < N) (hk : k < N) (h : don up N (s + 1) k) : k = svI up N s ∨ (k ≠ svI up N s ∧ don up N s k) := by
  unfold don svI at *
  cases up <;> simp at h ⊢ <;> omega
theorem don_beside (up : Bool) (N s i : Nat) (hs : s < N) (hi : i < tn up N (svI up N s)) : tb up (svI up N s) + i < N ∧ don up N s (tb up (svI up N s) + i) := by
  unfold don svI tb tn at *
  cases up <;> simp at hi ⊢ <;> omega
theorem sv_back (up : Bool) (Z X a v : Nat → Int) (N : Nat) (hN : N ≤ 7) (hZ : ∀ j, j < N * N → IsW (Z j) (a j) ∧ 0 ≤ a j ∧ a j ≤ 7) (hX : ∀ j, j < N → IsC (X j) (v j) ∧ -600 ≤ v j ∧ v j ≤ 600) :
    ∀ s, s ≤ N → ∀ k, k < N → don up N s k → svX up true Z N N (tmV up true Z N N X) s k = X k
  | 0, _, k, hk, hd => by
    exfalso
    unfold don at hd
    cases up <;> simp at hd; omega
  | s + 1, hs, k, hk, hd => by
    have ih := sv_back up Z X a v N hN hZ hX s (by omega)
    have hstep : svX up true Z N N (tmV up true Z N N X) (s + 1) k = if k = svI up N s then svQ true (svR up Z N N (tmV up true Z N N X) (svX up true Z N N (tmV up true Z N N X) s) (svI up N s)) (Z (svI up N s * N + svI up N s)) else svX up true Z N N (tmV up true Z N N X) s k := rfl
    rw [hstep]
    rcases don_succ (by omega) hk hd with e | ⟨ne, hd2⟩
    · rw [if_pos e]
      have hiN : svI up N s < N := by rw [← e]; exact hk
      have hc := gatV_congr subS (tmV up true Z N N X (svI up N s)) (fun k => Z (svI up N s * N + k)) (svX up true Z N N (tmV up true Z N N X) s) X (tb up (svI up N s)) (tn up N (svI up N s)) (fun i hi => by
        obtain ⟨g1, g2⟩ := don_beside up N s i (by omega) hi
        exact ih _ g1 g2)
      show gatV subS (tmV up true Z N N X (svI up N s)) (fun k => Z (svI up N s * N + k)) (svX up true Z N N (tmV up true Z N N X) s) (tb up (svI up N s)) (tn up N (svI up N s)) = X k
      rw [hc, e]
      have hpl : ∀ j, j < N → svI up N s * N + j < N * N := fun j hj => by
        have : (svI up N s + 1) * N ≤ N * N := Nat.mul_le_mul_right N hiN
        rw [Nat.add_mul, Nat.one_mul] at this
        omega
      obtain ⟨x1, x2, x3⟩ := hX (svI up N s) hiN
      exact gat_back (fun k => Z (svI up N s * N + k)) X (fun k => a (svI up N s * N + k)) v _ _ _ _ x1 (by omega) (by unfold tn; cases up <;> simp <;> omega)
        (fun i hi => (hZ _ (hpl _ (don_beside up N s i (by omega) hi).1)).1)
        (fun i hi => (hX _ (don_beside up N s i (by omega) hi).1).1.1)
        (fun i hi => by
          obtain ⟨_, y1, y2⟩ := hZ _ (hpl _ (don_beside up N s i (by omega) hi).1)
          obtain ⟨_, z1, z2⟩ := hX _ (don_beside up N s i (by omega) hi).1
          show (a (svI up N s * N + (tb up (svI up N s) + i)) * v (tb up (svI up N s) + i)).natAbs ≤ 5000
          rw [Int.natAbs_mul]
          have := Nat.mul_le_mul (show (a (svI up N s * N + (tb up (svI up N s) + i))).natAbs ≤ 7 by omega) (show (v (tb up (svI up N s) + i)).natAbs ≤ 600 by omega)
          omega)
    · rw [if_neg ne]
      exact ih k hk hd2
end Go.Proofs.Ytpakpgjbgehhjaa

/-
  The mathematics of SolveOnes and MulOnes: what is joined with zeros stays; a power of two goes out as it came in. No conditions.
-/
namespace Go.Proofs.Ytpakpgjbgehhjaa
open Go.RowKit
set_option linter.unusedVariables false
set_option linter.unusedSimpArgs false

/-- The same pattern, or zeros both. -/
def Like (f g : Int) : Prop := g = f ∨ (mag f = 0 ∧ mag g = 0 ∧ 0 ≤ g ∧ g < 18446744073709551616)
theorem Like.trans {f g h : Int} (a : Like f g) (b : Like g h) : Like f h := by
  rcases a with rfl | ⟨a1, a2, a3, a4⟩
  · exact b
  · rcases b with rfl | ⟨b1, b2, b3, b4⟩
    · exact .inr ⟨a1, a2, a3, a4⟩
    · exact .inr ⟨a1, b2, b3, b4⟩
theorem Like.mg {f g : Int} (h : Like f g) : mag g = mag f := by
  rcases h with rfl | ⟨a, b, _⟩
  · rfl
  · rw [a, b]
theorem Like.rng {f g : Int} (h : Like f g) (h0 : 0 ≤ f) (h1 : f < 18446744073709551616) : 0 ≤ g ∧ g < 18446744073709551616 := by
  rcases h with rfl | ⟨_, _, a, b⟩
  · exact ⟨h0, h1⟩
  · exact ⟨a, b⟩
theorem sgnB_zero (b : Bool) : mag (sgnB b) = 0 ∧ 0 ≤ sgnB b ∧ sgnB b < 18446744073709551616 := by cases b <;> decide
theorem add_like (f p : Int) (h0 : 0 ≤ f) (h1 : f < 18446744073709551616) (hf : mag f < 9218868437227405312) (hp : mag p = 0) : Like f (addS f p).1 := by
  rw [addS_fin f p hf (by omega)]
  by_cases hz : mag f = 0
  · rw [(z_iff f).2 hz, (z_iff p).2 hp, if_pos (show (true && true) = true from rfl)]
    obtain ⟨a, b, c⟩ := sgnB_zero (sgn f && sgn p)
    exact .inr ⟨hz, a, b, c⟩
  · rw [(z_not f).2 hz, if_neg (by simp), sv_zero p hp, Int.add_zero, rnd_self f h0 h1 hf hz]
    exact .inl rfl
theorem sub_like (f p : Int) (h0 : 0 ≤ f) (h1 : f < 18446744073709551616) (hf : mag f < 9218868437227405312) (hp : mag p = 0) (p0 : 0 ≤ p) (p1 : p < 18446744073709551616) : Like f (subS f p).1 :=
  add_like f (wFlip p) h0 h1 hf (by rw [flip_mag p p0 p1]; exact hp)
theorem mul_nought (p y : Int) (hp : mag p = 0) (hy : mag y < 9218868437227405312) : mag (mulS p y).1 = 0 := by
  rw [mulS_fin p y (by omega) hy, hp, V_zero, Nat.zero_mul, numP_zero]
  show mag (sgnB (sgn p != sgn y) + 0) = 0
  rw [Int.add_zero]
  exact (sgnB_zero _).1
theorem gat_likeA (A X : Nat → Int) (b n : Nat) (f : Int) (h0 : 0 ≤ f) (h1 : f < 18446744073709551616) (hf : mag f < 9218868437227405312) (hA : ∀ i, i < n → mag (A (b + i)) = 0) (hX : ∀ i, i < n → mag (X (b + i)) < 9218868437227405312) : Like f (gatV addS f A X b n) := by
  induction n with
  | zero => exact .inl rfl
  | succ k ih =>
    have i1 := ih (fun i hi => hA i (by omega)) (fun i hi => hX i (by omega))
    obtain ⟨r0, r1⟩ := i1.rng h0 h1
    exact i1.trans (add_like _ _ r0 r1 (by rw [i1.mg]; exact hf) (mul_nought _ _ (hA k (by omega)) (hX k (by omega))))
theorem gat_likeS (A X : Nat → Int) (b n : Nat) (f : Int) (h0 : 0 ≤ f) (h1 : f < 18446744073709551616) (hf : mag f < 9218868437227405312) (hA : ∀ i, i < n → mag (A (b + i)) = 0) (hX : ∀ i, i < n → mag (X (b + i)) < 9218868437227405312) : Like f (gatV subS f A X b n) := by
  induction n with
  | zero => exact .inl rfl
  | succ k ih =>
    have i1 := ih (fun i hi => hA i (by omega)) (fun i hi => hX i (by omega))
    obtain ⟨r0, r1⟩ := i1.rng h0 h1
    obtain ⟨m0, m1⟩ := mulS_rng (A (b + k)) (X (b + k))
    exact i1.trans (sub_like _ _ r0 r1 (by rw [i1.mg]; exact hf) (mul_nought _ _ (hA k (by omega)) (hX k (by omega))) m0 m1)
/-- The pattern of 2^(q - 1022), and what stands for it. -/
theorem pow_pat (q : Nat) (hq : q ≤ 2044) : mag ((4503599627370496 + q * 4503599627370496 : Nat) : Int) = 4503599627370496 + q * 4503599627370496 ∧ sgn ((4503599627370496 + q * 4503599627370496 : Nat) : Int) = false ∧ V (4503599627370496 + q * 4503599627370496) = 2 ^ (52 + q) := by
  refine ⟨?_, ?_, ?_⟩
  · unfold mag; omega
  · unfold sgn; exact decide_eq_false (by omega)
  · rw [V_split 4503599627370496 q (by decide) (.inl (Nat.le_refl _)), one_is q (52 + q) rfl]
theorem pat_at (m t : Nat) (h0 : 4503599627370496 ≤ m) (h1 : m < 9007199254740992) (ht : t ≤ 2044) : numP m ((t : Int) - 1074) = m + t * 4503599627370496 ∧ m + t * 4503599627370496 < 9218868437227405312 := by
  have h := patP_exact m ((t : Int) - 1074) (by omega) h1 (by omega) (.inl h0)
  have e : ((t : Int) - 1074 + 1074).toNat = t := by omega
  rw [e] at h
  have hb : m + t * 4503599627370496 < 9218868437227405312 := by omega
  unfold numP
  rw [h]
  omega
/-- A number times a power of two, not too great nor too small. -/
theorem mul_pow (x : Int) (q m t : Nat) (hx : mag x = m + t * 4503599627370496) (h0 : 4503599627370496 ≤ m) (h1 : m < 9007199254740992) (hq : q ≤ 2044) (ht : t ≤ 2044) (hl : 1022 ≤ t + q) (hu : t + q ≤ 3066) :
    (mulS ((4503599627370496 + q * 4503599627370496 : Nat) : Int) x).1 = sgnB (sgn x) + ((m + (t + q - 1022) * 4503599627370496 : Nat) : Int) := by
  obtain ⟨p1, p2, p3⟩ := pow_pat q hq
  obtain ⟨a1, a2⟩ := pat_at m (t + q - 1022) h0 h1 (by omega)
  have hV : V (m + t * 4503599627370496) = m * 2 ^ t := V_split m t (by omega) (.inl h0)
  rw [mulS_fin _ x (by rw [p1]; omega) (by omega), p1, p2, p3, hx, hV, Bool.false_bne]
  have e : 2 ^ (52 + q) * (m * 2 ^ t) = m * 2 ^ (52 + q + t) := by
    rw [Nat.pow_add 2 (52 + q) t]
    simp only [Nat.mul_comm, Nat.mul_left_comm, Nat.mul_assoc]
  rw [e, numP_scale, show (-2148 : Int) + ((52 + q + t : Nat) : Int) = ((t + q - 1022 : Nat) : Int) - 1074 by omega, a1]
theorem div_pow (x : Int) (q m t : Nat) (hx : mag x = m + t * 4503599627370496) (h0 : 4503599627370496 ≤ m) (h1 : m < 9007199254740992) (hq : q ≤ 2044) (ht : t ≤ 2044) (hl : q ≤ t + 1022) (hu : t + 1022 ≤ q + 2044) :
    (divS x ((4503599627370496 + q * 4503599627370496 : Nat) : Int)).1 = sgnB (sgn x) + ((m + (t + 1022 - q) * 4503599627370496 : Nat) : Int) := by
  obtain ⟨p1, p2, p3⟩ := pow_pat q hq
  obtain ⟨a1, a2⟩ := pat_at m (t + 1022 - q) h0 h1 (by omega)
  have hV : V (m + t * 4503599627370496) = m * 2 ^ t := V_split m t (by omega) (.inl h0)
  have hj : 52 + q ≤ jj := by rw [show jj = 3000 from rfl]; omega
  rw [divS_fin x _ (by omega) (by rw [p1]; omega) (by rw [p1]; omega), (z_not x).2 (by omega), if_neg (by simp), p1, p2, p3, hx, hV, Bool.bne_false, (quo_pow _ _ hj).1, numP_scale, show -((52 + q : Nat) : Int) + (t : Int) = ((t + 1022 - q : Nat) : Int) - 1074 by omega, a1]
theorem div_nought (x d : Int) (hx : mag x = 0) (hd : mag d < 9218868437227405312) (hz : mag d ≠ 0) : mag (divS x d).1 = 0 := by
  rw [divS_fin x d (by omega) hd hz, (z_iff x).2 hx, if_pos rfl]
  exact (sgnB_zero _).1
theorem pow_t (m t G : Nat) (e : G = m + t * 4503599627370496) (hn : 4503599627370496 ≤ m ∨ t = 0) (hm : m < 9007199254740992) (h1 : 100 * 4503599627370496 ≤ G) (h2 : G < 1901 * 4503599627370496) : 4503599627370496 ≤ m ∧ 98 ≤ t ∧ t ≤ 1900 := by omega
theorem pow_T (t q : Nat) (h1 : 98 ≤ t) (h2 : t ≤ 1900) (h3 : 990 ≤ q) (h4 : q ≤ 1053) : ∃ T, t + q - 1022 = T ∧ T ≤ 2044 ∧ T + 1022 - q = t ∧ q ≤ T + 1022 ∧ T + 1022 ≤ q + 2044 ∧ q ≤ 2044 ∧ t ≤ 2044 ∧ 1022 ≤ t + q ∧ t + q ≤ 3066 := ⟨_, rfl, by omega, by omega, by omega, by omega, by omega, by omega, by omega, by omega⟩
theorem pow_M (m T : Nat) (h1 : m < 9007199254740992) (h0 : 4503599627370496 ≤ m) (h2 : T ≤ 2044) : m + T * 4503599627370496 < 9218868437227405312 ∧ 0 < m + T * 4503599627370496 := by omega
/-- Times a power of two, and divided by it again. -/
theorem pow_back (x r : Int) (q : Nat) (h0 : 0 ≤ x) (h1 : x < 18446744073709551616) (hx : mag x = 0 ∨ (100 * 4503599627370496 ≤ mag x ∧ mag x < 1901 * 4503599627370496)) (hq : 990 ≤ q ∧ q ≤ 1053) (hr : Like (mulS ((4503599627370496 + q * 4503599627370496 : Nat) : Int) x).1 r) :
    Like x (divS r ((4503599627370496 + q * 4503599627370496 : Nat) : Int)).1 ∧ mag r < 9218868437227405312 := by
  obtain ⟨p1, p2, p3⟩ := pow_pat q (by omega)
  obtain ⟨d0, d1⟩ := divS_bd r ((4503599627370496 + q * 4503599627370496 : Nat) : Int)
  rcases hx with hx | ⟨hx1, hx2⟩
  · have hm : mag (mulS ((4503599627370496 + q * 4503599627370496 : Nat) : Int) x).1 = 0 := by rw [mulS_comm]; exact mul_nought x _ hx (by rw [p1]; omega)
    have hr0 : mag r = 0 := by rw [hr.mg, hm]
    exact ⟨.inr ⟨hx, div_nought r _ hr0 (by rw [p1]; omega) (by rw [p1]; omega), by omega, by omega⟩, by omega⟩
  · obtain ⟨m, t, e, _, hm, hn⟩ := V_form (mag x)
    obtain ⟨hm0, t1, t2⟩ := pow_t m t (mag x) e hn hm hx1 hx2
    obtain ⟨T, hT, hT1, hT2, hT3, hT4, hT5, hT6, hT7, hT8⟩ := pow_T t q t1 t2 hq.1 hq.2
    have hp := mul_pow x q m t e hm0 hm hT5 hT6 hT7 hT8
    rw [hT] at hp
    obtain ⟨hM1, hM0⟩ := pow_M m T hm hm0 hT1
    obtain ⟨M, hM⟩ : ∃ M, m + T * 4503599627370496 = M := ⟨_, rfl⟩
    rw [hM] at hp hM1 hM0
    obtain ⟨s1, s2, s3, s4⟩ := sgn_mag (sgn x) M (Nat.lt_trans hM1 (by decide))
    rw [hp] at hr
    have er : r = sgnB (sgn x) + (M : Int) := by
      rcases hr with e1 | ⟨a, _⟩
      · exact e1
      · rw [s1] at a; exact absurd a (Nat.ne_of_gt hM0)
    have hmr : mag r = m + T * 4503599627370496 := by rw [er, s1, hM]
    have hsr : sgn r = sgn x := by rw [er, s2]
    have hd := div_pow r q m T hmr hm0 hm hT5 hT1 hT3 hT4
    rw [hsr, hT2, ← e, ← whole x h0 h1] at hd
    exact ⟨.inl hd, by rw [hmr, hM]; exact hM1⟩
/-- The identity's, or a diagonal's, numbers. -/
def dgn (Z D : Nat → Int) (N : Nat) : Prop := ∀ i k, i < N → k < N → Z (i * N + k) = if i = k then D i else 0
theorem dgn_row {Z D : Nat → Int} {N : Nat} (h : dgn Z D N) (up : Bool) (i j : Nat) (hi : i < N) (hj : j < tn up N i) : mag (Z (i * N + (tb up i + j))) = 0 ∧ tb up i + j < N := by
  have h1 : tb up i + j < N ∧ i ≠ tb up i + j := by unfold tb tn at *; cases up <;> simp at hj ⊢ <;> omega
  rw [h i _ hi h1.1, if_neg h1.2]
  exact ⟨by decide, h1.1⟩
/-- Trmv of a diagonal. -/
theorem diag_mul (up : Bool) (Z D X : Nat → Int) (N : Nat) (h : dgn Z D N) (hX : ∀ k, k < N → mag (X k) < 9218868437227405312) (hY : ∀ k, k < N → mag (mulS (D k) (X k)).1 < 9218868437227405312) (i : Nat) (hi : i < N) : Like (mulS (D i) (X i)).1 (tmV up false Z N N X i) := by
  have e : tmf false Z N X i = (mulS (D i) (X i)).1 := by
    show (mulS (Z (i * N + i)) (X i)).1 = _
    rw [h i i hi hi, if_pos rfl]
  unfold tmV
  rw [e]
  obtain ⟨m0, m1⟩ := mulS_rng (D i) (X i)
  exact gat_likeA (fun k => Z (i * N + k)) X _ _ _ m0 m1 (hY i hi) (fun j hj => (dgn_row h up i j hi hj).1) (fun j hj => hX _ (dgn_row h up i j hi hj).2)
/-- Trsv of a diagonal: what G says of the quotients, holds. -/
theorem diag_sv (up : Bool) (Z D Bv X : Nat → Int) (N : Nat) (h : dgn Z D N) (hB : ∀ k, k < N → 0 ≤ Bv k ∧ Bv k < 18446744073709551616 ∧ mag (Bv k) < 9218868437227405312)
    (hX : ∀ k, k < N → mag (X k) < 9218868437227405312) (hD : ∀ k r, k < N → Like (Bv k) r → Like (X k) (divS r (D k)).1) :
    ∀ s, s ≤ N → ∀ k, k < N → don up N s k → Like (X k) (svX up false Z N N Bv s k)
  | 0, _, k, hk, hd => by
    exfalso
    unfold don at hd
    cases up <;> simp at hd; omega
  | s + 1, hs, k, hk, hd => by
    have ih := diag_sv up Z D Bv X N h hB hX hD s (by omega)
    have hstep : svX up false Z N N Bv (s + 1) k = if k = svI up N s then svQ false (svR up Z N N Bv (svX up false Z N N Bv s) (svI up N s)) (Z (svI up N s * N + svI up N s)) else svX up false Z N N Bv s k := rfl
    rw [hstep]
    rcases don_succ (by omega) hk hd with e | ⟨ne, hd2⟩
    · rw [if_pos e, ← e, h k k hk hk, if_pos rfl]
      obtain ⟨b0, b1, b2⟩ := hB k hk
      refine hD k _ hk (gat_likeS (fun j => Z (k * N + j)) (svX up false Z N N Bv s) _ _ _ b0 b1 b2 (fun j hj => (dgn_row h up k j hk hj).1) (fun j hj => ?_))
      rw [e] at hj ⊢
      obtain ⟨g1, g2⟩ := don_beside up N s j (by omega) hj
      rw [(ih _ g1 g2).mg]
      exact hX _ g1
    · rw [if_neg ne]
      exact ih k hk hd2
/-- The identity leads back. -/
theorem one_back (up : Bool) (Z X : Nat → Int) (N : Nat) (h : dgn Z (fun _ => 4607182418800017408) N) (hX : ∀ k, k < N → 0 ≤ X k ∧ X k < 18446744073709551616 ∧ mag (X k) < 9218868437227405312) (k : Nat) (hk : k < N) : Like (X k) (svX up false Z N N X N k) :=
  diag_sv up Z _ X X N h hX (fun k hk => (hX k hk).2.2) (fun k r hk hr => by
    obtain ⟨x0, x1, x2⟩ := hX k hk
    obtain ⟨r0, r1⟩ := hr.rng x0 x1
    rw [div_one' r r0 r1 (by rw [hr.mg]; exact x2)]
    exact hr) N (Nat.le_refl _) k hk (don_all up N k hk)
/-- A diagonal of powers of two leads back to what it was multiplied with. -/
theorem pows_back (up : Bool) (Z X : Nat → Int) (q : Nat → Nat) (N : Nat) (h : dgn Z (fun i => ((4503599627370496 + q i * 4503599627370496 : Nat) : Int)) N) (hq : ∀ i, i < N → 990 ≤ q i ∧ q i ≤ 1053)
    (hX : ∀ k, k < N → 0 ≤ X k ∧ X k < 18446744073709551616 ∧ (mag (X k) = 0 ∨ (100 * 4503599627370496 ≤ mag (X k) ∧ mag (X k) < 1901 * 4503599627370496))) (k : Nat) (hk : k < N) :
    Like (X k) (svX up false Z N N (tmV up false Z N N X) N k) := by
  have hXf : ∀ k, k < N → mag (X k) < 9218868437227405312 := fun k hk => by have := (hX k hk).2.2; omega
  have hm : ∀ k, k < N → mag (mulS ((4503599627370496 + q k * 4503599627370496 : Nat) : Int) (X k)).1 < 9218868437227405312 := fun k hk => by
    obtain ⟨x0, x1, x2⟩ := hX k hk
    exact (pow_back (X k) _ (q k) x0 x1 x2 (hq k hk) (.inl rfl)).2
  have hY := fun i hi => diag_mul up Z _ X N h hXf hm i hi
  exact diag_sv up Z _ (tmV up false Z N N X) X N h (fun k hk => by
      obtain ⟨m0, m1⟩ := mulS_rng ((4503599627370496 + q k * 4503599627370496 : Nat) : Int) (X k)
      obtain ⟨a, b⟩ := (hY k hk).rng m0 m1
      exact ⟨a, b, by rw [(hY k hk).mg]; exact hm k hk⟩) hXf (fun k r hk hr => by
      obtain ⟨x0, x1, x2⟩ := hX k hk
      exact (pow_back (X k) r (q k) x0 x1 x2 (hq k hk) ((hY k hk).trans hr)).1) N (Nat.le_refl _) k hk (don_all up N k hk)
/-- A sum of products with the identity's column. -/
theorem dot_one (X Y : Nat → Int) (i n : Nat) (hX : ∀ j, j < n → X j = if j = i then 4607182418800017408 else 0) (hY : ∀ j, j < n → 0 ≤ Y j ∧ Y j < 18446744073709551616 ∧ mag (Y j) < 9218868437227405312) :
    (n ≤ i → mag (dotV X Y n) = 0) ∧ (i < n → Like (Y i) (dotV X Y n)) := by
  induction n with
  | zero => exact ⟨fun _ => by show mag 0 = 0; decide, fun h => absurd h (Nat.not_lt_zero _)⟩
  | succ k ih =>
    obtain ⟨i1, i2⟩ := ih (fun j hj => hX j (by omega)) (fun j hj => hY j (by omega))
    obtain ⟨y0, y1, y2⟩ := hY k (by omega)
    obtain ⟨v0, v1⟩ := dotV_rng X Y k
    have e : dotV X Y (k + 1) = (addS (dotV X Y k) (mulS (X k) (Y k)).1).1 := rfl
    have hXk := hX k (by omega)
    rw [e]
    refine ⟨fun h => ?_, fun h => ?_⟩
    · rw [if_neg (by omega)] at hXk
      have hm := mul_nought (X k) (Y k) (by rw [hXk]; decide) y2
      rw [(add_like _ _ v0 v1 (by rw [i1 (by omega)]; decide) hm).mg, i1 (by omega)]
    · by_cases g : i < k
      · rw [if_neg (by omega)] at hXk
        have hm := mul_nought (X k) (Y k) (by rw [hXk]; decide) y2
        have l := i2 g
        exact l.trans (add_like _ _ v0 v1 (by rw [l.mg]; exact (hY i (by omega)).2.2) hm)
      · obtain rfl : i = k := by omega
        rw [if_pos rfl] at hXk
        rw [hXk, mulS_comm, mul_one' _ y0 y1 y2, addS_comm]
        exact add_like _ _ y0 y1 y2 (i1 (Nat.le_refl _))
theorem dotV_comm (X Y : Nat → Int) (n : Nat) : dotV X Y n = dotV Y X n := by
  induction n with
  | zero => rfl
  | succ k ih =>
    show (addS (dotV X Y k) (mulS (X k) (Y k)).1).1 = (addS (dotV Y X k) (mulS (Y k) (X k)).1).1
    rw [ih, mulS_comm]
end Go.Proofs.Ytpakpgjbgehhjaa

/-
  The mathematics of SolveNears: what Trsv leaves is near, row by row, where nothing was too great, too small or invalid. No conditions but small sizes.
-/
namespace Go.Proofs.Ytpakpgjbgehhjaa
open Go.RowKit
set_option linter.unusedVariables false

theorem addS_rngF (a b : Int) (h0 : 0 ≤ a) (h1 : a < 18446744073709551616) (g0 : 0 ≤ b) (g1 : b < 18446744073709551616) : 0 ≤ (addS a b).2 ∧ (addS a b).2 ≤ 31 := by
  have := addS_bd a b h0 h1 g0 g1
  omega
theorem subS_rngF (a b : Int) (h0 : 0 ≤ a) (h1 : a < 18446744073709551616) (g0 : 0 ≤ b) (g1 : b < 18446744073709551616) : 0 ≤ (subS a b).2 ∧ (subS a b).2 ≤ 31 := by
  obtain ⟨f0, f1⟩ := flip_rng b g0 g1
  exact addS_rngF a _ h0 h1 f0 f1
theorem gatS_rngF (F f : Int) (A X : Nat → Int) (b n : Nat) (h0 : 0 ≤ F) (h1 : F ≤ 31) (f0 : 0 ≤ f) (f1 : f < 18446744073709551616) : 0 ≤ gatF subS F f A X b n ∧ gatF subS F f A X b n ≤ 31 := by
  induction n with
  | zero => exact ⟨h0, h1⟩
  | succ k ih =>
    obtain ⟨v0, v1⟩ := gatV_rngS f A X b k f0 f1
    obtain ⟨m0, m1, m2, m3⟩ := mulS_bd (A (b + k)) (X (b + k))
    obtain ⟨s0, s1⟩ := subS_rngF _ _ v0 v1 m0 m1
    obtain ⟨o0, o1⟩ := or_rng _ _ ih.1 ih.2 m2 m3
    exact or_rng _ _ o0 o1 s0 s1
/-- No Over, Under, Invalid of the whole: none of any step. -/
theorem gatS_mask (F f : Int) (A X : Nat → Int) (b : Nat) (h0 : 0 ≤ F) (h1 : F ≤ 31) (f0 : 0 ≤ f) (f1 : f < 18446744073709551616) : ∀ n, bits .and .u8 (gatF subS F f A X b n) 22 = 0 → bits .and .u8 F 22 = 0 ∧ ∀ k, k < n → bits .and .u8 (mulS (A (b + k)) (X (b + k))).2 22 = 0 ∧ bits .and .u8 (subS (gatV subS f A X b k) (mulS (A (b + k)) (X (b + k))).1).2 22 = 0
  | 0, h => ⟨h, fun k hk => absurd hk (Nat.not_lt_zero k)⟩
  | n + 1, h => by
    obtain ⟨v0, v1⟩ := gatV_rngS f A X b n f0 f1
    obtain ⟨g0, g1⟩ := gatS_rngF F f A X b n h0 h1 f0 f1
    obtain ⟨m0, m1, m2, m3⟩ := mulS_bd (A (b + n)) (X (b + n))
    obtain ⟨s0, s1⟩ := subS_rngF _ _ v0 v1 m0 m1
    obtain ⟨o0, o1⟩ := or_rng _ _ g0 g1 m2 m3
    obtain ⟨a1, a2⟩ := or_and 22 _ _ o0 o1 s0 s1 h
    obtain ⟨b1, b2⟩ := or_and 22 _ _ g0 g1 m2 m3 a1
    obtain ⟨i1, i2⟩ := gatS_mask F f A X b h0 h1 f0 f1 n b1
    refine ⟨i1, fun k hk => ?_⟩
    by_cases e : k = n
    · subst e; exact ⟨b2, a2⟩
    · exact i2 k (by omega)
theorem svF_rng (up un : Bool) (F : Int) (Z : Nat → Int) (S C : Nat) (Bv : Nat → Int) (h0 : 0 ≤ F) (h1 : F ≤ 31) (hB : ∀ i, 0 ≤ Bv i ∧ Bv i < 18446744073709551616) : ∀ s, 0 ≤ svF up un F Z S C Bv s ∧ svF up un F Z S C Bv s ≤ 31
  | 0 => ⟨h0, h1⟩
  | s + 1 => by
    obtain ⟨i0, i1⟩ := svF_rng up un F Z S C Bv h0 h1 hB s
    obtain ⟨b0, b1⟩ := hB (svI up C s)
    have hg := gatS_rngF (svF up un F Z S C Bv s) (Bv (svI up C s)) (fun k => Z (svI up C s * S + k)) (svX up un Z S C Bv s) (tb up (svI up C s)) (tn up C (svI up C s)) i0 i1 b0 b1
    unfold svF
    cases un
    · obtain ⟨_, _, d0, d1⟩ := divS_bd (svR up Z S C Bv (svX up false Z S C Bv s) (svI up C s)) (Z (svI up C s * S + svI up C s))
      exact or_rng _ _ hg.1 hg.2 d0 d1
    · exact hg
/-- Of each step: none of the flags. -/
theorem svF_mask (up un : Bool) (F : Int) (Z : Nat → Int) (S C : Nat) (Bv : Nat → Int) (h0 : 0 ≤ F) (h1 : F ≤ 31) (hB : ∀ i, 0 ≤ Bv i ∧ Bv i < 18446744073709551616) : ∀ n, bits .and .u8 (svF up un F Z S C Bv n) 22 = 0 → ∀ s, s < n →
    (∀ k, k < tn up C (svI up C s) → bits .and .u8 (mulS (Z (svI up C s * S + (tb up (svI up C s) + k))) (svX up un Z S C Bv s (tb up (svI up C s) + k))).2 22 = 0 ∧ bits .and .u8 (subS (gatV subS (Bv (svI up C s)) (fun k => Z (svI up C s * S + k)) (svX up un Z S C Bv s) (tb up (svI up C s)) k) (mulS (Z (svI up C s * S + (tb up (svI up C s) + k))) (svX up un Z S C Bv s (tb up (svI up C s) + k))).1).2 22 = 0)
    ∧ (un = false → bits .and .u8 (divS (svR up Z S C Bv (svX up un Z S C Bv s) (svI up C s)) (Z (svI up C s * S + svI up C s))).2 22 = 0)
  | 0, _, s, hs => absurd hs (Nat.not_lt_zero s)
  | n + 1, h, s, hs => by
    obtain ⟨i0, i1⟩ := svF_rng up un F Z S C Bv h0 h1 hB n
    obtain ⟨b0, b1⟩ := hB (svI up C n)
    have hg := gatS_rngF (svF up un F Z S C Bv n) (Bv (svI up C n)) (fun k => Z (svI up C n * S + k)) (svX up un Z S C Bv n) (tb up (svI up C n)) (tn up C (svI up C n)) i0 i1 b0 b1
    have key : bits .and .u8 (gatF subS (svF up un F Z S C Bv n) (Bv (svI up C n)) (fun k => Z (svI up C n * S + k)) (svX up un Z S C Bv n) (tb up (svI up C n)) (tn up C (svI up C n))) 22 = 0 ∧ (un = false → bits .and .u8 (divS (svR up Z S C Bv (svX up un Z S C Bv n) (svI up C n)) (Z (svI up C n * S + svI up C n))).2 22 = 0) := by
      unfold svF at h
      cases un
      · obtain ⟨_, _, d0, d1⟩ := divS_bd (svR up Z S C Bv (svX up false Z S C Bv n) (svI up C n)) (Z (svI up C n * S + svI up C n))
        obtain ⟨a1, a2⟩ := or_and 22 _ _ hg.1 hg.2 d0 d1 h
        exact ⟨a1, fun _ => a2⟩
      · exact ⟨h, fun e => by cases e⟩
    obtain ⟨m1, m2⟩ := gatS_mask _ _ _ _ _ i0 i1 b0 b1 _ key.1
    by_cases e : s = n
    · subst e
      exact ⟨m2, key.2⟩
    · exact svF_mask up un F Z S C Bv h0 h1 hB n m1 s (by omega)
/-- What a step has answered, stays. -/
theorem svX_stay (up un : Bool) (Z : Nat → Int) (S C : Nat) (Bv : Nat → Int) (s : Nat) : ∀ n, s ≤ n → n ≤ C → ∀ k, k < C → don up C s k → svX up un Z S C Bv n k = svX up un Z S C Bv s k
  | 0, h, _, k, _, _ => by rw [show s = 0 by omega]
  | n + 1, h, hC, k, hk, hd => by
    by_cases e : s = n + 1
    · rw [e]
    · have hne : k ≠ svI up C n := by
        intro g
        unfold don svI at *
        cases up <;> simp at hd g <;> omega
      have hstep : svX up un Z S C Bv (n + 1) k = if k = svI up C n then svQ un (svR up Z S C Bv (svX up un Z S C Bv n) (svI up C n)) (Z (svI up C n * S + svI up C n)) else svX up un Z S C Bv n k := rfl
      rw [hstep, if_neg hne]
      exact svX_stay up un Z S C Bv s n (by omega) (by omega) k hk hd
theorem mul22 (a b : Int) (ha : mag a < 9218868437227405312) (hb : mag b < 9218868437227405312) (h : bits .and .u8 (mulS a b).2 22 = 0) : (mulS a b).2 ≤ 1 := by
  rw [mulS_fin _ _ ha hb] at h ⊢
  have := flag_low _ (flag_four _ _) h
  show ((flagP _ _ : Nat) : Int) ≤ 1
  omega
theorem add22 (a b : Int) (ha : mag a < 9218868437227405312) (hb : mag b < 9218868437227405312) (h : bits .and .u8 (addS a b).2 22 = 0) : (addS a b).2 < 4 := by
  rw [addS_fin _ _ ha hb] at h ⊢
  split
  · exact (by decide : (0 : Int) < 4)
  · rename_i hz
    rw [if_neg hz] at h
    have := flag_low _ (flag_four _ _) h
    show ((flagP _ _ : Nat) : Int) < 4
    omega
theorem div22 (a b : Int) (ha : mag a < 9218868437227405312) (hb : mag b < 9218868437227405312) (hz : mag b ≠ 0) (h : bits .and .u8 (divS a b).2 22 = 0) : (divS a b).2 ≤ 1 := by
  rw [divS_fin _ _ ha hb hz] at h ⊢
  split
  · exact (by decide : (0 : Int) ≤ 1)
  · rename_i hza
    rw [if_neg hza] at h
    have h4 : quoF (V (mag a)) (V (mag b)) = 0 ∨ quoF (V (mag a)) (V (mag b)) = 1 ∨ quoF (V (mag a)) (V (mag b)) = 3 ∨ quoF (V (mag a)) (V (mag b)) = 5 := by
      unfold quoF flagM
      exact flag_four _ _
    have := flag_low _ h4 h
    show ((quoF _ _ : Nat) : Int) ≤ 1
    omega
theorem sub_err (a b : Int) (ha : mag a < 9218868437227405312) (hb : mag b < 9218868437227405312) (b0 : 0 ≤ b) (b1 : b < 18446744073709551616) (h : bits .and .u8 (subS a b).2 22 = 0) :
    mag (subS a b).1 < 9218868437227405312 ∧ (sv (subS a b).1 * ((2 ^ uu : Nat) : Int) - (sv a * ((2 ^ uu : Nat) : Int) - sv b * ((2 ^ uu : Nat) : Int))).natAbs * 9007199254740992 ≤ (sv a * ((2 ^ uu : Nat) : Int) - sv b * ((2 ^ uu : Nat) : Int)).natAbs := by
  have hf : mag (wFlip b) < 9218868437227405312 := by rw [flip_mag b b0 b1]; exact hb
  obtain ⟨h1, h2⟩ := add_err a (wFlip b) ha hf (add22 a (wFlip b) ha hf h)
  have h3 := scale_err 9007199254740992 _ _ _ (2 ^ uu) h2
  rw [flip_sv b b0 b1, Int.neg_mul, ← Int.sub_eq_add_neg] at h3
  exact ⟨h1, h3⟩
/-- One row: each product, and each difference, is near. -/
theorem row_near (A X : Nat → Int) (f : Int) (b : Nat) (f0 : 0 ≤ f) (f1 : f < 18446744073709551616) (ff : mag f < 9218868437227405312) : ∀ m : Nat, (∀ k, k < m → mag (A (b + k)) < 9218868437227405312 ∧ mag (X (b + k)) < 9218868437227405312) →
    (∀ k, k < m → bits .and .u8 (mulS (A (b + k)) (X (b + k))).2 22 = 0 ∧ bits .and .u8 (subS (gatV subS f A X b k) (mulS (A (b + k)) (X (b + k))).1).2 22 = 0) →
    mag (gatV subS f A X b m) < 9218868437227405312 ∧ (∀ k, k < m → (sv (mulS (A (b + k)) (X (b + k))).1 * ((2 ^ uu : Nat) : Int) - sv (A (b + k)) * sv (X (b + k))).natAbs * 9007199254740992 ≤ (sv (A (b + k)) * sv (X (b + k))).natAbs)
      ∧ ∀ k, k < m → (sv (gatV subS f A X b (k + 1)) * ((2 ^ uu : Nat) : Int) - (sv (gatV subS f A X b k) * ((2 ^ uu : Nat) : Int) - sv (mulS (A (b + k)) (X (b + k))).1 * ((2 ^ uu : Nat) : Int))).natAbs * 9007199254740992 ≤ (sv (gatV subS f A X b k) * ((2 ^ uu : Nat) : Int) - sv (mulS (A (b + k)) (X (b + k))).1 * ((2 ^ uu : Nat) : Int)).natAbs
  | 0, _, _ => ⟨ff, fun k hk => absurd hk (Nat.not_lt_zero k), fun k hk => absurd hk (Nat.not_lt_zero k)⟩
  | m + 1, hfin, hfl => by
    obtain ⟨i1, i2, i3⟩ := row_near A X f b f0 f1 ff m (fun k hk => hfin k (by omega)) (fun k hk => hfl k (by omega))
    obtain ⟨a1, a2⟩ := hfin m (by omega)
    obtain ⟨g1, g2⟩ := hfl m (by omega)
    obtain ⟨p1, p2⟩ := mul_err _ _ a1 a2 (mul22 _ _ a1 a2 g1)
    obtain ⟨m0, m1⟩ := mulS_rng (A (b + m)) (X (b + m))
    obtain ⟨q1, q2⟩ := sub_err _ _ i1 p1 m0 m1 g2
    refine ⟨q1, fun k hk => ?_, fun k hk => ?_⟩
    · by_cases e : k = m
      · subst e; exact p2
      · exact i2 k (by omega)
    · by_cases e : k = m
      · subst e; exact q2
      · exact i3 k (by omega)
/-- Which step a row belongs to. -/
def stp (up : Bool) (C i : Nat) : Nat := if up then C - 1 - i else i
theorem stp_is (up : Bool) (C i : Nat) (hi : i < C) : stp up C i < C ∧ svI up C (stp up C i) = i := by unfold stp svI; cases up <;> simp <;> omega
theorem don_new (up : Bool) (C s : Nat) (hs : s < C) : don up C (s + 1) (svI up C s) := by unfold don svI; cases up <;> simp <;> omega
/-- What the diagonal makes of an answer. -/
def dgV (un : Bool) (x d : Int) : Int := if un then sv x * ((2 ^ uu : Nat) : Int) else sv x * sv d
/-- One step of Trsv. -/
theorem sv_step (up un : Bool) (Z : Nat → Int) (S C : Nat) (Bv : Nat → Int) (hC : C ≤ 100) (hB : ∀ i, 0 ≤ Bv i ∧ Bv i < 18446744073709551616) (fB : ∀ i, i < C → mag (Bv i) < 9218868437227405312)
    (fZ : ∀ i k, i < C → k < C → mag (Z (i * S + k)) < 9218868437227405312) (dz : un = false → ∀ i, i < C → mag (Z (i * S + i)) ≠ 0) (hF : bits .and .u8 (svF up un 0 Z S C Bv C) 22 = 0) (s : Nat) (hs : s < C)
    (fX : ∀ k, k < C → don up C s k → mag (svX up un Z S C Bv s k) < 9218868437227405312) :
    mag (svX up un Z S C Bv (s + 1) (svI up C s)) < 9218868437227405312 ∧
      (sv (Bv (svI up C s)) * ((2 ^ uu : Nat) : Int) - (fsum (fun k => sv (Z (svI up C s * S + (tb up (svI up C s) + k))) * sv (svX up un Z S C Bv s (tb up (svI up C s) + k))) (tn up C (svI up C s)) + dgV un (svX up un Z S C Bv (s + 1) (svI up C s)) (Z (svI up C s * S + svI up C s)))).natAbs * 9007199254740992
        ≤ (2 * C + 2) * (fabs (fun k => sv (Z (svI up C s * S + (tb up (svI up C s) + k))) * sv (svX up un Z S C Bv s (tb up (svI up C s) + k))) (tn up C (svI up C s)) + (dgV un (svX up un Z S C Bv (s + 1) (svI up C s)) (Z (svI up C s * S + svI up C s))).natAbs) := by
  obtain ⟨k1, k2⟩ := svF_mask up un 0 Z S C Bv (by decide) (by decide) hB C hF s hs
  have hstep : svX up un Z S C Bv (s + 1) (svI up C s) = svQ un (svR up Z S C Bv (svX up un Z S C Bv s) (svI up C s)) (Z (svI up C s * S + svI up C s)) := by
    show (if svI up C s = svI up C s then _ else _) = _
    rw [if_pos rfl]
  have hn : tn up C (svI up C s) + 1 ≤ C := by unfold tn svI; cases up <;> simp <;> omega
  have hbs := don_beside up C s
  rw [hstep]
  have hiC : svI up C s < C := by unfold svI; cases up <;> simp <;> omega
  have hR : svR up Z S C Bv (svX up un Z S C Bv s) (svI up C s) = gatV subS (Bv (svI up C s)) (fun k => Z (svI up C s * S + k)) (svX up un Z S C Bv s) (tb up (svI up C s)) (tn up C (svI up C s)) := rfl
  rw [hR]
  obtain ⟨b0, b1⟩ := hB (svI up C s)
  obtain ⟨r1, r2, r3⟩ := row_near (fun k => Z (svI up C s * S + k)) (svX up un Z S C Bv s) (Bv (svI up C s)) (tb up (svI up C s)) b0 b1 (fB _ hiC) (tn up C (svI up C s)) (fun k hk => by
    obtain ⟨g1, g2⟩ := hbs k hs hk
    exact ⟨fZ _ _ hiC g1, fX _ g1 g2⟩) k1
  have hD : mag (svQ un (gatV subS (Bv (svI up C s)) (fun k => Z (svI up C s * S + k)) (svX up un Z S C Bv s) (tb up (svI up C s)) (tn up C (svI up C s))) (Z (svI up C s * S + svI up C s))) < 9218868437227405312 ∧ (dgV un (svQ un (gatV subS (Bv (svI up C s)) (fun k => Z (svI up C s * S + k)) (svX up un Z S C Bv s) (tb up (svI up C s)) (tn up C (svI up C s))) (Z (svI up C s * S + svI up C s))) (Z (svI up C s * S + svI up C s)) - sv (gatV subS (Bv (svI up C s)) (fun k => Z (svI up C s * S + k)) (svX up un Z S C Bv s) (tb up (svI up C s)) (tn up C (svI up C s))) * ((2 ^ uu : Nat) : Int)).natAbs * 9007199254740992 ≤ 2 * (sv (gatV subS (Bv (svI up C s)) (fun k => Z (svI up C s * S + k)) (svX up un Z S C Bv s) (tb up (svI up C s)) (tn up C (svI up C s))) * ((2 ^ uu : Nat) : Int)).natAbs := by
    have fd := fZ _ _ hiC hiC
    have k3 : un = false → bits .and .u8 (divS (gatV subS (Bv (svI up C s)) (fun k => Z (svI up C s * S + k)) (svX up un Z S C Bv s) (tb up (svI up C s)) (tn up C (svI up C s))) (Z (svI up C s * S + svI up C s))).2 22 = 0 := k2
    clear k2
    generalize gatV subS (Bv (svI up C s)) (fun k => Z (svI up C s * S + k)) (svX up un Z S C Bv s) (tb up (svI up C s)) (tn up C (svI up C s)) = r at *
    cases un
    · have hz := dz rfl _ hiC
      exact div_err r _ r1 fd hz (div22 r _ r1 fd hz (k3 rfl))
    · refine ⟨r1, ?_⟩
      show (sv r * _ - sv r * _).natAbs * _ ≤ _
      rw [Int.sub_self]
      simp
  refine ⟨hD.1, ?_⟩
  obtain ⟨_, t2⟩ := tri_row 9007199254740992 _ (tn up C (svI up C s)) (fun k => sv (Z (svI up C s * S + (tb up (svI up C s) + k))) * sv (svX up un Z S C Bv s (tb up (svI up C s) + k))) (fun k => sv (mulS (Z (svI up C s * S + (tb up (svI up C s) + k))) (svX up un Z S C Bv s (tb up (svI up C s) + k))).1 * ((2 ^ uu : Nat) : Int)) (fun k => sv (gatV subS (Bv (svI up C s)) (fun k => Z (svI up C s * S + k)) (svX up un Z S C Bv s) (tb up (svI up C s)) k) * ((2 ^ uu : Nat) : Int)) (by omega) r2 r3 hD.2
  refine Nat.le_trans t2 ?_
  exact Nat.mul_le_mul_right _ (by omega)
theorem fsum_congr (P Q : Nat → Int) : ∀ n, (∀ k, k < n → P k = Q k) → fsum P n = fsum Q n ∧ fabs P n = fabs Q n
  | 0, _ => ⟨rfl, rfl⟩
  | n + 1, h => by
    obtain ⟨a, b⟩ := fsum_congr P Q n (fun k hk => h k (by omega))
    have c := h n (by omega)
    exact ⟨by show fsum P n + P n = fsum Q n + Q n; rw [a, c], by show fabs P n + (P n).natAbs = fabs Q n + (Q n).natAbs; rw [b, c]⟩
/-- P12.2: the answer is near, row by row. -/
theorem sv_near (up un : Bool) (Z : Nat → Int) (S C : Nat) (Bv : Nat → Int) (hC : C ≤ 100) (hB : ∀ i, 0 ≤ Bv i ∧ Bv i < 18446744073709551616) (fB : ∀ i, i < C → mag (Bv i) < 9218868437227405312)
    (fZ : ∀ i k, i < C → k < C → mag (Z (i * S + k)) < 9218868437227405312) (dz : un = false → ∀ i, i < C → mag (Z (i * S + i)) ≠ 0) (hF : bits .and .u8 (svF up un 0 Z S C Bv C) 22 = 0) (i : Nat) (hi : i < C) :
    mag (svX up un Z S C Bv C i) < 9218868437227405312 ∧
      (sv (Bv i) * ((2 ^ uu : Nat) : Int) - (fsum (fun k => sv (Z (i * S + (tb up i + k))) * sv (svX up un Z S C Bv C (tb up i + k))) (tn up C i) + dgV un (svX up un Z S C Bv C i) (Z (i * S + i)))).natAbs * 9007199254740992
        ≤ (2 * C + 2) * (fabs (fun k => sv (Z (i * S + (tb up i + k))) * sv (svX up un Z S C Bv C (tb up i + k))) (tn up C i) + (dgV un (svX up un Z S C Bv C i) (Z (i * S + i))).natAbs) := by
  have fin : ∀ s, s ≤ C → ∀ k, k < C → don up C s k → mag (svX up un Z S C Bv s k) < 9218868437227405312 := by
    intro s
    induction s with
    | zero => intro _ k hk hd; exfalso; unfold don at hd; cases up <;> simp at hd; omega
    | succ s ih =>
      intro hs k hk hd
      rcases don_succ (by omega) hk hd with e | ⟨ne, hd2⟩
      · rw [e]
        exact (sv_step up un Z S C Bv hC hB fB fZ dz hF s (by omega) (ih (by omega))).1
      · have hstep : svX up un Z S C Bv (s + 1) k = if k = svI up C s then svQ un (svR up Z S C Bv (svX up un Z S C Bv s) (svI up C s)) (Z (svI up C s * S + svI up C s)) else svX up un Z S C Bv s k := rfl
        rw [hstep, if_neg ne]
        exact ih (by omega) k hk hd2
  obtain ⟨h1, h2⟩ := stp_is up C i hi
  obtain ⟨g1, g2⟩ := sv_step up un Z S C Bv hC hB fB fZ dz hF (stp up C i) h1 (fin _ (by omega))
  have e1 := svX_stay up un Z S C Bv (stp up C i + 1) C (by omega) (Nat.le_refl _) i hi (by have := don_new up C (stp up C i) h1; rw [h2] at this; exact this)
  have e2 := fsum_congr (fun k => sv (Z (i * S + (tb up i + k))) * sv (svX up un Z S C Bv C (tb up i + k))) (fun k => sv (Z (i * S + (tb up i + k))) * sv (svX up un Z S C Bv (stp up C i) (tb up i + k))) (tn up C i) (fun k hk => by
    have hb := don_beside up C (stp up C i) k h1 (by rw [h2]; exact hk)
    rw [h2] at hb
    show _ * sv (svX up un Z S C Bv C (tb up i + k)) = _ * sv (svX up un Z S C Bv (stp up C i) (tb up i + k))
    rw [svX_stay up un Z S C Bv (stp up C i) C (by omega) (Nat.le_refl _) _ hb.1 hb.2])
  rw [h2] at g1 g2
  rw [e1, e2.1, e2.2]
  exact ⟨g1, g2⟩
end Go.Proofs.Ytpakpgjbgehhjaa
