/-
  Texts put together: PivT PivU.
-/
import Derived.Test.YtpakpgjbgehhjaaGreatProg
import Derived.Test.YtpakpgjbgehhjaaGreatGrAN
import Derived.Test.YtpakpgjbgehhjaaGreatGrAO
import Derived.Test.YtpakpgjbgehhjaaGreatGrAM
import Derived.Test.YtpakpgjbgehhjaaGreatGrAE
/-
  The mathematics of SolvePivots, from patterns to numbers: what one step does with patterns is near, so that the invariant of elimination goes on. Conditions: none of Over, Under, Invalid.
-/
namespace Go.Proofs.YtpakpgjbgehhjaaGreat
open Go.RowKit
set_option linter.unusedVariables false
set_option linter.unusedSimpArgs false

/-- What stands at (i, k), as a number; zero beyond. -/
def cl (C : Nat) (A : Nat → Nat → Int) (i k : Nat) : Int := if i < C ∧ k < C then sv (A i k) else 0
theorem cl_in {C : Nat} {A : Nat → Nat → Int} {i k : Nat} (hi : i < C) (hk : k < C) : cl C A i k = sv (A i k) := if_pos ⟨hi, hk⟩
theorem cl_congr {C : Nat} {A B : Nat → Nat → Int} {i k : Nat} (h : i < C → k < C → A i k = B i k) : cl C A i k = cl C B i k := by
  unfold cl
  by_cases e : i < C ∧ k < C
  · rw [if_pos e, if_pos e, h e.1 e.2]
  · rw [if_neg e, if_neg e]
theorem mag_le_of (a b : Int) (h : a % 9223372036854775808 ≤ b % 9223372036854775808) : mag a ≤ mag b := by unfold mag; omega
theorem mag_small (l : Int) (h0 : 0 < l) (h1 : l < 9218868437227405312) : mag l = l.toNat ∧ l % 9223372036854775808 = l := by unfold mag; omega
theorem take_math (A B Z : Nat → Nat → Int) (C s : Nat) (now : Bool) (l : Int) (hs : s < C)
    (hB : ∀ i k, i < C → k < C → B i k = if now = true ∧ i = s ∧ k = s then l else A i k)
    (hn : if now = true then A s s % 9223372036854775808 < l else l ≤ A s s % 9223372036854775808) (l0 : 0 < l) (l1 : l < 9218868437227405312)
    (hm : ∀ i k, s ≤ i → i < C → s ≤ k → k < C → A i k % 9223372036854775808 ≤ A s s % 9223372036854775808)
    (fA : ∀ i k, i < C → k < C → mag (A i k) < 9218868437227405312)
    (hv : ∀ i k, i < C → k < C → Z i k = tkV B s i k) (hf : ∀ i k, i < C → k < C → tkF B s i k) :
    TakeI (cl C A) (cl C Z) (fun i k => sv (mulS (Z i s) (A s k)).1) C s (if now = true then V (mag l) else 0) (2 ^ uu) 9007199254740992 ∧ ∀ i k, i < C → k < C → mag (Z i k) < 9218868437227405312 := by
  obtain ⟨ml, hl⟩ := mag_small l l0 l1
  have eB : ∀ i k, i < C → k < C → ¬ (i = s ∧ k = s) → B i k = A i k := fun i k hi hk h => by rw [hB i k hi hk, if_neg (fun g => h g.2)]
  have bss : mag (B s s) ≠ 0 ∧ mag (B s s) < 9218868437227405312 ∧ ∀ i, s ≤ i → i < C → mag (A i s) ≤ mag (B s s) := by
    rw [hB s s hs hs]
    cases now
    · rw [if_neg (fun g => by simp at g)]
      rw [if_neg (by simp)] at hn
      refine ⟨?_, fA s s hs hs, fun i h1 h2 => mag_le_of _ _ (hm i s h1 h2 (Nat.le_refl _) hs)⟩
      have := fA s s hs hs
      unfold mag at *
      omega
    · rw [if_pos ⟨rfl, rfl, rfl⟩]
      rw [if_pos rfl] at hn
      refine ⟨by omega, by omega, fun i h1 h2 => ?_⟩
      have := hm i s h1 h2 (Nat.le_refl _) hs
      unfold mag at *
      omega
  obtain ⟨b0, b1, b2⟩ := bss
  have zT : ∀ i k, i < C → k < C → (i ≤ s ∨ k < s) → Z i k = B i k := fun i k hi hk h => by rw [hv i k hi hk]; unfold tkV; rw [if_pos h]
  have zF : ∀ i, s < i → i < C → Z i s = (divS (A i s) (B s s)).1 ∧ (divS (A i s) (B s s)).2 ≤ 1 := fun i h1 h2 => by
    have e := hv i s h2 hs
    have f := hf i s h2 hs
    unfold tkV at e
    unfold tkF at f
    rw [if_neg (by omega), if_pos rfl, eB i s h2 hs (by omega)] at e
    rw [if_neg (by omega), if_pos rfl, eB i s h2 hs (by omega)] at f
    exact ⟨e, div22 _ _ (fA i s h2 hs) b1 b0 f⟩
  have dF : ∀ i, s < i → i < C → mag (Z i s) < 9218868437227405312 ∧ (sv (Z i s) * sv (B s s) - sv (A i s) * ((2 ^ uu : Nat) : Int)).natAbs * 9007199254740992 ≤ 2 * (sv (A i s) * ((2 ^ uu : Nat) : Int)).natAbs := fun i h1 h2 => by
    obtain ⟨e, f⟩ := zF i h1 h2
    rw [e]
    exact div_err _ _ (fA i s h2 hs) b1 b0 f
  have zR : ∀ i k, s < i → i < C → s < k → k < C → Z i k = (subS (A i k) (mulS (Z i s) (A s k)).1).1 ∧ bits .and .u8 (mulS (Z i s) (A s k)).2 22 = 0 ∧ bits .and .u8 (subS (A i k) (mulS (Z i s) (A s k)).1).2 22 = 0 := fun i k h1 h2 h3 h4 => by
    have e := hv i k h2 h4
    have f := hf i k h2 h4
    unfold tkV at e
    unfold tkF at f
    rw [if_neg (by omega), if_neg (by omega), eB i k h2 h4 (by omega), eB s k hs h4 (by omega), eB i s h2 hs (by omega), ← (zF i h1 h2).1] at e
    rw [if_neg (by omega), if_neg (by omega), eB i k h2 h4 (by omega), eB s k hs h4 (by omega), eB i s h2 hs (by omega), ← (zF i h1 h2).1] at f
    exact ⟨e, f.1, f.2⟩
  have mR : ∀ i k, s < i → i < C → s < k → k < C → mag (mulS (Z i s) (A s k)).1 < 9218868437227405312 ∧ (sv (mulS (Z i s) (A s k)).1 * ((2 ^ uu : Nat) : Int) - sv (Z i s) * sv (A s k)).natAbs * 9007199254740992 ≤ (sv (Z i s) * sv (A s k)).natAbs := fun i k h1 h2 h3 h4 => by
    obtain ⟨_, f, _⟩ := zR i k h1 h2 h3 h4
    have g := fA s k hs h4
    have g2 := (dF i h1 h2).1
    exact mul_err _ _ g2 g (mul22 _ _ g2 g f)
  have sR : ∀ i k, s < i → i < C → s < k → k < C → mag (Z i k) < 9218868437227405312 ∧ (sv (Z i k) * ((2 ^ uu : Nat) : Int) - (sv (A i k) * ((2 ^ uu : Nat) : Int) - sv (mulS (Z i s) (A s k)).1 * ((2 ^ uu : Nat) : Int))).natAbs * 9007199254740992 ≤ (sv (A i k) * ((2 ^ uu : Nat) : Int) - sv (mulS (Z i s) (A s k)).1 * ((2 ^ uu : Nat) : Int)).natAbs := fun i k h1 h2 h3 h4 => by
    obtain ⟨e, _, f⟩ := zR i k h1 h2 h3 h4
    obtain ⟨m0, m1⟩ := mulS_rng (Z i s) (A s k)
    have q := sub_err (A i k) _ (fA i k h2 h4) (mR i k h1 h2 h3 h4).1 m0 m1 f
    rw [← e] at q
    exact q
  refine ⟨⟨fun i k h => ?_, fun i k h => ?_, fun k h => ?_, ?_, fun i h1 h2 => ?_, fun i h1 h2 => ?_, fun i k h1 h2 h3 h4 => ?_, fun i k h1 h2 h3 h4 => ?_⟩, fun i k hi hk => ?_⟩
  · exact cl_congr fun hi hk => by rw [zT i k hi hk (.inr h), eB i k hi hk (by omega)]
  · exact cl_congr fun hi hk => by rw [zT i k hi hk (.inl (by omega)), eB i k hi hk (by omega)]
  · exact cl_congr fun hi hk => by rw [zT s k hi hk (.inl (Nat.le_refl _)), eB s k hi hk (by omega)]
  · rw [cl_in hs hs, cl_in hs hs, zT s s hs hs (.inl (Nat.le_refl _)), hB s s hs hs]
    cases now
    · rw [if_neg (fun g => by simp at g)]
      exact .inl rfl
    · rw [if_pos ⟨rfl, rfl, rfl⟩, if_pos rfl]
      rw [if_pos rfl] at hn
      refine .inr ⟨?_, ?_⟩
      · rw [sv_abs]
        exact V_mono _ _ (by unfold mag at *; omega)
      · rw [sv_abs]
        exact Nat.le_refl _
  · rw [cl_in h2 hs, (zF i h1 h2).1]
    exact div_one_le _ _ (fA i s h2 hs) b1 b0 (b2 i (by omega) h2)
  · rw [cl_in h2 hs, cl_in h2 hs, cl_in hs hs, zT s s hs hs (.inl (Nat.le_refl _))]
    exact (dF i h1 h2).2
  · rw [cl_in h2 hs, cl_in hs h4]
    exact (mR i k h1 h2 h3 h4).2
  · rw [cl_in h2 h4, cl_in h2 h4]
    exact (sR i k h1 h2 h3 h4).2
  · by_cases e : i ≤ s ∨ k < s
    · rw [zT i k hi hk e]
      by_cases e2 : i = s ∧ k = s
      · rw [e2.1, e2.2]; exact b1
      · rw [eB i k hi hk e2]; exact fA i k hi hk
    · by_cases e2 : k = s
      · subst e2
        exact (dF i (by omega) hi).1
      · exact (sR i k (by omega) hi (by omega) hk).1
theorem PivI.more {V' O : Nat → Nat → Int} {n s M L L' T U : Nat} (h : PivI V' O n s M L T U) (hL : L ≤ L') : PivI V' O n s M L' T U where
  low := h.low
  up := h.up
  dia := fun j hj => by have := h.dia j hj; omega
  rest := h.rest
  err := fun i k hi hk => by
    refine Nat.le_trans (h.err i k hi hk) (Nat.add_le_add_left ?_ _)
    split
    · exact Nat.mul_le_mul_right _ (Nat.mul_le_mul_right _ (Nat.mul_le_mul_left _ hL))
    · exact Nat.le_refl _
/-- The system behind s steps of reduce. -/
structure RdI (C D : Nat) (x0 xs : List Int) (rs cs : Nat → Nat) (s M : Nat) (tl : Bool) (l F G : Int) : Prop where
  idx : SyI C D xs rs cs
  pr : Perm rs C
  pc : Perm cs C
  dg : ∀ j, j < s → vw xs rs cs C j j % 9223372036854775808 ≠ 0
  rng : 0 ≤ G ∧ G ≤ 31
  msk : bits .and .u8 G 22 = 0 → bits .and .u8 F 22 = 0 ∧ (∀ i k, i < C → k < C → mag (vw xs rs cs C i k) < 9218868437227405312) ∧ PivI (cl C (vw xs rs cs C)) (fun i k => cl C (vw x0 rs cs C) i k * ((2 ^ uu : Nat) : Int)) C s M (if tl = true then V (mag l) else 0) (2 ^ uu) 9007199254740992
theorem RdI.start (C D : Nat) (xs : List Int) (M : Nat) (l F : Int) (hl : xs.length = D) (hD : C * C = D) (hw : InW xs) (F0 : 0 ≤ F) (F1 : F ≤ 31) (hf : ∀ i k, i < C → k < C → mag (xs[i * C + k]?.getD 0) < 9218868437227405312) (hM : ∀ i k, i < C → k < C → (sv (xs[i * C + k]?.getD 0)).natAbs ≤ M) : RdI C D xs xs (fun k => k) (fun k => k) 0 M false l F F where
  idx := ⟨hl, hD, hw, fun i h => h, fun i h => h, fun i k _ _ h => h, fun i k _ _ h => h⟩
  pr := Perm.start C
  pc := Perm.start C
  dg := fun j h => absurd h (Nat.not_lt_zero j)
  rng := ⟨F0, F1⟩
  msk := fun h => ⟨h, hf, PivI.start _ _ C M _ _ _ (fun i k _ _ => rfl) (fun i k hi hk => by rw [cl_in hi hk]; exact hM i k hi hk)⟩
theorem cl_sw (C : Nat) (xs : List Int) (rs cs : Nat → Nat) (a b c d : Nat) (ha : a < C) (hb : b < C) (hc : c < C) (hd : d < C) : cl C (vw xs (fun k => rs (sw a b k)) (fun k => cs (sw c d k)) C) = fun i k => cl C (vw xs rs cs C) (sw a b i) (sw c d k) := by
  funext i k
  have key : ∀ a b i, a < C → b < C → (sw a b i < C ↔ i < C) := fun a b i ha hb => ⟨fun h => by have := sw_lt a b C _ ha hb h; rw [sw_sw] at this; exact this, sw_lt a b C i ha hb⟩
  have h1 := key a b i ha hb
  have h2 := key c d k hc hd
  show cl C _ i k = cl C _ (sw a b i) (sw c d k)
  unfold cl
  by_cases e : i < C ∧ k < C
  · rw [if_pos e, if_pos ⟨h1.2 e.1, h2.2 e.2⟩]; rfl
  · rw [if_neg e, if_neg (fun g => e ⟨h1.1 g.1, h2.1 g.2⟩)]
theorem tkV_low (A : Nat → Nat → Int) (s j : Nat) (h : j ≤ s) : tkV A s j j = A j j := by unfold tkV; rw [if_pos (.inl h)]
theorem TakeI.more {V0 V' q : Nat → Nat → Int} {n s L L' T U : Nat} (h : TakeI V0 V' q n s L T U) (hL : L ≤ L') : TakeI V0 V' q n s L' T U where
  low := h.low
  top := h.top
  row := h.row
  lead := h.lead.imp (fun e => e) (fun e => ⟨Nat.le_trans e.1 hL, Nat.le_trans e.2 hL⟩)
  fac := h.fac
  div := h.div
  mul := h.mul
  sub := h.sub
theorem RdI.step {C D : Nat} {x0 xs x1 ys : List Int} {rs cs : Nat → Nat} {s M row col : Nat} {tl now : Bool} {l F G G' : Int} (h : RdI C D x0 xs rs cs s M tl l F G) (hs : s < C) (ra : s ≤ row) (rb : row < C) (ca : s ≤ col) (cb : col < C)
    (top : ∀ i k, s ≤ i → i < C → s ≤ k → k < C → vw xs rs cs C i k % 9223372036854775808 ≤ vw xs rs cs C row col % 9223372036854775808) (l0 : 0 < l) (l1 : l < 9218868437227405312)
    (hn : if now = true then vw xs rs cs C row col % 9223372036854775808 < l else l ≤ vw xs rs cs C row col % 9223372036854775808)
    (hB : ∀ i k, i < C → k < C → vw x1 (fun k => rs (sw s row k)) (fun k => cs (sw s col k)) C i k = if now = true ∧ i = s ∧ k = s then l else vw xs (fun k => rs (sw s row k)) (fun k => cs (sw s col k)) C i k)
    (I : SyI C D ys (fun k => rs (sw s row k)) (fun k => cs (sw s col k))) (t : TkI x1 ys (fun k => rs (sw s row k)) (fun k => cs (sw s col k)) C s C 0 G G') :
    RdI C D x0 ys (fun k => rs (sw s row k)) (fun k => cs (sw s col k)) (s + 1) M (tl || now) l F G' := by
  have eA : ∀ i k, vw xs (fun k => rs (sw s row k)) (fun k => cs (sw s col k)) C i k = vw xs rs cs C (sw s row i) (sw s col k) := fun _ _ => rfl
  have e0 : ∀ a, sw s a s = a := fun a => by unfold sw; rw [if_pos rfl]
  have eS : vw xs (fun k => rs (sw s row k)) (fun k => cs (sw s col k)) C s s = vw xs rs cs C row col := by rw [eA, e0, e0]
  have hv : ∀ i k, i < C → k < C → vw ys (fun k => rs (sw s row k)) (fun k => cs (sw s col k)) C i k = tkV (vw x1 (fun k => rs (sw s row k)) (fun k => cs (sw s col k)) C) s i k := fun i k hi hk => (t.val i k hi hk).1 (.inl hi)
  refine ⟨I, h.pr.swap s row hs rb, h.pc.swap s col hs cb, fun j hj => ?_, t.rng, fun g => ?_⟩
  · have hjC : j < C := by omega
    rw [hv j j hjC hjC, tkV_low _ _ _ (by omega), hB j j hjC hjC]
    by_cases e : j = s
    · subst e
      rw [eS]
      cases now
      · rw [if_neg (fun g => by simp at g)]
        rw [if_neg (by simp)] at hn
        omega
      · rw [if_pos ⟨rfl, rfl, rfl⟩]
        omega
    · rw [if_neg (fun g => e g.2.1), eA, sw_low s row s j (Nat.le_refl _) ra (by omega), sw_low s col s j (Nat.le_refl _) ca (by omega)]
      exact h.dg j (by omega)
  · obtain ⟨g1, g2⟩ := t.msk g
    obtain ⟨m1, m2, m3⟩ := h.msk g1
    have tm := take_math (vw xs (fun k => rs (sw s row k)) (fun k => cs (sw s col k)) C) (vw x1 (fun k => rs (sw s row k)) (fun k => cs (sw s col k)) C) (vw ys (fun k => rs (sw s row k)) (fun k => cs (sw s col k)) C) C s now l hs hB (by rw [eS]; exact hn) l0 l1
      (fun i k h1 h2 h3 h4 => by
        rw [eS, eA]
        exact top _ _ (sw_high s row s i (Nat.le_refl _) ra h1) (sw_lt s row C i hs rb h2) (sw_high s col s k (Nat.le_refl _) ca h3) (sw_lt s col C k hs cb h4))
      (fun i k hi hk => by rw [eA]; exact m2 _ _ (sw_lt s row C i hs rb hi) (sw_lt s col C k hs cb hk))
      hv (fun i k hi hk => g2 i k hi hk (.inl hi))
    obtain ⟨t1, t2⟩ := tm
    refine ⟨m1, t2, ?_⟩
    have p1 := m3.swap s row s col (Nat.le_refl _) ra (Nat.le_refl _) ca hs rb hs cb
    have p2 : PivI (cl C (vw xs (fun k => rs (sw s row k)) (fun k => cs (sw s col k)) C)) (fun i k => cl C (vw x0 (fun k => rs (sw s row k)) (fun k => cs (sw s col k)) C) i k * ((2 ^ uu : Nat) : Int)) C s M (if tl = true then V (mag l) else 0) (2 ^ uu) 9007199254740992 := by
      rw [cl_sw C xs rs cs s row s col hs rb hs cb, cl_sw C x0 rs cs s row s col hs rb hs cb]
      exact p1
    have hL1 : (if tl = true then V (mag l) else 0) ≤ (if (tl || now) = true then V (mag l) else 0) := by cases tl <;> cases now <;> simp
    have hL2 : (if now = true then V (mag l) else 0) ≤ (if (tl || now) = true then V (mag l) else 0) := by cases tl <;> cases now <;> simp
    exact (p2.more hL1).take (t1.more hL2) hs (Nat.two_pow_pos _) (by decide)
end Go.Proofs.YtpakpgjbgehhjaaGreat

/-
  The mathematics of SolvePivots, at its end: from the two triangles' answers to how near the whole's answer is to the system, row by row. Conditions: at most four equations; none of Over, Under, Invalid.
-/
namespace Go.Proofs.YtpakpgjbgehhjaaGreat
open Go.RowKit
set_option linter.unusedVariables false
set_option linter.unusedSimpArgs false

theorem fsum_zero : ∀ n, fsum (fun _ => (0 : Int)) n = 0
  | 0 => rfl
  | n + 1 => by show fsum (fun _ => (0 : Int)) n + 0 = 0; rw [fsum_zero n]; rfl
theorem fsum_from (f : Nat → Int) (j : Nat) : ∀ d, fsum (fun k => if j ≤ k then f k else 0) (j + 1 + d) = f j + fsum (fun k => f (j + 1 + k)) d
  | 0 => by
    show fsum (fun k => if j ≤ k then f k else 0) j + (if j ≤ j then f j else 0) = f j + 0
    rw [if_pos (Nat.le_refl _), fsum_eq _ (fun _ => 0) j (fun k hk => if_neg (by omega)), fsum_zero]
    omega
  | d + 1 => by
    have ih := fsum_from f j d
    show fsum (fun k => if j ≤ k then f k else 0) (j + 1 + d) + (if j ≤ j + 1 + d then f (j + 1 + d) else 0) = f j + (fsum (fun k => f (j + 1 + k)) d + f (j + 1 + d))
    rw [ih, if_pos (by omega)]
    omega
theorem fabs_int (f : Nat → Int) : ∀ n, ((fabs f n : Nat) : Int) = fsum (fun k => ((f k).natAbs : Int)) n
  | 0 => rfl
  | n + 1 => by
    have ih := fabs_int f n
    show ((fabs f n + (f n).natAbs : Nat) : Int) = fsum (fun k => ((f k).natAbs : Int)) n + ((f n).natAbs : Int)
    omega
theorem fabs_from (f : Nat → Int) (j d : Nat) : fabs (fun k => if j ≤ k then f k else 0) (j + 1 + d) = (f j).natAbs + fabs (fun k => f (j + 1 + k)) d := by
  have h := fsum_from (fun k => ((f k).natAbs : Int)) j d
  have e1 := fabs_int (fun k => if j ≤ k then f k else 0) (j + 1 + d)
  have e2 := fabs_int (fun k => f (j + 1 + k)) d
  have e3 : fsum (fun k => (((if j ≤ k then f k else 0 : Int)).natAbs : Int)) (j + 1 + d) = fsum (fun k => if j ≤ k then ((f k).natAbs : Int) else 0) (j + 1 + d) := fsum_eq _ _ _ (fun k _ => by
    by_cases e : j ≤ k
    · rw [if_pos e, if_pos e]
    · rw [if_neg e, if_neg e]; rfl)
  rw [e3, h] at e1
  omega
theorem rowU_abs (V : Nat → Nat → Int) (X : Nat → Int) (Q L n j : Nat) (h1 : ∀ k, j < k → k < n → (V j k).natAbs ≤ Q) (h2 : (V j j).natAbs ≤ Q + L) : ∀ m, m ≤ n → fabs (rowU V X n j) m ≤ Q * fabs X m + (if j < m then L * (X j).natAbs else 0)
  | 0, _ => Nat.zero_le _
  | m + 1, hm => by
    have ih := rowU_abs V X Q L n j h1 h2 m (by omega)
    show fabs (rowU V X n j) m + (rowU V X n j m).natAbs ≤ Q * (fabs X m + (X m).natAbs) + _
    rw [Nat.mul_add]
    unfold rowU at ih ⊢
    by_cases e : j ≤ m
    · rw [if_pos e, Int.natAbs_mul, if_pos (by omega)]
      by_cases e2 : j = m
      · subst e2
        rw [if_neg (by omega)] at ih
        have := Nat.mul_le_mul_right (X j).natAbs h2
        rw [Nat.add_mul] at this
        omega
      · rw [if_pos (by omega)] at ih
        have := Nat.mul_le_mul_right (X m).natAbs (h1 m (by omega) (by omega))
        omega
    · rw [if_neg e, if_neg (by omega)]
      rw [if_neg (by omega)] at ih
      have : (0 : Int).natAbs = 0 := rfl
      omega
theorem cut_T (a U M L S T : Nat) (hT : 0 < T) (h : a * T * U ≤ (1000 * M * T + 4 * L * T * U) * S) : a * U ≤ (1000 * M + 4 * L * U) * S := by
  refine Nat.le_of_mul_le_mul_right (Nat.le_trans (Nat.le_of_eq ?_) (Nat.le_trans h (Nat.le_of_eq ?_))) hT
  · rw [Nat.mul_right_comm]
  · rw [Nat.mul_right_comm _ S T, Nat.add_mul (1000 * M) _ T, Nat.mul_right_comm (4 * L) U T]
set_option maxHeartbeats 1000000 in
/-- P12.3: the answer is near, row by row. -/
theorem piv_near (C D M : Nat) (hC : C ≤ 4) (x0 xs : List Int) (rs cs : Nat → Nat) (tl : Bool) (l F G : Int) (h : RdI C D x0 xs rs cs C M tl l F G) (Z : Nat → Int) (hZ : ∀ i k, i < C → k < C → Z (i * C + k) = vw xs rs cs C i k)
    (B : Nat → Int) (hB : ∀ i, 0 ≤ B i ∧ B i < 18446744073709551616) (fB : ∀ i, i < C → mag (B i) < 9218868437227405312) (Y : Nat → Int)
    (hY : ∀ k, k < C → Y (cs k) = svX true false Z C C (svX false true Z C C (fun i => B (rs i)) C) C k)
    (yr : ∀ i, 0 ≤ svX false true Z C C (fun i => B (rs i)) C i ∧ svX false true Z C C (fun i => B (rs i)) C i < 18446744073709551616)
    (hF : bits .and .u8 (svF true false (svF false true G Z C C (fun i => B (rs i)) C) Z C C (svX false true Z C C (fun i => B (rs i)) C) C) 22 = 0) :
    (∀ i, i < C → mag (Y i) < 9218868437227405312) ∧ ∀ i, i < C → (fsum (fun k => sv (x0[i * C + k]?.getD 0) * sv (Y k)) C - sv (B i) * ((2 ^ uu : Nat) : Int)).natAbs * 9007199254740992 ≤ (1000 * M + 4 * (if tl = true then V (mag l) else 0) * 9007199254740992) * fabs (fun k => sv (Y k)) C := by
  obtain ⟨g0, g1⟩ := h.rng
  have hB2 : ∀ i, 0 ≤ (fun i => B (rs i)) i ∧ (fun i => B (rs i)) i < 18446744073709551616 := fun i => hB (rs i)
  have fB2 : ∀ i, i < C → mag ((fun i => B (rs i)) i) < 9218868437227405312 := fun i hi => fB _ (h.pr.lt i hi)
  generalize hBv : (fun i => B (rs i)) = Bv at *
  obtain ⟨f0, f1⟩ := svF_rng false true G Z C C Bv g0 g1 hB2 C
  have hF1 := svF_low true false _ Z C C _ f0 f1 yr C hF
  obtain ⟨_, fin, pv⟩ := h.msk (svF_low false true G Z C C Bv g0 g1 hB2 C hF1)
  generalize hL : (if tl = true then V (mag l) else 0) = L at *
  have fZ : ∀ i k, i < C → k < C → mag (Z (i * C + k)) < 9218868437227405312 := fun i k hi hk => by rw [hZ i k hi hk]; exact fin i k hi hk
  have dz : ∀ i, i < C → mag (Z (i * C + i)) ≠ 0 := fun i hi => by
    rw [hZ i i hi hi]
    have := h.dg i hi
    unfold mag
    omega
  have n1 := sv_nearF G g0 g1 false true Z C C Bv (by omega) hB2 fB2 fZ (fun e => by cases e) hF1
  generalize svF false true G Z C C Bv C = F2 at *
  generalize svX false true Z C C Bv C = Y1 at *
  have n2 := sv_nearF F2 f0 f1 true false Z C C Y1 (by omega) yr (fun i hi => (n1 i hi).1) fZ (fun _ => dz) hF
  generalize svX true false Z C C Y1 C = X1 at *
  have hYf : ∀ i, i < C → mag (Y i) < 9218868437227405312 := fun i hi => by
    obtain ⟨k, hk, e⟩ := h.pc.onto i hi
    rw [← e, hY k hk]
    exact (n2 k hk).1
  refine ⟨hYf, fun i0 hi0 => ?_⟩
  obtain ⟨i, hi, ei⟩ := h.pr.onto i0 hi0
  have vz : ∀ i k, i < C → k < C → cl C (vw xs rs cs C) i k = sv (Z (i * C + k)) := fun i k hi hk => by rw [cl_in hi hk, hZ i k hi hk]
  have row := piv_row (cl C (vw xs rs cs C)) (fun i k => cl C (vw x0 rs cs C) i k * ((2 ^ uu : Nat) : Int)) (fun k => sv (X1 k)) (fun k => sv (Y1 k)) (fun i => sv (Bv i)) C (2 ^ uu) M L 9007199254740992 hC (by decide)
    (fun i j hji hi => pv.low i j hji hi (by omega))
    (fun j hj => by
      have := rowU_abs (cl C (vw xs rs cs C)) (fun k => sv (X1 k)) (3 ^ j * M) L C j (fun k hk hk2 => pv.up j k hj hk hk2) (pv.dia j hj) C (Nat.le_refl _)
      rw [if_pos hj] at this
      exact this)
    (fun i k hi hk => by
      refine Nat.le_trans (pv.err i k hi hk) (Nat.add_le_add ?_ ?_)
      · have h4 : nsum (fun j => 3 ^ j) C ≤ 40 := Nat.le_trans (nsum_mono _ C 4 hC) (by decide)
        exact Nat.mul_le_mul_right _ (Nat.mul_le_mul_right _ (Nat.mul_le_mul_left 4 h4))
      · split
        · exact Nat.le_refl _
        · exact Nat.zero_le _)
    (fun j hj => by
      have q := (n2 j hj).2
      have e1 : fsum (rowU (cl C (vw xs rs cs C)) (fun k => sv (X1 k)) C j) C = fsum (fun k => sv (Z (j * C + (tb true j + k))) * sv (X1 (tb true j + k))) (tn true C j) + dgV false (X1 j) (Z (j * C + j)) := by
        have e := fsum_from (fun k => sv (Z (j * C + k)) * sv (X1 k)) j (C - (j + 1))
        rw [show j + 1 + (C - (j + 1)) = C by omega] at e
        rw [fsum_eq _ (fun k => if j ≤ k then sv (Z (j * C + k)) * sv (X1 k) else 0) C (fun k hk => by unfold rowU; rw [vz j k hj hk]), e]
        show sv (Z (j * C + j)) * sv (X1 j) + _ = fsum (fun k => sv (Z (j * C + (j + 1 + k))) * sv (X1 (j + 1 + k))) (C - (j + 1)) + sv (X1 j) * sv (Z (j * C + j))
        rw [Int.mul_comm (sv (X1 j))]
        omega
      have e2 : fabs (rowU (cl C (vw xs rs cs C)) (fun k => sv (X1 k)) C j) C = fabs (fun k => sv (Z (j * C + (tb true j + k))) * sv (X1 (tb true j + k))) (tn true C j) + (dgV false (X1 j) (Z (j * C + j))).natAbs := by
        have e := fabs_from (fun k => sv (Z (j * C + k)) * sv (X1 k)) j (C - (j + 1))
        rw [show j + 1 + (C - (j + 1)) = C by omega] at e
        rw [(fsum_congr _ (fun k => if j ≤ k then sv (Z (j * C + k)) * sv (X1 k) else 0) C (fun k hk => by unfold rowU; rw [vz j k hj hk])).2, e]
        show (sv (Z (j * C + j)) * sv (X1 j)).natAbs + _ = fabs (fun k => sv (Z (j * C + (j + 1 + k))) * sv (X1 (j + 1 + k))) (C - (j + 1)) + (sv (X1 j) * sv (Z (j * C + j))).natAbs
        rw [Int.mul_comm (sv (X1 j))]
        omega
      rw [e1, e2]
      generalize fsum (fun k => sv (Z (j * C + (tb true j + k))) * sv (X1 (tb true j + k))) (tn true C j) + dgV false (X1 j) (Z (j * C + j)) = S at *
      generalize fabs (fun k => sv (Z (j * C + (tb true j + k))) * sv (X1 (tb true j + k))) (tn true C j) + (dgV false (X1 j) (Z (j * C + j))).natAbs = R at *
      show (S - sv (Y1 j) * ((2 ^ uu : Nat) : Int)).natAbs * _ ≤ _
      generalize sv (Y1 j) * ((2 ^ uu : Nat) : Int) = y at *
      rw [show (S - y).natAbs = (y - S).natAbs by omega]
      exact Nat.le_trans q (Nat.mul_le_mul_right _ (by omega)))
    (fun i hi => by
      have q := (n1 i hi).2
      have e := fsum_congr (fun j => cl C (vw xs rs cs C) i j * sv (Y1 j)) (fun k => sv (Z (i * C + (tb false i + k))) * sv (Y1 (tb false i + k))) i (fun k hk => by
        show cl C (vw xs rs cs C) i k * sv (Y1 k) = sv (Z (i * C + (0 + k))) * sv (Y1 (0 + k))
        rw [vz i k hi (by omega), Nat.zero_add])
      rw [e.1, e.2]
      have q2 : (sv (Bv i) * ((2 ^ uu : Nat) : Int) - (fsum (fun k => sv (Z (i * C + (tb false i + k))) * sv (Y1 (tb false i + k))) i + sv (Y1 i) * ((2 ^ uu : Nat) : Int))).natAbs * 9007199254740992 ≤ (2 * C + 2) * (fabs (fun k => sv (Z (i * C + (tb false i + k))) * sv (Y1 (tb false i + k))) i + (sv (Y1 i) * ((2 ^ uu : Nat) : Int)).natAbs) := q
      show (_ + sv (Y1 i) * ((2 ^ uu : Nat) : Int) - sv (Bv i) * ((2 ^ uu : Nat) : Int)).natAbs * _ ≤ 10 * (_ + (sv (Y1 i) * ((2 ^ uu : Nat) : Int)).natAbs)
      generalize fsum (fun k => sv (Z (i * C + (tb false i + k))) * sv (Y1 (tb false i + k))) i = S at *
      generalize fabs (fun k => sv (Z (i * C + (tb false i + k))) * sv (Y1 (tb false i + k))) i = R at *
      generalize sv (Y1 i) * ((2 ^ uu : Nat) : Int) = y at *
      generalize sv (Bv i) * ((2 ^ uu : Nat) : Int) = b at *
      rw [show (S + y - b).natAbs = (b - (S + y)).natAbs by omega]
      exact Nat.le_trans q2 (Nat.mul_le_mul_right _ (by omega)))
    i hi
  have e1 : fsum (fun k => (cl C (vw x0 rs cs C) i k * ((2 ^ uu : Nat) : Int)) * sv (X1 k)) C = fsum (fun k => sv (x0[i0 * C + k]?.getD 0) * sv (Y k)) C * ((2 ^ uu : Nat) : Int) := by
    rw [← h.pc.sum (fun k => sv (x0[i0 * C + k]?.getD 0) * sv (Y k)), fsum_mul]
    apply fsum_eq
    intro k hk
    show cl C (vw x0 rs cs C) i k * _ * sv (X1 k) = sv (x0[i0 * C + cs k]?.getD 0) * sv (Y (cs k)) * _
    rw [cl_in hi hk, hY k hk]
    unfold vw
    rw [ei, Int.mul_right_comm]
  have e2 : fabs (fun k => sv (X1 k)) C = fabs (fun k => sv (Y k)) C := by
    have a1 := fabs_int (fun k => sv (X1 k)) C
    have a2 := fabs_int (fun k => sv (Y k)) C
    rw [← h.pc.sum (fun k => ((sv (Y k)).natAbs : Int))] at a2
    rw [fsum_eq _ (fun k => ((sv (X1 k)).natAbs : Int)) C (fun k hk => by show ((sv (Y (cs k))).natAbs : Int) = _; rw [hY k hk])] at a2
    omega
  have e3 : sv (Bv i) = sv (B i0) := by rw [← hBv]; show sv (B (rs i)) = _; rw [ei]
  have row2 : (fsum (fun k => (cl C (vw x0 rs cs C) i k * ((2 ^ uu : Nat) : Int)) * sv (X1 k)) C - sv (Bv i) * ((2 ^ uu : Nat) : Int) * ((2 ^ uu : Nat) : Int)).natAbs * 9007199254740992 ≤ (1000 * M * 2 ^ uu + 4 * L * 2 ^ uu * 9007199254740992) * fabs (fun k => sv (X1 k)) C := row
  rw [e1, e2, e3, ← Int.sub_mul, Int.natAbs_mul, Int.natAbs_natCast] at row2
  exact cut_T _ _ _ _ _ _ (Nat.two_pow_pos _) row2
end Go.Proofs.YtpakpgjbgehhjaaGreat
