/-
  Texts put together: SysT.
-/
import Derived.Test.YtpakpgjbgehhjaaGreatProg
import Derived.Test.YtpakpgjbgehhjaaGreatGrAL
import Derived.Test.YtpakpgjbgehhjaaGreatGrY
/-
  What solve's own take does to a system: each row beneath, by numbers at places; and its flags: none of Over, Under, Invalid of the whole, none of any step. Conditions: a square matrix that is right; the Calc lies beside it.
-/
namespace Go.Proofs.YtpakpgjbgehhjaaGreat
open Go.RowKit
set_option linter.unusedVariables false
set_option linter.unusedSimpArgs false

/-- What stands at (i, k). -/
def vw (xs : List Int) (rs cs : Nat → Nat) (C i k : Nat) : Int := xs[rs i * C + cs k]?.getD 0
structure SyI (C D : Nat) (xs : List Int) (rs cs : Nat → Nat) : Prop where
  len : xs.length = D
  sq : C * C = D
  inw : InW xs
  rl : ∀ i, i < C → rs i < C
  cl : ∀ i, i < C → cs i < C
  ri : ∀ i k, i < C → k < C → rs i = rs k → i = k
  ci : ∀ i k, i < C → k < C → cs i = cs k → i = k
structure Sy (w : World) (C gm gr gc : Nat) (xs : List Int) (rs cs : Nat → Nat) : Prop where
  mat : RowU w gm xs
  rows : RowN w gr C rs
  cols : RowN w gc C cs
theorem Sy.below {w w' : World} {C gm gr gc : Nat} {xs : List Int} {rs cs : Nat → Nat} (h : Sy w C gm gr gc xs rs cs) (hb : Below w.heap.size w w') : Sy w' C gm gr gc xs rs cs := ⟨h.mat.below hb, h.rows.below hb, h.cols.below hb⟩
theorem Sy.bes {w w' : World} {C gm gr gc : Nat} {xs : List Int} {rs cs : Nat → Nat} {c : Option Nat} (h : Sy w C gm gr gc xs rs cs) (hb : Bes c w w') (h1 : c ≠ some gm) (h2 : c ≠ some gr) (h3 : c ≠ some gc) : Sy w' C gm gr gc xs rs cs := ⟨h.mat.bes hb h1, h.rows.bes hb h2, h.cols.bes hb h3⟩
theorem vw_rng {C D : Nat} {xs : List Int} {rs cs : Nat → Nat} (h : SyI C D xs rs cs) (i k : Nat) : 0 ≤ vw xs rs cs C i k ∧ vw xs rs cs C i k < 18446744073709551616 := by
  unfold vw
  rcases Nat.lt_or_ge (rs i * C + cs k) xs.length with g | g
  · rw [List.getElem?_eq_getElem g]
    exact h.inw _ (List.getElem_mem g)
  · rw [List.getElem?_eq_none g]
    exact ⟨Int.le_refl _, by show (0 : Int) < _; decide⟩
theorem pl_eq {i k j l N : Nat} (hk : k < N) (hl : l < N) (h : i * N + k = j * N + l) : i = j ∧ k = l := by
  have hp : 0 < N := by omega
  have h1 : (i * N + k) / N = (j * N + l) / N := by rw [h]
  have h2 : (i * N + k) % N = (j * N + l) % N := by rw [h]
  rw [Nat.mul_comm i, Nat.mul_comm j, Nat.mul_add_div hp, Nat.mul_add_div hp, Nat.div_eq_of_lt hk, Nat.div_eq_of_lt hl] at h1
  rw [Nat.mul_comm i, Nat.mul_comm j, Nat.mul_add_mod, Nat.mul_add_mod, Nat.mod_eq_of_lt hk, Nat.mod_eq_of_lt hl] at h2
  omega
theorem pl_lt {i k N : Nat} (hi : i < N) (hk : k < N) : i * N + k < N * N := by
  have : (i + 1) * N ≤ N * N := Nat.mul_le_mul_right N hi
  rw [Nat.add_mul, Nat.one_mul] at this
  omega
theorem vw_set {C D : Nat} {xs : List Int} {rs cs : Nat → Nat} (h : SyI C D xs rs cs) (i k : Nat) (hi : i < C) (hk : k < C) (x : Int) (i' k' : Nat) (hi' : i' < C) (hk' : k' < C) : vw (xs.set (rs i * C + cs k) x) rs cs C i' k' = if i' = i ∧ k' = k then x else vw xs rs cs C i' k' := by
  unfold vw
  rw [List.getElem?_set]
  by_cases e : rs i * C + cs k = rs i' * C + cs k'
  · obtain ⟨e1, e2⟩ := pl_eq (h.cl k hk) (h.cl k' hk') e
    have := h.ri i i' hi hi' e1
    have := h.ci k k' hk hk' e2
    have hl : rs i * C + cs k < xs.length := by rw [h.len, ← h.sq]; exact pl_lt (h.rl i hi) (h.cl k hk)
    rw [if_pos e, if_pos hl, if_pos ⟨by omega, by omega⟩]
    rfl
  · rw [if_neg e, if_neg (fun g => e (by rw [g.1, g.2]))]
theorem SyI.set {C D : Nat} {xs : List Int} {rs cs : Nat → Nat} (h : SyI C D xs rs cs) (n : Nat) (x : Int) (x0 : 0 ≤ x) (x1 : x < 18446744073709551616) : SyI C D (xs.set n x) rs cs := ⟨by rw [List.length_set]; exact h.len, h.sq, h.inw.set _ _ x0 x1, h.rl, h.cl, h.ri, h.ci⟩
theorem zAt (C D gm gr gc : Nat) (xs : List Int) (rs cs : Nat → Nat) (i k : Nat) (w : World) (h : Rgt (C : Int) (C : Int) (C : Int) D) (hC : C ≤ 1000) (I : SyI C D xs rs cs) (S : Sy w C gm gr gc xs rs cs) (hi : i < C) (hk : k < C) :
    Calls Tryz.prog 81 #[.agg #[.int .i64 (C : Int), .int .i64 (C : Int), .int .i64 (C : Int), .slice (some ⟨gm, 0, none⟩) D D, .slice (some ⟨gr, 0, none⟩) C C, .slice (some ⟨gc, 0, none⟩) C C], .int .i64 (i : Int), .int .i64 (k : Int)] w fun e w' => e = .returned (.int .u64 (vw xs rs cs C i k)) ∧ Below w.heap.size w w' := by
  have hD : D ≤ 1000000 := by rw [← I.sq]; exact Nat.mul_le_mul hC hC
  exact yAt C D gm gr gc xs rs cs i k (rs i) (cs k) _ w h S.mat I.len hD I.inw S.rows S.cols hi hk rfl rfl (I.rl i hi) (I.cl k hk) rfl
theorem zSet (C D gm gr gc : Nat) (xs : List Int) (rs cs : Nat → Nat) (i k : Nat) (x : Int) (w : World) (h : Rgt (C : Int) (C : Int) (C : Int) D) (hC : C ≤ 1000) (I : SyI C D xs rs cs) (S : Sy w C gm gr gc xs rs cs) (hi : i < C) (hk : k < C) (x0 : 0 ≤ x) (x1 : x < 18446744073709551616) (ngr : gm ≠ gr) (ngc : gm ≠ gc) :
    Calls Tryz.prog 82 #[.agg #[.int .i64 (C : Int), .int .i64 (C : Int), .int .i64 (C : Int), .slice (some ⟨gm, 0, none⟩) D D, .slice (some ⟨gr, 0, none⟩) C C, .slice (some ⟨gc, 0, none⟩) C C], .int .i64 (i : Int), .int .i64 (k : Int), .int .u64 x] w fun e w' => e = .returned (.tuple #[]) ∧ (∃ ys, SyI C D ys rs cs ∧ Sy w' C gm gr gc ys rs cs ∧ ∀ i' k', i' < C → k' < C → vw ys rs cs C i' k' = if i' = i ∧ k' = k then x else vw xs rs cs C i' k') ∧ Bes (some gm) w w' := by
  have hD : D ≤ 1000000 := by rw [← I.sq]; exact Nat.mul_le_mul hC hC
  refine (ySet C D gm gr gc xs rs cs i k (rs i) (cs k) x w h S.mat I.len hD S.rows S.cols hi hk rfl rfl (I.rl i hi) (I.cl k hk) ngr ngc).mono ?_
  rintro e w' ⟨rfl, hR, hB⟩
  exact ⟨rfl, ⟨_, I.set _ x x0 x1, ⟨hR, S.rows.bes hB (ne_some ngr), S.cols.bes hB (ne_some ngc)⟩, fun i' k' hi' hk' => vw_set I i k hi hk x i' k' hi' hk'⟩, hB⟩
/-- Nothing that was there has turned but the Calc's block and block g. -/
structure Bes2 (c : Option Nat) (g : Nat) (w w' : World) : Prop where
  os : w'.os = w.os
  tape : w'.tape = w.tape
  output : w'.output = w.output
  size : w.heap.size ≤ w'.heap.size
  block : ∀ k, k < w.heap.size → c ≠ some k → k ≠ g → w'.heap[k]? = w.heap[k]?
theorem Bes2.refl (c : Option Nat) (g : Nat) (w : World) : Bes2 c g w w := ⟨rfl, rfl, rfl, Nat.le_refl _, fun _ _ _ _ => rfl⟩
theorem Bes2.trans {c : Option Nat} {g : Nat} {a b d : World} (h : Bes2 c g a b) (k : Bes2 c g b d) : Bes2 c g a d :=
  ⟨k.os.trans h.os, k.tape.trans h.tape, k.output.trans h.output, Nat.le_trans h.size k.size, fun i hi hc hg => (k.block i (Nat.lt_of_lt_of_le hi h.size) hc hg).trans (h.block i hi hc hg)⟩
theorem Bes2.of {c : Option Nat} {g : Nat} {w w' : World} (h : Below w.heap.size w w') : Bes2 c g w w' := ⟨h.os, h.tape, h.output, h.size, fun k hk _ _ => h.block k hk⟩
theorem Bes2.calc {c : Option Nat} {g : Nat} {w w' : World} (h : Bes c w w') : Bes2 c g w w' := ⟨h.os, h.tape, h.output, h.size, fun k hk hc _ => h.block k hk hc⟩
theorem Bes2.blk {c : Option Nat} {g : Nat} {w w' : World} (h : Bes (some g) w w') : Bes2 c g w w' := ⟨h.os, h.tape, h.output, h.size, fun k hk _ hg => h.block k hk (fun e => hg (Option.some.inj e).symm)⟩
/-- What (i, k) becomes. -/
def tkV (A : Nat → Nat → Int) (s i k : Nat) : Int := if i ≤ s ∨ k < s then A i k else if k = s then (divS (A i s) (A s s)).1 else (subS (A i k) (mulS (divS (A i s) (A s s)).1 (A s k)).1).1
/-- None of the mask's flags at (i, k). -/
def tkF (A : Nat → Nat → Int) (s i k : Nat) : Prop := if i ≤ s ∨ k < s then True else if k = s then bits .and .u8 (divS (A i s) (A s s)).2 22 = 0 else bits .and .u8 (mulS (divS (A i s) (A s s)).1 (A s k)).2 22 = 0 ∧ bits .and .u8 (subS (A i k) (mulS (divS (A i s) (A s s)).1 (A s k)).1).2 22 = 0
/-- Rows beneath n, and of row n what stands left of m, are done. -/
def dnT (n m i k : Nat) : Prop := i < n ∨ (i = n ∧ k < m)
structure TkI (xs ys : List Int) (rs cs : Nat → Nat) (C s n m : Nat) (F G : Int) : Prop where
  val : ∀ i k, i < C → k < C → (dnT n m i k → vw ys rs cs C i k = tkV (vw xs rs cs C) s i k) ∧ (¬ dnT n m i k → vw ys rs cs C i k = vw xs rs cs C i k)
  rng : 0 ≤ G ∧ G ≤ 31
  msk : bits .and .u8 G 22 = 0 → bits .and .u8 F 22 = 0 ∧ ∀ i k, i < C → k < C → dnT n m i k → tkF (vw xs rs cs C) s i k
theorem TkI.start (xs : List Int) (rs cs : Nat → Nat) (C s : Nat) (F : Int) (h0 : 0 ≤ F) (h1 : F ≤ 31) : TkI xs xs rs cs C s (s + 1) 0 F F where
  val := fun i k hi hk => ⟨fun h => by
    have : i ≤ s := by unfold dnT at h; omega
    unfold tkV
    rw [if_pos (.inl this)], fun _ => rfl⟩
  rng := ⟨h0, h1⟩
  msk := fun h => ⟨h, fun i k hi hk hd => by
    have : i ≤ s := by unfold dnT at hd; omega
    unfold tkF
    rw [if_pos (.inl this)]
    trivial⟩
theorem TkI.next {xs ys : List Int} {rs cs : Nat → Nat} {C s n : Nat} {F G : Int} (h : TkI xs ys rs cs C s n C F G) : TkI xs ys rs cs C s (n + 1) 0 F G where
  val := fun i k hi hk => by
    have e : dnT (n + 1) 0 i k ↔ dnT n C i k := by unfold dnT; omega
    rw [e]
    exact h.val i k hi hk
  rng := h.rng
  msk := fun g => ⟨(h.msk g).1, fun i k hi hk hd => (h.msk g).2 i k hi hk (by unfold dnT at hd ⊢; omega)⟩
/-- The factor, put into row n. -/
theorem TkI.fac {xs ys zs : List Int} {rs cs : Nat → Nat} {C s n : Nat} {F G : Int} (h : TkI xs ys rs cs C s n 0 F G) (hs : s < n) (hn : n < C) (hv : ∀ i' k', i' < C → k' < C → vw zs rs cs C i' k' = if i' = n ∧ k' = s then (divS (vw xs rs cs C n s) (vw xs rs cs C s s)).1 else vw ys rs cs C i' k') :
    TkI xs zs rs cs C s n (s + 1) F (bits .or .u8 G (divS (vw xs rs cs C n s) (vw xs rs cs C s s)).2) := by
  obtain ⟨_, _, d0, d1⟩ := divS_bd (vw xs rs cs C n s) (vw xs rs cs C s s)
  refine ⟨fun i k hi hk => ?_, or_rng _ _ h.rng.1 h.rng.2 d0 d1, fun g => ?_⟩
  · rw [hv i k hi hk]
    obtain ⟨v1, v2⟩ := h.val i k hi hk
    by_cases e : i = n ∧ k = s
    · obtain ⟨rfl, rfl⟩ := e
      rw [if_pos ⟨rfl, rfl⟩]
      refine ⟨fun _ => ?_, fun g => absurd (.inr ⟨rfl, Nat.lt_succ_self _⟩) g⟩
      unfold tkV
      rw [if_neg (by omega), if_pos rfl]
    · rw [if_neg e]
      refine ⟨fun d => ?_, fun d => v2 (fun g => d (by unfold dnT at g ⊢; omega))⟩
      by_cases d2 : dnT n 0 i k
      · exact v1 d2
      · rw [v2 d2]
        have : i = n ∧ k < s := by unfold dnT at d d2; omega
        unfold tkV
        rw [if_pos (.inr this.2)]
  · obtain ⟨a1, a2⟩ := or_and 22 _ _ h.rng.1 h.rng.2 d0 d1 g
    obtain ⟨b1, b2⟩ := h.msk a1
    refine ⟨b1, fun i k hi hk hd => ?_⟩
    by_cases d2 : dnT n 0 i k
    · exact b2 i k hi hk d2
    · have : i = n ∧ k < s + 1 := by unfold dnT at hd d2; omega
      unfold tkF
      by_cases e : k = s
      · rw [if_neg (by omega), if_pos e, this.1]
        exact a2
      · rw [if_pos (.inr (by omega))]
        trivial
/-- One more number of row n. -/
theorem TkI.one {xs ys zs : List Int} {rs cs : Nat → Nat} {C s n m : Nat} {F G : Int} {f a u : Int} {D : Nat} (I : SyI C D xs rs cs) (h : TkI xs ys rs cs C s n m F G) (hs : s < n) (hn : n < C) (hm : s < m) (hm2 : m < C) (hf : f = (divS (vw xs rs cs C n s) (vw xs rs cs C s s)).1) (ha : a = vw xs rs cs C n m) (hu : u = vw xs rs cs C s m)
    (hv : ∀ i' k', i' < C → k' < C → vw zs rs cs C i' k' = if i' = n ∧ k' = m then (subS a (mulS f u).1).1 else vw ys rs cs C i' k') :
    TkI xs zs rs cs C s n (m + 1) F (bits .or .u8 (bits .or .u8 G (mulS f u).2) (subS a (mulS f u).1).2) := by
  obtain ⟨m0, m1, m2, m3⟩ := mulS_bd f u
  obtain ⟨a0, a1⟩ := vw_rng I n m
  rw [← ha] at a0 a1
  obtain ⟨q0, q1⟩ := flip_rng _ m0 m1
  obtain ⟨_, _, s0, s1⟩ := addS_bd a (wFlip (mulS f u).1) a0 a1 q0 q1
  obtain ⟨o0, o1⟩ := or_rng _ _ h.rng.1 h.rng.2 m2 m3
  refine ⟨fun i k hi hk => ?_, or_rng _ _ o0 o1 s0 s1, fun g => ?_⟩
  · rw [hv i k hi hk]
    obtain ⟨v1, v2⟩ := h.val i k hi hk
    by_cases e : i = n ∧ k = m
    · obtain ⟨rfl, rfl⟩ := e
      rw [if_pos ⟨rfl, rfl⟩]
      refine ⟨fun _ => ?_, fun g => absurd (.inr ⟨rfl, Nat.lt_succ_self _⟩) g⟩
      unfold tkV
      rw [if_neg (by omega), if_neg (by omega), hf, ha, hu]
    · rw [if_neg e]
      exact ⟨fun d => v1 (by unfold dnT at d ⊢; omega), fun d => v2 (fun g => d (by unfold dnT at g ⊢; omega))⟩
  · obtain ⟨a1', a2⟩ := or_and 22 _ _ o0 o1 s0 s1 g
    obtain ⟨a3, a4⟩ := or_and 22 _ _ h.rng.1 h.rng.2 m2 m3 a1'
    obtain ⟨b1, b2⟩ := h.msk a3
    refine ⟨b1, fun i k hi hk hd => ?_⟩
    by_cases d2 : dnT n m i k
    · exact b2 i k hi hk d2
    · have : i = n ∧ k = m := by unfold dnT at hd d2; omega
      obtain ⟨rfl, rfl⟩ := this
      unfold tkF
      rw [if_neg (by omega), if_neg (by omega), ← hf, ← ha, ← hu]
      exact ⟨a4, a2⟩
set_option maxHeartbeats 8000000 in
set_option maxRecDepth 100000 in
theorem yTake (p : Value) (c : Option Nat) (F : Int) (C D gm gr gc : Nat) (xs : List Int) (rs cs : Nat → Nat) (s : Nat) (w : World) (hc : IsCalc w p c F) (F0 : 0 ≤ F) (F1 : F ≤ 31) (h : Rgt (C : Int) (C : Int) (C : Int) D) (hC : C ≤ 1000) (I : SyI C D xs rs cs) (S : Sy w C gm gr gc xs rs cs) (hs : s < C) (n1 : c ≠ some gm) (n2 : c ≠ some gr) (n3 : c ≠ some gc) (ngr : gm ≠ gr) (ngc : gm ≠ gc) :
    Calls Tryz.prog 83 #[.agg #[.int .i64 (C : Int), .int .i64 (C : Int), .int .i64 (C : Int), .slice (some ⟨gm, 0, none⟩) D D, .slice (some ⟨gr, 0, none⟩) C C, .slice (some ⟨gc, 0, none⟩) C C], p, .int .i64 (s : Int)] w fun e w' => e = .returned (.tuple #[]) ∧ ∃ ys G, SyI C D ys rs cs ∧ Sy w' C gm gr gc ys rs cs ∧ IsCalc w' p c G ∧ TkI xs ys rs cs C s C 0 F G ∧ Bes2 c gm w w' := by
  have HH : Hid (Rgt (C : Int) (C : Int) (C : Int) D) := h
  have XI : Hid (SyI C D xs rs cs) := I
  have SI : Hid (SyI C D xs rs cs) := I
  have SS0 : Hid (Sy w C gm gr gc xs rs cs) := S
  have CC0 : Hid (IsCalc w p c F) := hc
  have N1 : Hid (c ≠ some gm) := n1
  have N2 : Hid (c ≠ some gr) := n2
  have N3 : Hid (c ≠ some gc) := n3
  have NR : Hid (gm ≠ gr) := ngr
  have NC : Hid (gm ≠ gc) := ngc
  have TK : Hid (TkI xs xs rs cs C s (s + 1) 0 F F) := TkI.start xs rs cs C s F F0 F1
  obtain ⟨s1, hs1⟩ : ∃ x, x = s + 1 := ⟨_, rfl⟩
  rw [← hs1] at TK
  have hsC : s1 ≤ C := by omega
  have hss : s < s1 := by omega
  have hw1 : IntKind.i64.wrap ((s : Int) + 1) = (s1 : Int) := by rw [IntKind.wrap_i64]; omega
  clear hc h I S n1 n2 n3 ngr ngc hs1
  go_enter Tryz.func83, Tryz.ntmps83
  go_upto_region 1 with fail
  have mT := TBox.madeS w (C : Int) (C : Int) (.slice (some ⟨gm, 0, none⟩) D D) (.slice (some ⟨gr, 0, none⟩) C C) (.slice (some ⟨gc, 0, none⟩) C C)
  have b0 : Below w.heap.size w (w.alloc (.cells #[.int .i64 (C : Int), .int .i64 (C : Int), .int .i64 (C : Int), .slice (some ⟨gm, 0, none⟩) D D, .slice (some ⟨gr, 0, none⟩) C C, .slice (some ⟨gc, 0, none⟩) C C] 82)) := bmore (Below.refl _ _) _
  generalize (w.alloc (.cells #[.int .i64 (C : Int), .int .i64 (C : Int), .int .i64 (C : Int), .slice (some ⟨gm, 0, none⟩) D D, .slice (some ⟨gr, 0, none⟩) C C, .slice (some ⟨gc, 0, none⟩) C C] 82)) = W0 at mT b0 ⊢
  obtain ⟨kt, hkt⟩ : ∃ k, k = w.heap.size := ⟨_, rfl⟩
  rw [← hkt] at mT ⊢
  have NK : Hid (gm ≠ kt) := by have := SS0.out.mat.lt; show _ ≠ _; omega
  have N4 : Hid (c ≠ some kt) := fun e => by have := CC0.out.lt _ e; omega
  have SS : Hid (Sy W0 C gm gr gc xs rs cs) := SS0.out.below b0
  have CC : Hid (IsCalc W0 p c F) := CC0.out.later b0
  have MT : Hid (TBox W0 kt (C : Int) (C : Int) (.slice (some ⟨gm, 0, none⟩) D D) (.slice (some ⟨gr, 0, none⟩) C C) (.slice (some ⟨gc, 0, none⟩) C C)) := mT
  have B2 : Hid (Bes2 c gm w W0) := Bes2.of b0
  clear mT b0 hkt SS0 CC0
  go_wp2_with fail
  go_loopw [6] (fun i wr => ∃ (n : Nat) (ys : List Int) (G : Int), i = .int .i64 (n : Int) ∧ s1 ≤ n ∧ n ≤ C ∧ Hid (SyI C D ys rs cs) ∧ Hid (Sy wr C gm gr gc ys rs cs) ∧ Hid (IsCalc wr p c G) ∧ Hid (TkI xs ys rs cs C s n 0 F G) ∧ Hid (TBox wr kt (C : Int) (C : Int) (.slice (some ⟨gm, 0, none⟩) D D) (.slice (some ⟨gr, 0, none⟩) C C) (.slice (some ⟨gc, 0, none⟩) C C)) ∧ Hid (Bes2 c gm w wr)) (fun i _ => C - (intOf i).toNat)
  case atStart => exact ⟨s1, xs, F, rfl, Nat.le_refl _, hsC, SI, SS, CC, TK, MT, B2⟩
  case round =>
    clear SI SS CC TK MT B2
    obtain ⟨n, ys, G, rfl, hn1, hnC, SI, SS, CC, TK, MT, B2⟩ := hrel
    obtain ⟨w1, rfl⟩ : ∃ x, x = wr := ⟨wr, rfl⟩
    obtain ⟨t0, t1, t2, t3, t4, t5⟩ := MT.out.cells
    by_cases hlt : (n : Int) < (C : Int)
    · have E1 : Hid (vw ys rs cs C n s = vw xs rs cs C n s) := (TK.out.val n s (by omega) (by omega)).2 (by unfold dnT; omega)
      have E2 : Hid (vw ys rs cs C s s = vw xs rs cs C s s) := ((TK.out.val s s (by omega) (by omega)).1 (.inl (by omega))).trans (by unfold tkV; rw [if_pos (.inl (Nat.le_refl _))])
      obtain ⟨a0, a1⟩ := vw_rng XI.out n s
      obtain ⟨d0, d1⟩ := vw_rng XI.out s s
      obtain ⟨f0, f1⟩ := divS_rng _ _ a0 a1 d0 d1
      obtain ⟨f, hf⟩ : ∃ f, f = (divS (vw xs rs cs C n s) (vw xs rs cs C s s)).1 := ⟨_, rfl⟩
      obtain ⟨G1, hG1⟩ : ∃ g, g = bits .or .u8 G (divS (vw xs rs cs C n s) (vw xs rs cs C s s)).2 := ⟨_, rfl⟩
      have HF : Hid (f = (divS (vw xs rs cs C n s) (vw xs rs cs C s s)).1) := hf
      have HG1 : Hid (G1 = bits .or .u8 G (divS (vw xs rs cs C n s) (vw xs rs cs C s s)).2) := hG1
      rw [← hf] at f0 f1
      obtain ⟨av, hav⟩ : ∃ a, vw xs rs cs C n s = a := ⟨_, rfl⟩
      obtain ⟨dv, hdv⟩ : ∃ a, vw xs rs cs C s s = a := ⟨_, rfl⟩
      have HD : Hid (divS av dv = (f, (divS av dv).2)) := by show divS av dv = _; rw [hf, hav, hdv]
      have HG2 : Hid (bits .or .u8 G (divS av dv).2 = G1) := by show _ = G1; rw [hG1, hav, hdv]
      have E3 : Hid (vw ys rs cs C n s = av) := E1.out.trans hav
      have E4 : Hid (vw ys rs cs C s s = dv) := E2.out.trans hdv
      rw [hav] at a0 a1
      rw [hdv] at d0 d1
      clear hf hG1 E1 E2 hav hdv
      go_wp2_with fail
      have ct : Cnt 1 := Cnt.mk _
      go_region_held3 (fun w' => w'.cell? ⟨kt, 0, none⟩ = some (.int .i64 (C : Int)) ∧ w'.cell? ⟨kt, 1, none⟩ = some (.int .i64 (C : Int)) ∧ w'.cell? ⟨kt, 2, none⟩ = some (.int .i64 (C : Int)) ∧ w'.cell? ⟨kt, 3, none⟩ = some (.slice (some ⟨gm, 0, none⟩) D D) ∧ w'.cell? ⟨kt, 4, none⟩ = some (.slice (some ⟨gr, 0, none⟩) C C) ∧ w'.cell? ⟨kt, 5, none⟩ = some (.slice (some ⟨gc, 0, none⟩) C C)) (exact (by first | exact MT.out.cells | exact (MT.out.below (Below.refl _ _).drew).cells)) (first | (have ck : Cnt 1 := ct; go_at_call 81; refine (zAt C D gm gr gc ys rs cs n s _ HH.out hC SI.out (SS.out.below (by first | exact Below.refl _ _ | exact (Below.refl _ _).drew)) (by omega) (by omega)).mono ?_; rintro e w2 ⟨rfl, hb_⟩; rw [E3.out]; replace hb_ : Below w1.heap.size w1 w2 := (by first | exact hb_ | exact ((Below.refl _ _).drew).trans hb_); replace SS : Hid (Sy _ _ _ _ _ _ _ _) := SS.out.below hb_; replace CC : Hid (IsCalc _ _ _ _) := CC.out.later hb_; replace MT : Hid (TBox _ _ _ _ _ _ _) := MT.out.below hb_; replace B2 : Hid (Bes2 _ _ _ _) := B2.out.trans (Bes2.of hb_); replace ct : Cnt 2 := Cnt.mk _; clear ck hb_) | (have ck : Cnt 2 := ct; go_at_call 81; refine (zAt C D gm gr gc ys rs cs s s _ HH.out hC SI.out (SS.out.below (by first | exact Below.refl _ _ | exact (Below.refl _ _).drew)) (by omega) (by omega)).mono ?_; rintro e w3 ⟨rfl, hb_⟩; rw [E4.out]; replace SS : Hid (Sy _ _ _ _ _ _ _ _) := SS.out.below hb_; replace CC : Hid (IsCalc _ _ _ _) := CC.out.later hb_; replace MT : Hid (TBox _ _ _ _ _ _ _) := MT.out.below hb_; replace B2 : Hid (Bes2 _ _ _ _) := B2.out.trans (Bes2.of hb_); replace ct : Cnt 3 := Cnt.mk _; clear ck hb_) | (have ck : Cnt 3 := ct; go_at_call 33; refine (uDiv p c av dv G _ CC.out a0 a1 d0 d1).mono ?_; rintro e w4 ⟨rfl, hC_, hb_⟩; rw [HG2.out] at hC_; rw [HD.out]; replace SS : Hid (Sy _ _ _ _ _ _ _ _) := SS.out.bes hb_ N1.out N2.out N3.out; replace CC : Hid (IsCalc _ _ _ _) := hC_; replace MT : Hid (TBox _ _ _ _ _ _ _) := MT.out.bes hb_ N4.out; replace B2 : Hid (Bes2 _ _ _ _) := B2.out.trans (Bes2.calc hb_); replace ct : Cnt 4 := Cnt.mk _; clear ck hb_ hC_))
      clear t0 t1 t2 t3 t4 t5 ct
      obtain ⟨t0, t1, t2, t3, t4, t5⟩ := MT.out.cells
      go_wp2_with fail
      refine (zSet C D gm gr gc ys rs cs n s f w4 HH.out hC SI.out SS.out (by omega) (by omega) f0 f1 NR.out NC.out).mono ?_
      rintro e w5 ⟨rfl, ⟨zs, hI_, hS_, hv_⟩, hb_⟩
      have TK2 : Hid (TkI xs zs rs cs C s n s1 F G1) := by
        have := TK.out.fac (by omega) (by omega) (by rw [← HF.out]; exact hv_)
        rw [← HG1.out] at this
        rw [show s1 = s + 1 by have := hss; have := hw1; rw [IntKind.wrap_i64] at this; omega]
        exact this
      replace CC : Hid (IsCalc _ _ _ _) := CC.out.bes hb_ (fun k e1 e2 => N1.out (e1.trans e2.symm)); replace MT : Hid (TBox _ _ _ _ _ _ _) := MT.out.bes hb_ (ne_some NK.out); replace B2 : Hid (Bes2 _ _ _ _) := B2.out.trans (Bes2.blk hb_)
      clear SI SS TK hv_ hb_ t0 t1 t2 t3 t4 t5 E3 E4 HD HG2 HG1 a0 a1 d0 d1
      have SI : Hid (SyI C D zs rs cs) := hI_
      have SS : Hid (Sy w5 C gm gr gc zs rs cs) := hS_
      clear hI_ hS_
      obtain ⟨t0, t1, t2, t3, t4, t5⟩ := MT.out.cells
      go_wp2_with fail
      clear t0 t1 t2 t3 t4 t5
      go_loopw [8] (fun i wr => ∃ (m : Nat) (zs : List Int) (G : Int), i = .int .i64 (m : Int) ∧ s1 ≤ m ∧ m ≤ C ∧ Hid (SyI C D zs rs cs) ∧ Hid (Sy wr C gm gr gc zs rs cs) ∧ Hid (IsCalc wr p c G) ∧ Hid (TkI xs zs rs cs C s n m F G) ∧ Hid (TBox wr kt (C : Int) (C : Int) (.slice (some ⟨gm, 0, none⟩) D D) (.slice (some ⟨gr, 0, none⟩) C C) (.slice (some ⟨gc, 0, none⟩) C C)) ∧ Hid (Bes2 c gm w wr)) (fun i _ => C - (intOf i).toNat)
      case atStart => exact ⟨s1, zs, G1, rfl, Nat.le_refl _, hsC, SI, SS, CC, TK2, MT, B2⟩
      case round =>
        clear SI SS CC TK2 MT B2
        obtain ⟨m, zs, G, rfl, hm1, hmC, SI, SS, CC, TK, MT, B2⟩ := hrel
        obtain ⟨w1, rfl⟩ : ∃ x, x = wr := ⟨wr, rfl⟩
        obtain ⟨t0, t1, t2, t3, t4, t5⟩ := MT.out.cells
        by_cases hlt2 : (m : Int) < (C : Int)
        · have E3 : Hid (vw zs rs cs C n m = vw xs rs cs C n m) := (TK.out.val n m (by omega) (by omega)).2 (by unfold dnT; omega)
          have E4 : Hid (vw zs rs cs C s m = vw xs rs cs C s m) := ((TK.out.val s m (by omega) (by omega)).1 (.inl (by omega))).trans (by unfold tkV; rw [if_pos (.inl (Nat.le_refl _))])
          obtain ⟨a0, a1⟩ := vw_rng XI.out n m
          obtain ⟨d0, d1⟩ := vw_rng XI.out s m
          obtain ⟨av, hav⟩ : ∃ a, vw xs rs cs C n m = a := ⟨_, rfl⟩
          obtain ⟨dv, hdv⟩ : ∃ a, vw xs rs cs C s m = a := ⟨_, rfl⟩
          have HA : Hid (av = vw xs rs cs C n m) := hav.symm
          have HV : Hid (dv = vw xs rs cs C s m) := hdv.symm
          rw [hav] at a0 a1 E3
          rw [hdv] at d0 d1 E4
          obtain ⟨q0, q1⟩ := mulS_rng f dv
          obtain ⟨g0, g1⟩ := flip_rng _ q0 q1
          obtain ⟨v0, v1, _, _⟩ := addS_bd av (wFlip (mulS f dv).1) a0 a1 g0 g1
          have HS : Hid (addS av (wFlip (mulS f dv).1) = subS av (mulS f dv).1) := rfl
          obtain ⟨qv, hqv⟩ : ∃ q, (mulS f dv).1 = q := ⟨_, rfl⟩
          have HQ : Hid (_ = _) := hqv
          rw [hqv] at q0 q1 v0 v1
          obtain ⟨vv, hvv⟩ : ∃ q, (addS av (wFlip qv)).1 = q := ⟨_, rfl⟩
          have HVV : Hid (_ = _) := hvv
          rw [hvv] at v0 v1
          clear hav hdv hqv hvv g0 g1
          go_wp2_with fail
          have ct : Cnt 1 := Cnt.mk _
          go_region_held3 (fun w' => w'.cell? ⟨kt, 0, none⟩ = some (.int .i64 (C : Int)) ∧ w'.cell? ⟨kt, 1, none⟩ = some (.int .i64 (C : Int)) ∧ w'.cell? ⟨kt, 2, none⟩ = some (.int .i64 (C : Int)) ∧ w'.cell? ⟨kt, 3, none⟩ = some (.slice (some ⟨gm, 0, none⟩) D D) ∧ w'.cell? ⟨kt, 4, none⟩ = some (.slice (some ⟨gr, 0, none⟩) C C) ∧ w'.cell? ⟨kt, 5, none⟩ = some (.slice (some ⟨gc, 0, none⟩) C C)) (exact (by first | exact MT.out.cells | exact (MT.out.below (Below.refl _ _).drew).cells)) (first | (have ck : Cnt 1 := ct; go_at_call 81; refine (zAt C D gm gr gc zs rs cs n m _ HH.out hC SI.out (SS.out.below (by first | exact Below.refl _ _ | exact (Below.refl _ _).drew)) (by omega) (by omega)).mono ?_; rintro e w2 ⟨rfl, hb_⟩; rw [E3.out]; replace hb_ : Below w1.heap.size w1 w2 := (by first | exact hb_ | exact ((Below.refl _ _).drew).trans hb_); replace SS : Hid (Sy _ _ _ _ _ _ _ _) := SS.out.below hb_; replace CC : Hid (IsCalc _ _ _ _) := CC.out.later hb_; replace MT : Hid (TBox _ _ _ _ _ _ _) := MT.out.below hb_; replace B2 : Hid (Bes2 _ _ _ _) := B2.out.trans (Bes2.of hb_); replace ct : Cnt 2 := Cnt.mk _; clear ck hb_) | (have ck : Cnt 2 := ct; go_at_call 81; refine (zAt C D gm gr gc zs rs cs s m _ HH.out hC SI.out (SS.out.below (by first | exact Below.refl _ _ | exact (Below.refl _ _).drew)) (by omega) (by omega)).mono ?_; rintro e w3 ⟨rfl, hb_⟩; rw [E4.out]; replace SS : Hid (Sy _ _ _ _ _ _ _ _) := SS.out.below hb_; replace CC : Hid (IsCalc _ _ _ _) := CC.out.later hb_; replace MT : Hid (TBox _ _ _ _ _ _ _) := MT.out.below hb_; replace B2 : Hid (Bes2 _ _ _ _) := B2.out.trans (Bes2.of hb_); replace ct : Cnt 3 := Cnt.mk _; clear ck hb_) | (have ck : Cnt 3 := ct; go_at_call 61; refine (uMul p c f dv G _ CC.out f0 f1 d0 d1).mono ?_; rintro e w4 ⟨rfl, hC_, hb_⟩; rw [HQ.out]; replace SS : Hid (Sy _ _ _ _ _ _ _ _) := SS.out.bes hb_ N1.out N2.out N3.out; replace CC : Hid (IsCalc _ _ _ _) := hC_; replace MT : Hid (TBox _ _ _ _ _ _ _) := MT.out.bes hb_ N4.out; replace B2 : Hid (Bes2 _ _ _ _) := B2.out.trans (Bes2.calc hb_); replace ct : Cnt 4 := Cnt.mk _; clear ck hb_ hC_) | (have ck : Cnt 4 := ct; go_at_call 32; refine (uSub p c av qv _ _ CC.out a0 a1 q0 q1).mono ?_; rintro e w5 ⟨rfl, hC_, hb_⟩; rw [HVV.out]; replace SS : Hid (Sy _ _ _ _ _ _ _ _) := SS.out.bes hb_ N1.out N2.out N3.out; replace CC : Hid (IsCalc _ _ _ _) := hC_; replace MT : Hid (TBox _ _ _ _ _ _ _) := MT.out.bes hb_ N4.out; replace B2 : Hid (Bes2 _ _ _ _) := B2.out.trans (Bes2.calc hb_); replace ct : Cnt 5 := Cnt.mk _; clear ck hb_ hC_) | (have ck : Cnt 5 := ct; go_at_call 82; refine (zSet C D gm gr gc zs rs cs n m vv _ HH.out hC SI.out SS.out (by omega) (by omega) v0 v1 NR.out NC.out).mono ?_; rintro e w6 ⟨rfl, ⟨us, hI_, hS_, hv_⟩, hb_⟩; replace CC : Hid (IsCalc _ _ _ _) := CC.out.bes hb_ (fun k e1 e2 => N1.out (e1.trans e2.symm)); replace MT : Hid (TBox _ _ _ _ _ _ _) := MT.out.bes hb_ (ne_some NK.out); replace B2 : Hid (Bes2 _ _ _ _) := B2.out.trans (Bes2.blk hb_); clear SS; have SS : Hid (Sy w6 C gm gr gc us rs cs) := hS_; have SI2 : Hid (SyI C D us rs cs) := hI_; have HVW : Hid (∀ i' k', i' < C → k' < C → vw us rs cs C i' k' = if i' = n ∧ k' = m then vv else vw zs rs cs C i' k') := hv_; replace ct : Cnt 6 := Cnt.mk _; clear ck hb_ hI_ hS_ hv_))
          have TK3 : Hid (TkI xs us rs cs C s n (m + 1) F (bits .or .u8 (bits .or .u8 G (mulS f dv).2) (addS av (wFlip qv)).2)) := by
            have := TK.out.one XI.out (by omega) (by omega) (by omega) (by omega) HF.out HA.out HV.out (zs := us) (by
              rw [show (subS av (mulS f dv).1).1 = vv by show (addS av (wFlip (mulS f dv).1)).1 = vv; rw [HQ.out]; exact HVV.out]
              exact HVW.out)
            rw [show (subS av (mulS f dv).1).2 = (addS av (wFlip qv)).2 by show (addS av (wFlip (mulS f dv).1)).2 = _; rw [HQ.out]] at this
            exact this
          clear t0 t1 t2 t3 t4 t5 ct
          go_wp2
          go_roundw
          case rel => exact ⟨m + 1, us, _, by go_num, by omega, by omega, SI2, SS, CC, TK3, MT, B2⟩
          case measure => simp [intOf]; omega
        · obtain rfl : m = C := by omega
          have TK4 : Hid (TkI xs zs rs cs m s (n + 1) 0 F G) := TK.out.next
          go_wp2
          go_roundw
          case rel => exact ⟨n + 1, zs, G, by go_num, by omega, by omega, SI, SS, CC, TK4, MT, B2⟩
          case measure => simp [intOf]; omega
    · obtain rfl : n = C := by omega
      go_wp2
      refine bodyPost_end (results_none rfl _ _ _) rfl ?_
      exact ⟨rfl, ys, SI.out, SS.out, G, CC.out, TK.out, B2.out⟩
end Go.Proofs.YtpakpgjbgehhjaaGreat
