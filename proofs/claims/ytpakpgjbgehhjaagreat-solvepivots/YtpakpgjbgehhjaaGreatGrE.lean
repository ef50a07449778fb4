/-
  Texts put together: DyadM SeeU PlaceC NumM WordsC NumC TrimC LeadM.
-/
import Derived.Test.YtpakpgjbgehhjaaGreatProg
import Derived.Test.YtpakpgjbgehhjaaGreatGrA
import Derived.Test.YtpakpgjbgehhjaaGreatGrC
import Derived.WalkKit
import Derived.ProofKit
import Derived.Maps.AppendAt
import Derived.Below
import Derived.Deep.RegionHeld3
import Derived.Lib.SliceRun
/-
  Lists of words as whole numbers of the base 2^64: sums, products, what stands where. No conditions.
-/
namespace Go.Proofs.YtpakpgjbgehhjaaGreat
set_option linter.unusedVariables false

def pw (k : Nat) : Int := 18446744073709551616 ^ k
theorem pw_zero : pw 0 = 1 := rfl
theorem pw_succ (k : Nat) : pw (k + 1) = pw k * 18446744073709551616 := by unfold pw; rw [Int.pow_succ]
theorem pw_add (a b : Nat) : pw (a + b) = pw a * pw b := by unfold pw; rw [Int.pow_add]
theorem pw_pos (k : Nat) : 0 < pw k := by unfold pw; exact Int.pow_pos (by decide)
theorem pw_two (k : Nat) : pw k = ((2 ^ (64 * k) : Nat) : Int) := by
  induction k with
  | zero => rfl
  | succ n ih => rw [pw_succ, ih, show 64 * (n + 1) = 64 * n + 64 by omega, Nat.pow_add]; rfl
theorem pw_le (a b : Nat) (h : a ≤ b) : pw a ≤ pw b := by
  obtain ⟨c, rfl⟩ := Nat.exists_eq_add_of_le h
  rw [pw_add]
  have h1 := pw_pos a
  have h2 := pw_pos c
  have := Int.mul_le_mul_of_nonneg_left (show 1 ≤ pw c by omega) (Int.le_of_lt h1)
  omega
theorem pw_lt (a b : Nat) (h : pw a < pw b) : a < b := by
  rcases Nat.lt_or_ge a b with h1 | h1
  · exact h1
  · have := pw_le _ _ h1; omega
def dv : List Int → Int
  | [] => 0
  | x :: xs => x + 18446744073709551616 * dv xs
theorem dv_nil : dv [] = 0 := rfl
theorem dv_cons (x : Int) (xs : List Int) : dv (x :: xs) = x + 18446744073709551616 * dv xs := rfl
def InW (xs : List Int) : Prop := ∀ x ∈ xs, 0 ≤ x ∧ x < 18446744073709551616
theorem InW.nil : InW [] := fun x h => by simp at h
theorem InW.mk {x : Int} {xs : List Int} (h0 : 0 ≤ x) (h1 : x < 18446744073709551616) (h : InW xs) : InW (x :: xs) := fun y hy => by
  rcases List.mem_cons.1 hy with rfl | hy
  · exact ⟨h0, h1⟩
  · exact h y hy
theorem InW.head {x : Int} {xs : List Int} (h : InW (x :: xs)) : 0 ≤ x ∧ x < 18446744073709551616 := h x (by simp)
theorem InW.tail {x : Int} {xs : List Int} (h : InW (x :: xs)) : InW xs := fun y hy => h y (by simp [hy])
theorem InW.take {xs : List Int} (h : InW xs) (k : Nat) : InW (xs.take k) := fun x hx => h x (List.mem_of_mem_take hx)
theorem InW.drop {xs : List Int} (h : InW xs) (k : Nat) : InW (xs.drop k) := fun x hx => h x (List.mem_of_mem_drop hx)
theorem InW.append {xs ys : List Int} (h : InW xs) (g : InW ys) : InW (xs ++ ys) := fun x hx => (List.mem_append.1 hx).elim (h x) (g x)
theorem InW.zeros (n : Nat) : InW (List.replicate n 0) := fun x hx => by obtain ⟨_, rfl⟩ := List.mem_replicate.1 hx; decide
theorem InW.get {xs : List Int} (h : InW xs) (i : Nat) : 0 ≤ xs[i]?.getD 0 ∧ xs[i]?.getD 0 < 18446744073709551616 := by
  cases e : xs[i]? with
  | none => simp
  | some y => exact h y (List.mem_of_getElem? e)
theorem InW.set {xs : List Int} (h : InW xs) (i : Nat) (y : Int) (h0 : 0 ≤ y) (h1 : y < 18446744073709551616) : InW (xs.set i y) := fun x hx => by
  rcases List.mem_or_eq_of_mem_set hx with hx | rfl
  · exact h x hx
  · exact ⟨h0, h1⟩
theorem dv_nonneg {xs : List Int} (h : InW xs) : 0 ≤ dv xs := by
  induction xs with
  | nil => decide
  | cons x xs ih => have := ih h.tail; have := h.head; unfold dv; omega
theorem dv_lt {xs : List Int} (h : InW xs) : dv xs < pw xs.length := by
  induction xs with
  | nil => decide
  | cons x xs ih => have := ih h.tail; have := h.head; rw [List.length_cons, pw_succ]; unfold dv; omega
theorem dv_append (xs ys : List Int) : dv (xs ++ ys) = dv xs + pw xs.length * dv ys := by
  induction xs with
  | nil => rw [List.nil_append, List.length_nil, pw_zero, Int.one_mul]; unfold dv; omega
  | cons x xs ih => rw [List.cons_append, List.length_cons, pw_succ, dv_cons, dv_cons, ih]; grind
theorem dv_zeros (n : Nat) : dv (List.replicate n 0) = 0 := by
  induction n with
  | zero => rfl
  | succ n ih => rw [List.replicate_succ]; unfold dv; rw [ih]; rfl
theorem dv_set (xs : List Int) (i : Nat) (y : Int) (hi : i < xs.length) : dv (xs.set i y) = dv xs + (y - xs[i]?.getD 0) * pw i := by
  induction xs generalizing i with
  | nil => simp at hi
  | cons x xs ih =>
    cases i with
    | zero => simp only [List.set_cons_zero, List.getElem?_cons_zero, Option.getD_some, pw_zero]; unfold dv; omega
    | succ i => simp only [List.set_cons_succ, List.getElem?_cons_succ, pw_succ, dv_cons, ih i (by simpa using hi)]; grind
theorem take_snoc_get (xs : List Int) (i : Nat) (hi : i < xs.length) : xs.take (i + 1) = xs.take i ++ [xs[i]?.getD 0] := by
  rw [List.take_succ_eq_append_getElem hi, List.getElem?_eq_getElem hi]; rfl
theorem dv_take_succ (xs : List Int) (i : Nat) (hi : i < xs.length) : dv (xs.take (i + 1)) = dv (xs.take i) + xs[i]?.getD 0 * pw i := by
  rw [take_snoc_get xs i hi, dv_append, List.length_take, Nat.min_eq_left (by omega)]
  rw [dv_cons, dv_nil]
  grind
theorem dv_split (xs : List Int) (k : Nat) (hk : k ≤ xs.length) : dv xs = dv (xs.take k) + pw k * dv (xs.drop k) := by
  have := dv_append (xs.take k) (xs.drop k)
  rw [List.take_append_drop, List.length_take, Nat.min_eq_left hk] at this
  exact this
theorem drop_cons_get (xs : List Int) (i : Nat) (hi : i < xs.length) : xs.drop i = xs[i]?.getD 0 :: xs.drop (i + 1) := by
  rw [List.drop_eq_getElem_cons hi, List.getElem?_eq_getElem hi]; rfl
/-- What lies beyond a number's size is 0. -/
theorem dv_high (xs : List Int) (h : InW xs) (m j : Nat) (hm : dv xs < pw m) (hj : m ≤ j) : xs[j]?.getD 0 = 0 := by
  by_cases hl : j < xs.length
  · have e := dv_split xs j (by omega)
    rw [drop_cons_get xs j hl] at e
    have a := dv_nonneg (h.take j)
    have b := dv_nonneg (h.drop (j + 1))
    have c := h.get j
    unfold dv at e
    have p := pw_le _ _ hj
    have q := pw_pos j
    rcases Int.lt_or_le 0 (xs[j]?.getD 0) with g | g
    · have := Int.mul_le_mul_of_nonneg_left (show 1 ≤ xs[j]?.getD 0 + 18446744073709551616 * dv (xs.drop (j + 1)) by omega) (Int.le_of_lt q)
      have e2 : dv xs = dv (xs.take j) + pw j * (xs[j]?.getD 0 + 18446744073709551616 * dv (xs.drop (j + 1))) := by rw [dv_split xs j (by omega), drop_cons_get xs j hl]; rfl
      omega
    · omega
  · rw [List.getElem?_eq_none (by omega)]; rfl
theorem dv_low (xs : List Int) (h : InW xs) (j : Nat) (hj : j < xs.length) (hn : xs[j]?.getD 0 ≠ 0) : pw j ≤ dv xs := by
  rcases Int.lt_or_le (dv xs) (pw j) with g | g
  · exact absurd (dv_high xs h j j g (Nat.le_refl _)) hn
  · exact g
/-- A list of words with no zeros at its ends. -/
def Norm (ws : List Int) : Prop := InW ws ∧ (ws ≠ [] → ws[0]?.getD 0 ≠ 0 ∧ ws[ws.length - 1]?.getD 0 ≠ 0)
theorem Norm.pos {ws : List Int} (h : Norm ws) (hn : ws ≠ []) : pw (ws.length - 1) ≤ dv ws ∧ dv ws < pw ws.length ∧ 0 < dv ws := by
  have hl : 0 < ws.length := List.length_pos_iff.2 hn
  have a := dv_low ws h.1 (ws.length - 1) (by omega) (h.2 hn).2
  have b := pw_pos (ws.length - 1)
  exact ⟨a, dv_lt h.1, by omega⟩
/-- Zeros at both ends taken off. -/
theorem dv_trim (xs : List Int) (h : InW xs) (lo hi : Nat) (hl : lo ≤ hi) (hh : hi ≤ xs.length) (z1 : ∀ i, hi ≤ i → i < xs.length → xs[i]?.getD 0 = 0) (z0 : ∀ i, i < lo → xs[i]?.getD 0 = 0) :
    dv xs = pw lo * dv ((xs.drop lo).take (hi - lo)) := by
  have zero : ∀ ys : List Int, (∀ i, i < ys.length → ys[i]?.getD 0 = 0) → dv ys = 0 := by
    intro ys
    induction ys with
    | nil => intro _; rfl
    | cons y ys ih =>
      intro g
      have g0 := g 0 (by simp)
      simp at g0
      have := ih (fun i hi => by have := g (i + 1) (by simpa using hi); simpa using this)
      unfold dv; rw [this, g0]; rfl
  have e1 := dv_split xs lo (by omega)
  have e2 := dv_split (xs.drop lo) (hi - lo) (by rw [List.length_drop]; omega)
  have a := zero (xs.take lo) (fun i hi => by
    rw [List.length_take] at hi
    rw [List.getElem?_take, if_pos (by omega)]
    exact z0 i (by omega))
  have b := zero ((xs.drop lo).drop (hi - lo)) (fun i hi => by
    rw [List.length_drop, List.length_drop] at hi
    rw [List.getElem?_drop, List.getElem?_drop]
    exact z1 _ (by omega) (by omega))
  rw [e1, e2, a, b, Int.mul_zero, Int.add_zero, Int.zero_add]
/-- One word of a sum. -/
theorem add_word (T z y c s c' p : Int) (d d' : Int) (hs : s + 18446744073709551616 * c' = z + y + c) (hd : d' = d + (s - z) * p) (hT : d + c * p = T) : d' + c' * (p * 18446744073709551616) = T + y * p := by
  subst hd; subst hT
  have : s - z = y + c - 18446744073709551616 * c' := by omega
  rw [this]
  grind
theorem sub_word (T z y c s c' p : Int) (d d' : Int) (hs : s - 18446744073709551616 * c' = z - y - c) (hd : d' = d + (s - z) * p) (hT : d - c * p = T) : d' - c' * (p * 18446744073709551616) = T - y * p := by
  subst hd; subst hT
  have : s - z = 18446744073709551616 * c' - y - c := by omega
  rw [this]
  grind
end Go.Proofs.YtpakpgjbgehhjaaGreat

/-
  Slices of uint64 in memory: that a slice holds a list ('SeesU'), that it is the call's own new memory ('OwnU'); append, in and out of regions that draw; two such slices in two blocks. No conditions.
-/
namespace Go.Proofs.YtpakpgjbgehhjaaGreat
open Go.RowKit
set_option linter.unusedVariables false

/-- The slice v holds the list xs. -/
def SeesU (w : World) (v : Value) (xs : List Int) : Prop :=
  ∃ b o c, v = .slice (some ⟨b, o, none⟩) xs.length c ∧ b < w.heap.size ∧ xs.length ≤ c ∧ c ≤ maxLen ∧ ∀ i, i < xs.length → w.cell? ⟨b, o + i, none⟩ = some (.int .u64 (xs[i]?.getD 0))
/-- The slice v is made of the call's own memory (blocks from base on), and holds xs. -/
def OwnU (w : World) (base : Nat) (v : Value) (xs : List Int) : Prop :=
  w.ownsRow base 36 1 v xs.length (xs.map (Value.int .u64)) ∧ v ≠ .slice none 0 0

theorem OwnU.at {w : World} {base : Nat} {v : Value} {xs : List Int} (h : OwnU w base v xs) : ∃ g cap, v = .slice (some ⟨g, 0, none⟩) xs.length cap ∧ v.ownBlock = some g ∧ base ≤ g ∧ g < w.heap.size ∧ xs.length ≤ cap ∧ cap ≤ maxLen ∧ ∀ i, i < xs.length → w.cell? ⟨g, i, none⟩ = some (.int .u64 (xs[i]?.getD 0)) := by
  obtain ⟨h, hne⟩ := h
  have hc := fun g => World.ownsRow.cells h (g := g)
  have hlt := h.lt
  rcases h.2 with ⟨rfl, _⟩ | ⟨g, cap, cur, rfl, hb, hg, hnc, hcm, hcs, htake⟩
  · exact absurd rfl hne
  · refine ⟨g, cap, rfl, rfl, hb, (hlt g rfl).2, hnc, hcm, fun i hi => ?_⟩
    have := hc g rfl i (.int .u64 (xs[i]?.getD 0)) (by rw [List.getElem?_map, List.getElem?_eq_getElem hi]; rfl)
    rw [Addr.add_lit, Nat.zero_add] at this
    exact this
theorem OwnU.sees {w : World} {base : Nat} {v : Value} {xs : List Int} (h : OwnU w base v xs) : SeesU w v xs := by
  obtain ⟨g, cap, rfl, _, _, h1, h2, h3, h4⟩ := h.at
  exact ⟨g, 0, cap, rfl, h1, h2, h3, fun i hi => by rw [Nat.zero_add]; exact h4 i hi⟩
theorem SeesU.below {w w' : World} {v : Value} {xs : List Int} (h : SeesU w v xs) (hb : Below w.heap.size w w') : SeesU w' v xs := by
  obtain ⟨b, o, c, rfl, hlt, hc, hm, hcell⟩ := h
  exact ⟨b, o, c, rfl, Nat.lt_of_lt_of_le hlt hb.size, hc, hm, fun i hi => (hb.cell (p := ⟨b, o + i, none⟩) hlt).trans (hcell i hi)⟩
theorem OwnU.below {w w' : World} {base : Nat} {v : Value} {xs : List Int} (h : OwnU w base v xs) (hb : Below w.heap.size w w') : OwnU w' base v xs := by
  obtain ⟨h, hne⟩ := h
  refine ⟨⟨h.1, ?_⟩, hne⟩
  rcases h.2 with hn | ⟨g, cap, cur, rfl, hbg, hgg, rest⟩
  · exact .inl hn
  · refine .inr ⟨g, cap, cur, rfl, hbg, ?_, rest⟩
    rw [hb.block g (Array.getElem?_eq_some_iff.1 hgg).1]
    exact hgg
/-- A slice of the call's own stays as another one, in another block, grows. -/
theorem OwnU.apart {w w' : World} {base : Nat} {v : Value} {xs : List Int} {row : Option Nat} (h : OwnU w base v xs) (hg : w.grownBy w' row) (hne : v.ownBlock ≠ row) : OwnU w' base v xs := by
  obtain ⟨h, hn0⟩ := h
  refine ⟨⟨h.1, ?_⟩, hn0⟩
  rcases h.2 with hn | ⟨g, cap, cur, rfl, hbg, hgg, rest⟩
  · exact .inl hn
  · refine .inr ⟨g, cap, cur, rfl, hbg, ?_, rest⟩
    rw [hg.block g (Array.getElem?_eq_some_iff.1 hgg).1 (fun e => hne (by simp [Value.ownBlock, e]))]
    exact hgg
theorem OwnU.base {w : World} {b b' : Nat} {v : Value} {xs : List Int} (h : OwnU w b v xs) (hb : b' ≤ b) : OwnU w b' v xs := by
  obtain ⟨h, hne⟩ := h
  refine ⟨⟨h.1, ?_⟩, hne⟩
  rcases h.2 with hn | ⟨g, cap, cur, rfl, hbg, rest⟩
  · exact .inl hn
  · exact .inr ⟨g, cap, cur, rfl, Nat.le_trans hb hbg, rest⟩
theorem Tryz.u64Info : (Tryz.prog.info? 36).map (fun i => (i.zero, i.size, i.bytes)) = some (some (.int .u64 0), 1, 8) := by kernel_rfl
theorem OwnU.alloc {w : World} {base : Nat} {v : Value} {xs : List Int} (h : OwnU w base v xs) (o : Obj) : OwnU (w.alloc o) base v xs := ⟨h.1.alloc o, h.2⟩
theorem OwnU.new (w : World) (base : Nat) (hb : base ≤ w.heap.size) : OwnU (w.alloc (.cells #[] 36)) base (.slice (some ⟨w.heap.size, 0, none⟩) 0 0) [] :=
  ⟨World.ownsRow_made w #[] 0 hb (by simp [maxLen]) (by simp), by simp⟩
theorem SeesU.alloc {w : World} {v : Value} {xs : List Int} (h : SeesU w v xs) (o : Obj) : SeesU (w.alloc o) v xs := h.below ((Below.refl _ _).alloc (Nat.le_refl _) _)
theorem SeesU.one (w : World) (y : Int) : SeesU (w.alloc (.cells #[.int .u64 y] 36)) (.slice (some ⟨w.heap.size, 0, none⟩) 1 1) [y] := by
  refine ⟨w.heap.size, 0, 1, rfl, by simp, Nat.le_refl _, by unfold maxLen; omega, fun i hi => ?_⟩
  have : i = 0 := by simpa using hi
  subst this
  rw [World.cell?_alloc_at _ _ _ _ rfl]
  rfl
/-- What an append leaves, told of lists. -/
theorem app_own {w w' : World} {base : Nat} {v v' : Value} {xs ys : List Int} (hown : OwnU w base v xs) (ho' : w'.ownsRow base 36 1 v' (xs.length + ys.length) (xs.map (Value.int .u64) ++ ys.map (Value.int .u64))) (hnil : v' = .slice none 0 0 ↔ v = .slice none 0 0 ∧ ys.length = 0) : OwnU w' base v' (xs ++ ys) :=
  ⟨by rw [List.length_append, List.map_append]; exact ho', fun e => hown.2 (hnil.1 e).1⟩
theorem sees_cells {w : World} {u : Value} {ys : List Int} (h : SeesU w u ys) : ∃ b p c, u = .slice (some ⟨b, p, none⟩) ys.length c ∧ ∀ j t, (ys.map (Value.int .u64))[j]? = some t → w.cell? ((⟨b, p, none⟩ : Addr).add j) = some t := by
  obtain ⟨b, p, c, rfl, hb, hc, hm, hcell⟩ := h
  refine ⟨b, p, c, rfl, ?_⟩
  intro j t hu
  rw [Addr.add_lit]
  rw [List.getElem?_map] at hu
  cases hj : ys[j]? with
  | none => rw [hj] at hu; cases hu
  | some y =>
    rw [hj] at hu
    have hlt : j < ys.length := (List.getElem?_eq_some_iff.1 hj).1
    rw [hcell j hlt, hj]
    exact hu
theorem one_cells (ys : List Int) : ∀ u ∈ ys.map (Value.int .u64), u.oneCell' = true := by
  intro u hu
  obtain ⟨y, _, rfl⟩ := List.mem_map.1 hu
  rfl
/-- 'append(s, x...)' on a slice of the call's own. -/
theorem wpListU_app {w : World} {ops : Array Oper} {rest : List Oper} {o : Oper} {a : Act} {Q : Exit → Act → World → Prop} (hgd : o.guard = none) (s x : Operand)
    (ho : o.op = .call { callee := .builtin .append, args := #[s, x], argTypes := #[22, 22] })
    (base : Nat) (v : Value) (xs : List Int) (hs : a.eval s = v) (hown : OwnU w base v xs)
    (u : Value) (ys : List Int) (hx : a.eval x = u) (hsee : SeesU w u ys)
    (hlen : xs.length + ys.length ≤ 10000000) (hbase : base ≤ w.heap.size)
    (h : ∀ v' w', OwnU w' base v' (xs ++ ys) → Below base w w' → w.grownBy w' v.ownBlock → (v'.ownBlock = v.ownBlock ∨ v'.ownBlock = some w.heap.size) → wpList Tryz.prog ops Q rest (a.put o.dst v') w') : wpList Tryz.prog ops Q (o :: rest) a w := by
  obtain ⟨b, p, c, rfl, hcells⟩ := sees_cells hsee
  obtain ⟨i, hi, hz, hsz, hby⟩ := info_parts Tryz.u64Info
  refine wpList_append_own_at w hgd s x 22 ho base 36 i (.int .u64 0) 1 8 Tryz.underlying22 hi hz hsz hby rfl (by decide) v _ _ hs hown.1 ⟨b, p, none⟩ ys.length c (ys.map (Value.int .u64)) hx (by simp) hcells (one_cells ys) ?_ ?_ hbase ?_
  · unfold maxLen; omega
  · omega
  · intro v' w' ho' hg hnil hat
    exact h v' w' (app_own hown ho' hnil) ((Below.refl base w).grown hg hbase (fun k hk => (hown.1.lt k hk).1)) hg hat
theorem SeesU.take {w : World} {g cap : Nat} {xs : List Int} (h : SeesU w (.slice (some ⟨g, 0, none⟩) xs.length cap) xs) (n : Nat) (hn : n ≤ xs.length) : SeesU w (.slice (some ⟨g, 0, none⟩) n cap) (xs.take n) := by
  obtain ⟨b, o, c, e, hlt, hc, hm, hcell⟩ := h
  simp at e
  obtain ⟨⟨rfl, rfl⟩, rfl⟩ := e
  refine ⟨g, 0, cap, by rw [List.length_take, Nat.min_eq_left hn], hlt, by rw [List.length_take]; omega, hm, fun i hi => ?_⟩
  rw [List.length_take] at hi
  rw [hcell i (by omega), List.getElem?_take, if_pos (by omega)]
theorem SeesU.drop {w : World} {g cap : Nat} {xs : List Int} (h : SeesU w (.slice (some ⟨g, 0, none⟩) xs.length cap) xs) (n : Nat) (hn : n ≤ xs.length) : SeesU w (.slice (some ⟨g, n, none⟩) (xs.length - n) (cap - n)) (xs.drop n) := by
  obtain ⟨b, o, c, e, hlt, hc, hm, hcell⟩ := h
  simp at e
  obtain ⟨⟨rfl, rfl⟩, rfl⟩ := e
  refine ⟨g, n, cap - n, by rw [List.length_drop], hlt, by rw [List.length_drop]; omega, by omega, fun i hi => ?_⟩
  rw [List.length_drop] at hi
  have := hcell (n + i) (by omega)
  rw [Nat.zero_add] at this
  rw [this, List.getElem?_drop]
end Go.Proofs.YtpakpgjbgehhjaaGreat

/-
  What the functions of package dyad on places return, where a place is one digit: split, combine, plus, minus, placeOf, sign, near, clone; cmp.Compare and slices.Clone of none. Conditions: the digits are small.
-/
namespace Go.Proofs.YtpakpgjbgehhjaaGreat
open Go.RowKit
set_option linter.unusedVariables false

theorem bcell {W w1 : World} (hb : Below W.heap.size W w1) : (∀ b o, b < W.heap.size → w1.cell? ⟨b, o, none⟩ = W.cell? ⟨b, o, none⟩) ∧ (∀ b o, b < W.heap.size → w1.frozen? ⟨b, o, none⟩ = W.frozen? ⟨b, o, none⟩) :=
  ⟨fun b o h => hb.cell (p := ⟨b, o, none⟩) h, fun b o h => hb.frozen (p := ⟨b, o, none⟩) h⟩
theorem dSplit (n : Int) (w : World) (h0 : -2305843009213693952 ≤ n) (h1 : n < 2305843009213693952) :
    Calls Tryz.prog 96 #[.int .i64 n] w fun e w' => e = .returned (.tuple #[.int .i64 n, .int .i64 0]) ∧ w' = w := by
  go_enter Tryz.func96, Tryz.ntmps96
  go_wp2
  go_ret2
  exact ⟨rfl, rfl⟩
theorem dCombine (a b s : Int) (w : World) (a0 : -1000000000000 ≤ a) (a1 : a ≤ 1000000000000) (b0 : -1000000000000 ≤ b) (b1 : b ≤ 1000000000000) (hs : s = 1 ∨ s = -1) :
    Calls Tryz.prog 68 #[.agg #[.int .i64 a, .slice none 0 0], .agg #[.int .i64 b, .slice none 0 0], .int .i64 s] w fun e w' => e = .returned (.agg #[.int .i64 (a + s * b), .slice none 0 0]) ∧ Below w.heap.size w w' := by
  rcases hs with rfl | rfl
  all_goals
    go_enter Tryz.func68, Tryz.ntmps68
    go_wp2_with (go_at_call 96; refine (dSplit _ _ (by omega) (by omega)).mono ?_; rintro e w' ⟨rfl, rfl⟩)
    refine bodyPost_ret (v := _) (by simp [results, Tryz.results68, go_sem]; rfl) rfl ⟨?_, ?_⟩
    · first | rw [show (1 : Int) * b = b by omega] | rw [show (-1 : Int) * b = -b by omega]
    · repeat (first | exact Below.refl _ _ | (refine Below.alloc ?_ (by simp <;> omega) _))
theorem dPlus (a b : Int) (w : World) (a0 : -1000000000000 ≤ a) (a1 : a ≤ 1000000000000) (b0 : -1000000000000 ≤ b) (b1 : b ≤ 1000000000000) :
    Calls Tryz.prog 40 #[.agg #[.int .i64 a, .slice none 0 0], .agg #[.int .i64 b, .slice none 0 0]] w fun e w' => e = .returned (.agg #[.int .i64 (a + b), .slice none 0 0]) ∧ Below w.heap.size w w' := by
  go_enter Tryz.func40, Tryz.ntmps40
  go_wp2_with fail
  refine (dCombine _ _ _ _ a0 a1 b0 b1 (by omega)).mono ?_
  rintro e w1 ⟨rfl, hb1⟩
  rw [Int.one_mul]
  have hb := hb1.mono (B' := w.heap.size) (by simp <;> omega)
  obtain ⟨hc, hf⟩ := bcell hb1
  have hz : w.heap.size + 2 < w1.heap.size := by have := hb1.size; simp at this; omega
  clear hb1
  go_wp2
  refine bodyPost_ret (v := .agg #[.int .i64 (a + b), .slice none 0 0]) (by simp [results, Tryz.results40, go_sem, *]) rfl ⟨rfl, ?_⟩
  repeat (first | exact Below.refl _ _ | exact Below.trans (by repeat (first | exact Below.refl _ _ | (refine Below.alloc ?_ (by simp <;> omega) _))) hb | (refine Below.setCell ?_ (by simp <;> omega) _) | (refine Below.alloc ?_ (by simp <;> omega) _))
theorem dMinus (a b : Int) (w : World) (a0 : -1000000000000 ≤ a) (a1 : a ≤ 1000000000000) (b0 : -1000000000000 ≤ b) (b1 : b ≤ 1000000000000) :
    Calls Tryz.prog 74 #[.agg #[.int .i64 a, .slice none 0 0], .agg #[.int .i64 b, .slice none 0 0]] w fun e w' => e = .returned (.agg #[.int .i64 (a - b), .slice none 0 0]) ∧ Below w.heap.size w w' := by
  go_enter Tryz.func74, Tryz.ntmps74
  go_wp2_with fail
  refine (dCombine _ _ _ _ a0 a1 b0 b1 (by omega)).mono ?_
  rintro e w1 ⟨rfl, hb1⟩
  rw [show a + -1 * b = a - b by omega]
  have hb := hb1.mono (B' := w.heap.size) (by simp <;> omega)
  obtain ⟨hc, hf⟩ := bcell hb1
  have hz : w.heap.size + 2 < w1.heap.size := by have := hb1.size; simp at this; omega
  clear hb1
  go_wp2
  refine bodyPost_ret (v := .agg #[.int .i64 (a - b), .slice none 0 0]) (by simp [results, Tryz.results74, go_sem, *]) rfl ⟨rfl, ?_⟩
  repeat (first | exact Below.refl _ _ | exact Below.trans (by repeat (first | exact Below.refl _ _ | (refine Below.alloc ?_ (by simp <;> omega) _))) hb | (refine Below.setCell ?_ (by simp <;> omega) _) | (refine Below.alloc ?_ (by simp <;> omega) _))
theorem dPlaceOf (a : Int) (w : World) (a0 : -1000000000000 ≤ a) (a1 : a ≤ 1000000000000) :
    Calls Tryz.prog 66 #[.int .i64 a] w fun e w' => e = .returned (.agg #[.int .i64 a, .slice none 0 0]) ∧ Below w.heap.size w w' := by
  go_enter Tryz.func66, Tryz.ntmps66
  go_wp2
  refine bodyPost_ret (v := .agg #[.int .i64 a, .slice none 0 0]) (by simp [results, Tryz.results66, go_sem, *]) rfl ⟨rfl, ?_⟩
  repeat (first | exact Below.refl _ _ | (refine Below.setCell ?_ (by simp <;> omega) _) | (refine Below.alloc ?_ (by simp <;> omega) _))
theorem dNanI (x : Int) (w : World) : Calls Tryz.prog 111 #[.int .i64 x] w fun e w' => e = .returned (.bool false) ∧ w' = w := by
  go_enter Tryz.func111, Tryz.ntmps111
  go_wp2
  go_ret
  exact ⟨rfl, rfl⟩
theorem dNanU (x : Int) (w : World) : Calls Tryz.prog 112 #[.int .u64 x] w fun e w' => e = .returned (.bool false) ∧ w' = w := by
  go_enter Tryz.func112, Tryz.ntmps112
  go_wp2
  go_ret
  exact ⟨rfl, rfl⟩
/-- -1, 0 or 1: how two numbers stand. -/
def cmpZ (x y : Int) : Int := if x < y then -1 else if x = y then 0 else 1
theorem dCmpI (x y : Int) (w : World) : Calls Tryz.prog 101 #[.int .i64 x, .int .i64 y] w fun e w' => e = .returned (.int .i64 (cmpZ x y)) ∧ w' = w := by
  unfold cmpZ
  by_cases h : x < y
  · rw [if_pos h]
    go_enter Tryz.func101, Tryz.ntmps101
    go_wp2_with (go_at_call 111; refine (dNanI _ _).mono ?_; rintro e w' ⟨rfl, rfl⟩)
    go_ret
    exact ⟨rfl, rfl⟩
  · rw [if_neg h]
    by_cases h2 : x = y
    · subst h2
      rw [if_pos rfl]
      go_enter Tryz.func101, Tryz.ntmps101
      go_wp2_with (go_at_call 111; refine (dNanI _ _).mono ?_; rintro e w' ⟨rfl, rfl⟩)
      go_ret
      exact ⟨rfl, rfl⟩
    · have h3 : y < x := by omega
      rw [if_neg h2]
      go_enter Tryz.func101, Tryz.ntmps101
      go_wp2_with (go_at_call 111; refine (dNanI _ _).mono ?_; rintro e w' ⟨rfl, rfl⟩)
      go_ret
      exact ⟨rfl, rfl⟩
theorem dCmpU (x y : Int) (w : World) : Calls Tryz.prog 103 #[.int .u64 x, .int .u64 y] w fun e w' => e = .returned (.int .i64 (cmpZ x y)) ∧ w' = w := by
  unfold cmpZ
  by_cases h : x < y
  · rw [if_pos h]
    go_enter Tryz.func103, Tryz.ntmps103
    go_wp2_with (go_at_call 112; refine (dNanU _ _).mono ?_; rintro e w' ⟨rfl, rfl⟩)
    go_ret
    exact ⟨rfl, rfl⟩
  · rw [if_neg h]
    by_cases h2 : x = y
    · subst h2
      rw [if_pos rfl]
      go_enter Tryz.func103, Tryz.ntmps103
      go_wp2_with (go_at_call 112; refine (dNanU _ _).mono ?_; rintro e w' ⟨rfl, rfl⟩)
      go_ret
      exact ⟨rfl, rfl⟩
    · have h3 : y < x := by omega
      rw [if_neg h2]
      go_enter Tryz.func103, Tryz.ntmps103
      go_wp2_with (go_at_call 112; refine (dNanU _ _).mono ?_; rintro e w' ⟨rfl, rfl⟩)
      go_ret
      exact ⟨rfl, rfl⟩
theorem dSignP (a : Int) (w : World) :
    Calls Tryz.prog 75 #[.agg #[.int .i64 a, .slice none 0 0]] w fun e w' => e = .returned (.int .i64 (cmpZ a 0)) ∧ Below w.heap.size w w' := by
  go_enter Tryz.func75, Tryz.ntmps75
  go_wp2_with (go_at_call 101; refine (dCmpI _ _ _).mono ?_; rintro e w' ⟨rfl, rfl⟩)
  go_ret
  exact ⟨rfl, (Below.refl _ _).alloc (Nat.le_refl _) _⟩
theorem dNear (a : Int) (w : World) (a0 : -1000000000000 ≤ a) (a1 : a ≤ 1000000000000) :
    Calls Tryz.prog 99 #[.agg #[.int .i64 a, .slice none 0 0]] w fun e w' => e = .returned (.int .i64 a) ∧ Below w.heap.size w w' := by
  go_enter Tryz.func99, Tryz.ntmps99
  go_wp2
  go_ret
  exact ⟨by rfl, (Below.refl _ _).alloc (Nat.le_refl _) _⟩
theorem eqNilI (w : World) (a : Option Addr) (n c n' c' : Nat) : (binOp .eql 37 (.slice a n c) (.slice none n' c')).run Tryz.prog w = .ok (.bool a.isNone) w := Lib.run_eql_slice_nil w _ _ a n c n' c' Tryz.underlying37
theorem eqNilU (w : World) (a : Option Addr) (n c n' c' : Nat) : (binOp .eql 22 (.slice a n c) (.slice none n' c')).run Tryz.prog w = .ok (.bool a.isNone) w := Lib.run_eql_slice_nil w _ _ a n c n' c' Tryz.underlying22
theorem dCloneI (w : World) : Calls Tryz.prog 98 #[.slice none 0 0] w fun e w' => e = .returned (.slice none 0 0) ∧ w' = w := by
  have q := eqNilI
  go_enter Tryz.func98, Tryz.ntmps98
  go_wp2
  go_ret
  exact ⟨rfl, rfl⟩
theorem dClone (a : Int) (w : World) :
    Calls Tryz.prog 70 #[.agg #[.int .i64 a, .slice none 0 0]] w fun e w' => e = .returned (.agg #[.int .i64 a, .slice none 0 0]) ∧ Below w.heap.size w w' := by
  go_enter Tryz.func70, Tryz.ntmps70
  go_wp2_with fail
  go_region_held3 (fun w' => w'.cell? ⟨w.heap.size, 0, none⟩ = some (.int .i64 a) ∧ w'.cell? ⟨w.heap.size, 1, none⟩ = some (.slice none 0 0)) (simp [go_sem, *]) (first | (go_at_call 98; refine (dCloneI _).mono ?_; rintro e w' ⟨rfl, rfl⟩))
  go_wp2
  refine bodyPost_ret (v := .agg #[.int .i64 a, .slice none 0 0]) (by simp [results, Tryz.results70, go_sem, *]) rfl ⟨rfl, ?_⟩
  repeat (first | exact Below.refl _ _ | (refine Below.setCell ?_ (by simp <;> omega) _) | (refine Below.alloc ?_ (by simp <;> omega) _) | (refine Below.drew ?_))
end Go.Proofs.YtpakpgjbgehhjaaGreat

/-
  Numbers of package dyad in memory: a block of words ('RowU'), a world of which one block has turned ('Only'), a number ('IsNum', 'Tell'). No conditions.
-/
namespace Go.Proofs.YtpakpgjbgehhjaaGreat
open Go.RowKit
set_option linter.unusedVariables false

/-- Block g holds the words xs, and nothing else. -/
def RowU (w : World) (g : Nat) (xs : List Int) : Prop := w.heap[g]? = some (.cells (xs.map (Value.int .u64)).toArray 36 (0, 0))
theorem RowU.lt {w : World} {g : Nat} {xs : List Int} (h : RowU w g xs) : g < w.heap.size := (Array.getElem?_eq_some_iff.1 h).1
theorem RowU.cell {w : World} {g : Nat} {xs : List Int} (h : RowU w g xs) (i : Nat) (hi : i < xs.length) : w.cell? ⟨g, i, none⟩ = some (.int .u64 (xs[i]?.getD 0)) := by
  unfold RowU at h
  unfold World.cell?
  rw [h]
  simp [List.getElem?_eq_getElem hi]
theorem RowU.frozen {w : World} {g : Nat} {xs : List Int} (h : RowU w g xs) (i : Nat) : w.frozen? ⟨g, i, none⟩ = false := by
  unfold RowU at h
  unfold World.frozen?
  rw [h]
  simp
theorem RowU.set {w : World} {g : Nat} {xs : List Int} (h : RowU w g xs) (i : Nat) (y : Int) : RowU (w.setCell ⟨g, i, none⟩ (.int .u64 y)) g (xs.set i y) := by
  unfold RowU at h ⊢
  simp only [World.setCell, Array.getElem?_modify, if_true, h, Option.map_some]
  simp [List.map_set]
theorem RowU.below {w w' : World} {g : Nat} {xs : List Int} (h : RowU w g xs) (hb : Below w.heap.size w w') : RowU w' g xs := by
  unfold RowU
  rw [hb.block g h.lt]
  exact h
theorem RowU.drew {w : World} {g : Nat} {xs : List Int} (h : RowU w g xs) : RowU w.drew g xs := h
/-- Nothing but block g has turned. -/
structure Only (g : Nat) (w w' : World) : Prop where
  os : w'.os = w.os
  tape : w'.tape = w.tape
  output : w'.output = w.output
  size : w'.heap.size = w.heap.size
  block : ∀ k, k ≠ g → w'.heap[k]? = w.heap[k]?
theorem Only.refl (g : Nat) (w : World) : Only g w w := ⟨rfl, rfl, rfl, rfl, fun _ _ => rfl⟩
theorem Only.trans {g : Nat} {a b c : World} (h : Only g a b) (k : Only g b c) : Only g a c :=
  ⟨k.os.trans h.os, k.tape.trans h.tape, k.output.trans h.output, k.size.trans h.size, fun i hi => (k.block i hi).trans (h.block i hi)⟩
theorem Only.set {g : Nat} {a w : World} (h : Only g a w) (i : Nat) (u : Value) : Only g a (w.setCell ⟨g, i, none⟩ u) :=
  h.trans ⟨rfl, rfl, rfl, by simp [World.setCell], fun k hk => Below.heap_setCell _ _ _ _ hk⟩
theorem Only.drew {g : Nat} {a w : World} (h : Only g a w) : Only g a w.drew := ⟨h.os, h.tape, h.output, h.size, h.block⟩
theorem Only.below {g B : Nat} {w w' : World} (h : Only g w w') (hB : B ≤ g) : Below B w w' := ⟨h.os, h.tape, h.output, by rw [h.size]; exact Nat.le_refl _, fun k hk => h.block k (by omega)⟩
theorem Only.cell {g : Nat} {w w' : World} (h : Only g w w') {p : Addr} (hp : p.block ≠ g) : w'.cell? p = w.cell? p := World.cell?_of_block (w := w) (h.block p.block hp)
theorem Only.frozen {g : Nat} {w w' : World} (h : Only g w w') {p : Addr} (hp : p.block ≠ g) : w'.frozen? p = w.frozen? p := World.frozen?_of_block (w := w) (h.block p.block hp)
theorem RowU.sees {w : World} {g : Nat} {xs : List Int} (h : RowU w g xs) (o n c : Nat) (hn : o + n ≤ xs.length) (hc : n ≤ c) (hm : c ≤ maxLen) : SeesU w (.slice (some ⟨g, o, none⟩) n c) ((xs.drop o).take n) := by
  have hl : ((xs.drop o).take n).length = n := by rw [List.length_take, List.length_drop]; omega
  refine ⟨g, o, c, by rw [hl], h.lt, by rw [hl]; exact hc, hm, fun i hi => ?_⟩
  rw [hl] at hi
  rw [h.cell (o + i) (by omega), List.getElem?_take, if_pos hi, List.getElem?_drop]
theorem RowU.sees_all {w : World} {g : Nat} {xs : List Int} (h : RowU w g xs) (c : Nat) (hc : xs.length ≤ c) (hm : c ≤ maxLen) : SeesU w (.slice (some ⟨g, 0, none⟩) xs.length c) xs := by
  have := h.sees 0 xs.length c (by omega) hc hm
  rw [List.drop_zero, List.take_length] at this
  exact this
/-- A slice that is nil, or holds the words, in a block from base on. -/
def SeesW (w : World) (base : Nat) (s : Value) (ws : List Int) : Prop := (s = .slice none 0 0 ∧ ws = []) ∨ (SeesU w s ws ∧ ws ≠ [] ∧ ∃ b o c, s = .slice (some ⟨b, o, none⟩) ws.length c ∧ base ≤ b)
theorem SeesW.below {w w' : World} {base : Nat} {s : Value} {ws : List Int} (h : SeesW w base s ws) (hb : Below w.heap.size w w') : SeesW w' base s ws := by
  rcases h with h | ⟨h1, h2⟩
  · exact .inl h
  · exact .inr ⟨h1.below hb, h2⟩
theorem SeesW.base {w : World} {b b' : Nat} {s : Value} {ws : List Int} (h : SeesW w b s ws) (hb : b' ≤ b) : SeesW w b' s ws := by
  rcases h with h | ⟨h1, h2, x, o, c, h3, h4⟩
  · exact .inl h
  · exact .inr ⟨h1, h2, x, o, c, h3, by omega⟩
theorem SeesW.set {w : World} {base : Nat} {s : Value} {ws : List Int} (h : SeesW w base s ws) {p : Addr} (hp : p.block < base) (u : Value) : SeesW (w.setCell p u) base s ws := by
  rcases h with h | ⟨⟨b, o, c, rfl, h1, h2, h3, h4⟩, hn, x, o', c', h5, h6⟩
  · exact .inl h
  · refine .inr ⟨⟨b, o, c, rfl, by simpa [World.setCell] using h1, h2, h3, fun i hi => ?_⟩, hn, x, o', c', h5, h6⟩
    simp at h5
    obtain ⟨⟨rfl, rfl⟩, rfl⟩ := h5
    rw [← h4 i hi]
    exact World.cell?_of_block (w := w) (Below.heap_setCell _ _ _ _ (by show b ≠ p.block; omega))
theorem SeesW.len {w : World} {base : Nat} {s : Value} {ws : List Int} (h : SeesW w base s ws) : ∃ a c, s = .slice a ws.length c := by
  rcases h with ⟨rfl, rfl⟩ | ⟨⟨b, o, c, rfl, _⟩, _⟩
  · exact ⟨none, 0, rfl⟩
  · exact ⟨_, c, rfl⟩
theorem OwnU.seesW {w : World} {base : Nat} {v : Value} {xs : List Int} (h : OwnU w base v xs) (hn : xs ≠ []) : SeesW w base v xs := by
  have hs := h.sees
  obtain ⟨g, cap, rfl, _, h1, _⟩ := h.at
  exact .inr ⟨hs, hn, g, 0, cap, rfl, h1⟩
/-- A number: sign, words, place. -/
def IsNum (w : World) (base : Nat) (v : Value) (neg : Bool) (ws : List Int) (p : Int) : Prop :=
  ∃ s, v = .agg #[.bool neg, s, .int .i64 p, .slice none 0 0] ∧ SeesW w base s ws ∧ (ws = [] → p = 0)
def sg (n : Bool) : Int := if n then -1 else 1
/-- The number v is X times 2^-64k; its words lie beneath 2^64 to the power L. -/
def Tell (w : World) (base : Nat) (v : Value) (k : Nat) (L X : Int) : Prop :=
  ∃ neg ws p, IsNum w base v neg ws p ∧ Norm ws ∧ -(k : Int) ≤ p ∧ p + (ws.length : Int) ≤ L ∧ X = sg neg * (dv ws * pw (p + k).toNat)
theorem Tell.below {w w' : World} {base : Nat} {v : Value} {k : Nat} {L X : Int} (h : Tell w base v k L X) (hb : Below w.heap.size w w') : Tell w' base v k L X := by
  obtain ⟨neg, ws, p, ⟨s, h0, h1, h9⟩, h2⟩ := h
  exact ⟨neg, ws, p, ⟨s, h0, h1.below hb, h9⟩, h2⟩
theorem Tell.base {w : World} {b b' : Nat} {v : Value} {k : Nat} {L X : Int} (h : Tell w b v k L X) (hb : b' ≤ b) : Tell w b' v k L X := by
  obtain ⟨neg, ws, p, ⟨s, h0, h1, h9⟩, h2⟩ := h
  exact ⟨neg, ws, p, ⟨s, h0, h1.base hb, h9⟩, h2⟩
theorem Tell.set {w : World} {base : Nat} {v : Value} {k : Nat} {L X : Int} (h : Tell w base v k L X) {p : Addr} (hp : p.block < base) (u : Value) : Tell (w.setCell p u) base v k L X := by
  obtain ⟨neg, ws, q, ⟨s, h0, h1, h9⟩, h2⟩ := h
  exact ⟨neg, ws, q, ⟨s, h0, h1.set hp u, h9⟩, h2⟩
theorem Tell.up {w : World} {base : Nat} {v : Value} {k : Nat} {L X : Int} (h : Tell w base v k L X) (k' : Nat) (L' : Int) (hk : k ≤ k') (hL : L ≤ L') : Tell w base v k' L' (X * pw (k' - k)) := by
  obtain ⟨neg, ws, p, h1, h2, h3, h4, rfl⟩ := h
  refine ⟨neg, ws, p, h1, h2, by omega, by omega, ?_⟩
  rw [show (p + k').toNat = (p + k).toNat + (k' - k) by omega, pw_add]
  grind
theorem Tell.wide {w : World} {base : Nat} {v : Value} {k : Nat} {L X : Int} (h : Tell w base v k L X) (L' : Int) (hL : L ≤ L') : Tell w base v k L' X := by
  obtain ⟨neg, ws, p, h1, h2, h3, h4, h5⟩ := h
  exact ⟨neg, ws, p, h1, h2, h3, by omega, h5⟩
theorem Tell.eq {w : World} {base : Nat} {v : Value} {k : Nat} {L X Y : Int} (h : Tell w base v k L X) (e : X = Y) : Tell w base v k L Y := e ▸ h
theorem Tell.zero (w : World) (base : Nat) (n : Bool) (k : Nat) (L : Int) (hL : 0 ≤ L) : Tell w base (.agg #[.bool n, .slice none 0 0, .int .i64 0, .slice none 0 0]) k L 0 :=
  ⟨n, [], 0, ⟨_, rfl, .inl ⟨rfl, rfl⟩, fun _ => rfl⟩, ⟨InW.nil, fun h => absurd rfl h⟩, by omega, by simpa using hL, by rw [dv_nil, Int.zero_mul, Int.mul_zero]⟩
theorem sg_not (n : Bool) : sg (!n) = - sg n := by cases n <;> rfl
theorem sg_mul (a b : Bool) : sg (a != b) = sg a * sg b := by cases a <;> cases b <;> rfl
/-- -1, 0 or 1: a number's sign. -/
theorem sgnX (n : Bool) (D : Int) (hD : 0 < D) : cmpZ (sg n * D) 0 = if n then -1 else 1 := by
  cases n
  · unfold sg cmpZ; simp; omega
  · unfold sg cmpZ; simp; omega
theorem wpos {ws : List Int} (h : Norm ws) (hn : ws ≠ []) (k : Nat) : 0 < dv ws * pw k := Int.mul_pos (h.pos hn).2.2 (pw_pos k)
end Go.Proofs.YtpakpgjbgehhjaaGreat

/-
  What the functions of package dyad on words do in memory: addTo, subFrom, addTimes. Conditions: the sum fits, the difference isn't below 0.
-/
namespace Go.Proofs.YtpakpgjbgehhjaaGreat
open Go.RowKit
set_option linter.unusedVariables false

set_option maxHeartbeats 1000000 in
theorem dAddTo (g k m c b o c2 : Nat) (xs ys : List Int) (w : World) (hr : RowU w g xs) (hx : InW xs) (hm : k + m = xs.length) (hmc : m ≤ c) (hcm : c ≤ 1000000) (hy : InW ys) (hl : ys.length ≤ m) (hbg : b ≠ g) (hc2 : ys.length ≤ c2) (hcm2 : c2 ≤ 9223372036854775807)
    (hcell : ∀ i, i < ys.length → w.cell? ⟨b, o + i, none⟩ = some (.int .u64 (ys[i]?.getD 0))) (hfit : dv xs + pw k * dv ys < pw xs.length) :
    Calls Tryz.prog 72 #[.slice (some ⟨g, k, none⟩) m c, .slice (some ⟨b, o, none⟩) ys.length c2] w fun e w' => e = .returned (.tuple #[]) ∧ ∃ zs, RowU w' g zs ∧ zs.length = xs.length ∧ InW zs ∧ dv zs = dv xs + pw k * dv ys ∧ Only g w w' := by
  obtain ⟨n, hn⟩ : ∃ n, n = ys.length := ⟨_, rfl⟩
  have HF : Hid (_ < _) := hfit
  have HC : Hid (∀ i, i < ys.length → w.cell? ⟨b, o + i, none⟩ = some (.int .u64 (ys[i]?.getD 0))) := hcell
  have HR : Hid (RowU w g xs) := hr
  clear hfit hcell hr
  rw [← hn] at hl hc2 ⊢
  have HN : Hid (n = ys.length) := hn
  clear hn
  go_enter Tryz.func72, Tryz.ntmps72
  go_wp2
  go_loopw [4, 10] (fun cv iv wr => ∃ (cy : Int) (i : Nat) (zs : List Int), cv = .int .u64 cy ∧ iv = .int .i64 (i : Int) ∧ i ≤ n ∧ 0 ≤ cy ∧ cy ≤ 1 ∧ Hid (RowU wr g zs) ∧ Hid (zs.length = xs.length) ∧ Hid (InW zs) ∧ Hid (dv zs + cy * pw (k + i) = dv xs + pw k * dv (ys.take i)) ∧ Hid (Only g w wr)) (fun _ iv _ => n - (intOf iv).toNat)
  case atStart => exact ⟨0, 0, xs, rfl, rfl, Nat.zero_le _, by omega, by omega, HR.out, rfl, hx, by show _ = _; rw [List.take_zero, dv_nil, Int.mul_zero, Int.zero_mul], Only.refl _ _⟩
  case round =>
    obtain ⟨cy, i, zs, rfl, rfl, hi, hc0, hc1, A, B, C, D, E⟩ := hrel
    by_cases hlt : i < n
    · have q1 := A.out.cell (k + i) (by have := B.out; omega)
      have q2 : wr.cell? ⟨b, o + i, none⟩ = some (.int .u64 (ys[i]?.getD 0)) := (E.out.cell (p := ⟨b, o + i, none⟩) hbg).trans (HC.out i (by have := HN.out; omega))
      have q3 := A.out.frozen (k + i)
      have z0 := (C.out.get (k + i)).1
      have z1 := (C.out.get (k + i)).2
      have y0 := (InW.get hy i).1
      have y1 := (InW.get hy i).2
      obtain ⟨z, hz⟩ : ∃ z, z = zs[k + i]?.getD 0 := ⟨_, rfl⟩
      obtain ⟨y, hy'⟩ : ∃ y, y = ys[i]?.getD 0 := ⟨_, rfl⟩
      rw [← hz] at q1 z0 z1
      rw [← hy'] at q2 y0 y1
      have HZ : Hid (_ = _) := hz
      have HY : Hid (_ = _) := hy'
      clear hz hy'
      have f := add64 z y cy z0 y0 hc0 hc1
      go_wp2
      go_roundw
      case rel =>
        refine ⟨(z + y + cy) / 18446744073709551616, i + 1, zs.set (k + i) ((z + y + cy) % 18446744073709551616), rfl, by go_num, by omega, by omega, by omega, A.out.set _ _, ?_, C.out.set _ _ (by omega) (by omega), ?_, E.out.set _ _⟩
        · show _ = _
          rw [List.length_set]; exact B.out
        · show _ = _
          have e1 := dv_set zs (k + i) ((z + y + cy) % 18446744073709551616) (by have := B.out; omega)
          rw [← HZ.out] at e1
          have e2 := add_word _ z y cy _ ((z + y + cy) / 18446744073709551616) (pw (k + i)) _ _ (by omega) e1 D.out
          rw [← Nat.add_assoc, pw_succ, e2, dv_take_succ ys i (by have := HN.out; omega), ← HY.out, pw_add]
          grind
      case measure => simp [intOf]; omega
    · obtain rfl : i = n := by omega
      have D' : Hid (dv zs + cy * pw (k + i) = dv xs + pw k * dv ys) := by
        have := D.out
        rw [HN.out, List.take_length] at this
        rw [HN.out]
        exact this
      clear D
      obtain ⟨wA, hwA⟩ : ∃ x, x = wr := ⟨wr, rfl⟩
      rw [← hwA] at A E
      go_wp2
      go_loopw [4, 7] (fun cv iv wr => ∃ (cy : Int) (i : Nat) (zs : List Int), cv = .int .u64 cy ∧ iv = .int .i64 (i : Int) ∧ i ≤ m ∧ 0 ≤ cy ∧ cy ≤ 1 ∧ Hid (RowU wr g zs) ∧ Hid (zs.length = xs.length) ∧ Hid (InW zs) ∧ Hid (dv zs + cy * pw (k + i) = dv xs + pw k * dv ys) ∧ Hid (Only g w wr)) (fun _ iv _ => m - (intOf iv).toNat)
      case atStart => exact ⟨cy, i, zs, rfl, rfl, hl, hc0, hc1, hwA ▸ A, B, C, D', hwA ▸ E⟩
      case round =>
        clear A B C D' E HC hwA
        obtain ⟨cz, j, us, rfl, rfl, hj, hd0, hd1, A, B, C, D, E⟩ := hrel
        by_cases hz : cz = 0
        · subst hz
          go_wp2
          refine bodyPost_end (results_none rfl _ _ _) rfl ?_
          refine ⟨rfl, us, A.out, B.out, C.out, ?_, E.out⟩
          have := D.out
          rw [Int.zero_mul, Int.add_zero] at this
          exact this
        · obtain rfl : cz = 1 := by omega
          have hjm : j < m := by
            have h1 := dv_nonneg C.out
            have h2 := D.out
            have h3 := HF.out
            have := pw_lt (k + j) xs.length (by omega)
            omega
          have q1 := A.out.cell (k + j) (by have := B.out; omega)
          have q3 := A.out.frozen (k + j)
          have z0 := (C.out.get (k + j)).1
          have z1 := (C.out.get (k + j)).2
          obtain ⟨z, hz⟩ : ∃ z, z = us[k + j]?.getD 0 := ⟨_, rfl⟩
          rw [← hz] at q1 z0 z1
          have HZ : Hid (_ = _) := hz
          clear hz
          have f := add64 z 0 1 z0 (by omega) (by omega) (by omega)
          go_wp2
          go_roundw
          case rel =>
            refine ⟨(z + 1) / 18446744073709551616, j + 1, us.set (k + j) ((z + 1) % 18446744073709551616), rfl, by go_num, by omega, by omega, by omega, A.out.set _ _, ?_, C.out.set _ _ (by omega) (by omega), ?_, E.out.set _ _⟩
            · show _ = _
              rw [List.length_set]; exact B.out
            · show _ = _
              have e1 := dv_set us (k + j) ((z + 1) % 18446744073709551616) (by have := B.out; omega)
              rw [← HZ.out] at e1
              have e2 := add_word _ z 0 1 _ ((z + 1) / 18446744073709551616) (pw (k + j)) _ _ (by omega) e1 D.out
              rw [← Nat.add_assoc, pw_succ, e2]
              omega
          case measure => simp [intOf]; omega
set_option maxHeartbeats 1000000 in
theorem dSubFrom (g k m c b o c2 : Nat) (xs ys : List Int) (w : World) (hr : RowU w g xs) (hx : InW xs) (hm : k + m = xs.length) (hmc : m ≤ c) (hcm : c ≤ 1000000) (hy : InW ys) (hl : ys.length ≤ m) (hbg : b ≠ g) (hc2 : ys.length ≤ c2) (hcm2 : c2 ≤ 9223372036854775807)
    (hcell : ∀ i, i < ys.length → w.cell? ⟨b, o + i, none⟩ = some (.int .u64 (ys[i]?.getD 0))) (hfit : pw k * dv ys ≤ dv xs) :
    Calls Tryz.prog 77 #[.slice (some ⟨g, k, none⟩) m c, .slice (some ⟨b, o, none⟩) ys.length c2] w fun e w' => e = .returned (.tuple #[]) ∧ ∃ zs, RowU w' g zs ∧ zs.length = xs.length ∧ InW zs ∧ dv zs = dv xs - pw k * dv ys ∧ Only g w w' := by
  obtain ⟨n, hn⟩ : ∃ n, n = ys.length := ⟨_, rfl⟩
  have HF : Hid (_ ≤ _) := hfit
  have HC : Hid (∀ i, i < ys.length → w.cell? ⟨b, o + i, none⟩ = some (.int .u64 (ys[i]?.getD 0))) := hcell
  have HR : Hid (RowU w g xs) := hr
  clear hfit hcell hr
  rw [← hn] at hl hc2 ⊢
  have HN : Hid (n = ys.length) := hn
  clear hn
  go_enter Tryz.func77, Tryz.ntmps77
  go_wp2
  go_loopw [4, 10] (fun cv iv wr => ∃ (cy : Int) (i : Nat) (zs : List Int), cv = .int .u64 cy ∧ iv = .int .i64 (i : Int) ∧ i ≤ n ∧ 0 ≤ cy ∧ cy ≤ 1 ∧ Hid (RowU wr g zs) ∧ Hid (zs.length = xs.length) ∧ Hid (InW zs) ∧ Hid (dv zs - cy * pw (k + i) = dv xs - pw k * dv (ys.take i)) ∧ Hid (Only g w wr)) (fun _ iv _ => n - (intOf iv).toNat)
  case atStart => exact ⟨0, 0, xs, rfl, rfl, Nat.zero_le _, by omega, by omega, HR.out, rfl, hx, by show _ = _; rw [List.take_zero, dv_nil, Int.mul_zero, Int.zero_mul], Only.refl _ _⟩
  case round =>
    obtain ⟨cy, i, zs, rfl, rfl, hi, hc0, hc1, A, B, C, D, E⟩ := hrel
    by_cases hlt : i < n
    · have q1 := A.out.cell (k + i) (by have := B.out; omega)
      have q2 : wr.cell? ⟨b, o + i, none⟩ = some (.int .u64 (ys[i]?.getD 0)) := (E.out.cell (p := ⟨b, o + i, none⟩) hbg).trans (HC.out i (by have := HN.out; omega))
      have q3 := A.out.frozen (k + i)
      have z0 := (C.out.get (k + i)).1
      have z1 := (C.out.get (k + i)).2
      have y0 := (InW.get hy i).1
      have y1 := (InW.get hy i).2
      obtain ⟨z, hz⟩ : ∃ z, z = zs[k + i]?.getD 0 := ⟨_, rfl⟩
      obtain ⟨y, hy'⟩ : ∃ y, y = ys[i]?.getD 0 := ⟨_, rfl⟩
      rw [← hz] at q1 z0 z1
      rw [← hy'] at q2 y0 y1
      have HZ : Hid (_ = _) := hz
      have HY : Hid (_ = _) := hy'
      clear hz hy'
      have bb := bor_bd z (y + cy)
      have be : Hid (bor z (y + cy) = if z < y + cy then 1 else 0) := rfl
      have f := sub64 z y cy z0 y0 y1 hc0 hc1
      go_wp2
      go_roundw
      case rel =>
        refine ⟨bor z (y + cy), i + 1, zs.set (k + i) ((z - y - cy) % 18446744073709551616), rfl, by go_num, by omega, by omega, by omega, A.out.set _ _, ?_, C.out.set _ _ (by omega) (by omega), ?_, E.out.set _ _⟩
        · show _ = _
          rw [List.length_set]; exact B.out
        · show _ = _
          have e1 := dv_set zs (k + i) ((z - y - cy) % 18446744073709551616) (by have := B.out; omega)
          rw [← HZ.out] at e1
          have e2 := sub_word _ z y cy _ (bor z (y + cy)) (pw (k + i)) _ _ (by have := be.out; split at this <;> omega) e1 D.out
          rw [← Nat.add_assoc, pw_succ, e2, dv_take_succ ys i (by have := HN.out; omega), ← HY.out, pw_add]
          grind
      case measure => simp [intOf]; omega
    · obtain rfl : i = n := by omega
      have D' : Hid (dv zs - cy * pw (k + i) = dv xs - pw k * dv ys) := by
        have := D.out
        rw [HN.out, List.take_length] at this
        rw [HN.out]
        exact this
      clear D
      obtain ⟨wA, hwA⟩ : ∃ x, x = wr := ⟨wr, rfl⟩
      rw [← hwA] at A E
      go_wp2
      go_loopw [4, 7] (fun cv iv wr => ∃ (cy : Int) (i : Nat) (zs : List Int), cv = .int .u64 cy ∧ iv = .int .i64 (i : Int) ∧ i ≤ m ∧ 0 ≤ cy ∧ cy ≤ 1 ∧ Hid (RowU wr g zs) ∧ Hid (zs.length = xs.length) ∧ Hid (InW zs) ∧ Hid (dv zs - cy * pw (k + i) = dv xs - pw k * dv ys) ∧ Hid (Only g w wr)) (fun _ iv _ => m - (intOf iv).toNat)
      case atStart => exact ⟨cy, i, zs, rfl, rfl, hl, hc0, hc1, hwA ▸ A, B, C, D', hwA ▸ E⟩
      case round =>
        clear A B C D' E HC hwA
        obtain ⟨cz, j, us, rfl, rfl, hj, hd0, hd1, A, B, C, D, E⟩ := hrel
        by_cases hz : cz = 0
        · subst hz
          go_wp2
          refine bodyPost_end (results_none rfl _ _ _) rfl ?_
          refine ⟨rfl, us, A.out, B.out, C.out, ?_, E.out⟩
          have := D.out
          rw [Int.zero_mul, Int.sub_zero] at this
          exact this
        · obtain rfl : cz = 1 := by omega
          have hjm : j < m := by
            have h1 := dv_lt C.out
            have h2 := D.out
            have h3 := HF.out
            rw [B.out] at h1
            have := pw_lt (k + j) xs.length (by omega)
            omega
          have q1 := A.out.cell (k + j) (by have := B.out; omega)
          have q3 := A.out.frozen (k + j)
          have z0 := (C.out.get (k + j)).1
          have z1 := (C.out.get (k + j)).2
          obtain ⟨z, hz⟩ : ∃ z, z = us[k + j]?.getD 0 := ⟨_, rfl⟩
          rw [← hz] at q1 z0 z1
          have HZ : Hid (_ = _) := hz
          clear hz
          have bb := bor_bd z 1
          have be : Hid (bor z 1 = if z < 1 then 1 else 0) := rfl
          have f := sub64 z 0 1 z0 (by omega) (by omega) (by omega) (by omega)
          go_wp2
          go_roundw
          case rel =>
            refine ⟨bor z 1, j + 1, us.set (k + j) ((z - 1) % 18446744073709551616), rfl, by go_num, by omega, by omega, by omega, A.out.set _ _, ?_, C.out.set _ _ (by omega) (by omega), ?_, E.out.set _ _⟩
            · show _ = _
              rw [List.length_set]; exact B.out
            · show _ = _
              have e1 := dv_set us (k + j) ((z - 1) % 18446744073709551616) (by have := B.out; omega)
              rw [← HZ.out] at e1
              have e2 := sub_word _ z 0 1 _ (bor z 1) (pw (k + j)) _ _ (by have := be.out; split at this <;> omega) e1 D.out
              rw [← Nat.add_assoc, pw_succ, e2]
              omega
          case measure => simp [intOf]; omega
end Go.Proofs.YtpakpgjbgehhjaaGreat

/-
  What the plain functions of package dyad return: slices.Clone, withSign, Sign, Neg, Abs, wordAt, trim. Conditions: lists are short.
-/
namespace Go.Proofs.YtpakpgjbgehhjaaGreat
open Go.RowKit
set_option linter.unusedVariables false

theorem dCloneU (s : Value) (ws : List Int) (w : World) (B : Nat) (hs : SeesW w B s ws) (hl : ws.length ≤ 1000000) :
    Calls Tryz.prog 69 #[s] w fun e w' => ∃ s', e = .returned s' ∧ SeesW w' w.heap.size s' ws ∧ Below w.heap.size w w' := by
  have q := eqNilU
  rcases hs with ⟨rfl, rfl⟩ | ⟨hs, hne, _⟩
  · go_enter Tryz.func69, Tryz.ntmps69
    go_wp2
    go_ret
    exact ⟨_, rfl, .inl ⟨rfl, rfl⟩, Below.refl _ _⟩
  · have H : Hid (SeesU w s ws) := hs
    obtain ⟨b, o, c, rfl, _⟩ := hs
    go_enter Tryz.func69, Tryz.ntmps69
    go_wp2_with (at_builtin; refine wpListU_app rfl _ _ rfl w.heap.size _ [] rfl (OwnU.new _ _ (Nat.le_refl _)) _ ws rfl (H.out.alloc _) (by simp; omega) (by simp) ?_)
    intro v' w1 hown hbel hg hat
    go_wp2
    go_ret
    exact ⟨_, rfl, hown.seesW hne, ((Below.refl _ _).alloc (Nat.le_refl _) _).trans hbel⟩
theorem dWithSign (neg : Bool) (s : Value) (p q : Int) (ws : List Int) (w : World) (B : Nat) (hs : SeesW w B s ws) (hl : ws.length ≤ 1000000) :
    Calls Tryz.prog 42 #[.agg #[.bool neg, s, .int .i64 p, .slice none 0 0], .int .i64 q] w fun e w' => ∃ s', e = .returned (.agg #[.bool (decide (q < 0)), s', .int .i64 p, .slice none 0 0]) ∧ SeesW w' w.heap.size s' ws ∧ Below w.heap.size w w' := by
  have H : Hid (SeesW w B s ws) := hs
  clear hs
  go_enter Tryz.func42, Tryz.ntmps42
  go_wp2_with fail
  go_region_held3 (fun w' => w'.cell? ⟨w.heap.size, 0, none⟩ = some (.bool neg) ∧ w'.cell? ⟨w.heap.size, 1, none⟩ = some s ∧ w'.cell? ⟨w.heap.size, 2, none⟩ = some (.int .i64 p) ∧ w'.cell? ⟨w.heap.size, 3, none⟩ = some (.slice none 0 0)) (simp [go_sem, *])
    (first | (go_at_call 69; refine (dCloneU _ ws _ B (H.out.below (by repeat (first | exact Below.refl _ _ | (refine Below.alloc ?_ (by simp <;> omega) _) | (refine Below.drew ?_)))) hl).mono ?_; rintro e w1 ⟨s1, rfl, hs1, hb1⟩; obtain ⟨A1, C1, rfl⟩ := hs1.len; obtain ⟨hc1, hf1⟩ := bcell hb1; have hz1 : w.heap.size + 1 < w1.heap.size := (by have := hb1.size; simp at this; omega); have hy1 : w.heap.size < w1.heap.size := (by omega); have hx1 : Below w.heap.size w w1 := (Below.trans (by repeat (first | exact Below.refl _ _ | (refine Below.alloc ?_ (by simp <;> omega) _) | (refine Below.drew ?_))) (hb1.mono (by simp <;> omega))); clear hb1) | (go_at_call 70; refine (dClone _ _).mono ?_; rintro e w2 ⟨rfl, hb2⟩; obtain ⟨hc2, hf2⟩ := bcell hb2; have hz2 : w.heap.size + 1 < w2.heap.size := (by have := hb2.size; omega); have hy2 : w.heap.size < w2.heap.size := (by omega); have hx2 : Below w.heap.size w w2 := (hx1.trans (hb2.mono (by omega))); have hs2 := hs1.below hb2; clear hb2))
  go_wp2
  refine bodyPost_ret (v := .agg #[.bool (decide (q < 0)), .slice A1 ws.length C1, .int .i64 p, .slice none 0 0]) (by simp [results, Tryz.results42, go_sem, *]) rfl ⟨_, rfl, ?_, ?_⟩
  · refine SeesW.base (b := w.heap.size + 2) ?_ (by omega)
    repeat (first | exact hs2.base (by simp) | (refine SeesW.set ?_ (by simp) _))
  · repeat (first | exact hx2 | (refine Below.setCell ?_ (by simp <;> omega) _))
theorem sg_abs (n : Bool) (D : Int) (h : 0 ≤ D) : ((sg n * D).natAbs : Int) = D := by cases n <;> simp [sg] <;> omega
theorem Norm.nonneg {ws : List Int} (h : Norm ws) (k : Nat) : 0 ≤ dv ws * pw k := Int.mul_nonneg (dv_nonneg h.1) (Int.le_of_lt (pw_pos k))
theorem tell_len {p L : Int} {n k : Nat} (h1 : -(k : Int) ≤ p) (h2 : p + (n : Int) ≤ L) (hk : k ≤ 100000) (hL : L ≤ 100000) : n ≤ 200000 ∧ p ≤ 100000 ∧ -100000 ≤ p := by omega
theorem dWithSignT (v : Value) (q : Int) (w : World) (B k : Nat) (L X : Int) (h : Tell w B v k L X) (hk : k ≤ 100000) (hL : L ≤ 100000) :
    Calls Tryz.prog 42 #[v, .int .i64 q] w fun e w' => ∃ r, e = .returned r ∧ Tell w' w.heap.size r k L (sg (decide (q < 0)) * (X.natAbs : Int)) ∧ Below w.heap.size w w' := by
  obtain ⟨neg, ws, p, ⟨s, rfl, h1, h9⟩, h2, h3, h4, rfl⟩ := h
  have hl := tell_len h3 h4 hk hL
  refine (dWithSign neg s p q ws w B h1 (by omega)).mono ?_
  rintro e w' ⟨s', rfl, g1, g2⟩
  refine ⟨_, rfl, ⟨_, ws, p, ⟨s', rfl, g1, h9⟩, h2, h3, h4, ?_⟩, g2⟩
  rw [sg_abs _ _ (h2.nonneg _)]
theorem dSign (v : Value) (w : World) (B k : Nat) (L X : Int) (h : Tell w B v k L X) :
    Calls Tryz.prog 43 #[v] w fun e w' => e = .returned (.int .i64 (cmpZ X 0)) ∧ Below w.heap.size w w' := by
  obtain ⟨neg, ws, p, ⟨s, rfl, h1, h9⟩, h2, h3, h4, rfl⟩ := h
  by_cases hn : ws = []
  · subst hn
    rcases h1 with ⟨rfl, _⟩ | ⟨_, hx, _⟩
    · rw [dv_nil, Int.zero_mul, Int.mul_zero]
      clear h2 h9 h3 h4
      go_enter Tryz.func43, Tryz.ntmps43
      go_wp2
      go_ret
      exact ⟨rfl, (Below.refl _ _).alloc (Nat.le_refl _) _⟩
    · exact absurd rfl hx
  · rw [sgnX neg _ (wpos h2 hn _)]
    obtain ⟨a, c, rfl⟩ := h1.len
    have hl : 0 < ws.length := List.length_pos_iff.2 hn
    obtain ⟨n, hnn⟩ : ∃ n, n = ws.length := ⟨_, rfl⟩
    rw [← hnn] at hl ⊢
    have hl' : ¬ n = 0 := by omega
    clear hn h1 h2 h3 h4 h9 hnn
    cases neg
    all_goals
      go_enter Tryz.func43, Tryz.ntmps43
      go_wp2
      go_ret
      exact ⟨rfl, (Below.refl _ _).alloc (Nat.le_refl _) _⟩
theorem cmpZ_bd (x y : Int) : -1 ≤ cmpZ x y ∧ cmpZ x y ≤ 1 := by
  unfold cmpZ
  repeat' split
  all_goals omega
theorem pos_sg (X : Int) : sg (decide (cmpZ X 0 < 0)) * (X.natAbs : Int) = X := by
  unfold cmpZ
  by_cases h : X < 0
  · rw [if_pos h]; simp [sg]; omega
  · rw [if_neg h]
    by_cases h2 : X = 0
    · subst h2; rfl
    · rw [if_neg h2]; simp [sg]; omega
theorem Tell.form {w : World} {B : Nat} {v : Value} {k : Nat} {L X : Int} (h : Tell w B v k L X) : ∃ neg a n c p, v = .agg #[.bool neg, .slice a n c, .int .i64 p, .slice none 0 0] := by
  obtain ⟨neg, ws, p, ⟨s, rfl, h1, h9⟩, h2⟩ := h
  obtain ⟨a, c, rfl⟩ := h1.len
  exact ⟨_, _, _, _, _, rfl⟩
set_option maxHeartbeats 400000 in
theorem dAbs (v : Value) (w : World) (B k : Nat) (L X : Int) (h : Tell w B v k L X) (hk : k ≤ 100000) (hL : L ≤ 100000) :
    Calls Tryz.prog 14 #[v] w fun e w' => ∃ r, e = .returned r ∧ Tell w' w.heap.size r k L (X.natAbs : Int) ∧ Below w.heap.size w w' := by
  have H : Hid (Tell w B v k L X) := h
  obtain ⟨neg, a, n, c, p, rfl⟩ := h.form
  clear h
  go_enter Tryz.func14, Tryz.ntmps14
  go_wp2_with fail
  refine (dWithSignT _ _ _ B k L X (H.out.below (by repeat (first | exact Below.refl _ _ | (refine Below.alloc ?_ (by simp <;> omega) _)))) hk hL).mono ?_
  rintro e w1 ⟨r, rfl, ht, hb1⟩
  obtain ⟨neg', a', n', c', p', rfl⟩ := ht.form
  have T : Hid (Tell _ _ _ _ _ _) := ht
  have hx : Below w.heap.size w w1 := Below.trans (by repeat (first | exact Below.refl _ _ | (refine Below.alloc ?_ (by simp <;> omega) _))) (hb1.mono (by simp <;> omega))
  obtain ⟨hc, hf⟩ := bcell hb1
  have hz : w.heap.size + 1 < w1.heap.size := by have := hb1.size; simp at this; omega
  clear ht hb1 H
  go_wp2
  refine bodyPost_ret (v := .agg #[.bool neg', .slice a' n' c', .int .i64 p', .slice none 0 0]) (by simp [results, Tryz.results14, go_sem, *]) rfl ⟨_, rfl, ?_, ?_⟩
  · refine Tell.base (b := w.heap.size + 2) ?_ (by omega)
    repeat (first | exact (T.out.base (by simp)).eq (by simp [sg]) | (refine Tell.set ?_ (by simp) _))
  · repeat (first | exact hx | (refine Below.setCell ?_ (by simp <;> omega) _))
end Go.Proofs.YtpakpgjbgehhjaaGreat

/-
  What trim, wordAt and ofWord of package dyad return. Conditions: lists are short, places small.
-/
namespace Go.Proofs.YtpakpgjbgehhjaaGreat
open Go.RowKit
set_option linter.unusedVariables false

theorem tell_of_trim {w : World} {base b o c : Nat} {xs : List Int} {neg : Bool} {p : Int} (hx : InW xs) (l t : Nat) (hlt : l ≤ t) (ht : t < xs.length) (hs : SeesU w (.slice (some ⟨b, o, none⟩) xs.length c) xs) (hbase : base ≤ b)
    (z1 : ∀ i, t + 1 ≤ i → i < xs.length → xs[i]?.getD 0 = 0) (z0 : ∀ i, i < l → xs[i]?.getD 0 = 0) (n0 : xs[l]?.getD 0 ≠ 0) (n1 : xs[t]?.getD 0 ≠ 0) (k : Nat) (L : Int) (hk : -(k : Int) ≤ p) (hL : p + (xs.length : Int) ≤ L) :
    Tell w base (.agg #[.bool neg, .slice (some ⟨b, o + l, none⟩) (t + 1 - l) (t + 1 - l), .int .i64 (p + (l : Int)), .slice none 0 0]) k L (sg neg * (dv xs * pw (p + k).toNat)) := by
  have hlen : ((xs.drop l).take (t + 1 - l)).length = t + 1 - l := by rw [List.length_take, List.length_drop]; omega
  have hne : (xs.drop l).take (t + 1 - l) ≠ [] := by intro e; rw [e] at hlen; simp at hlen; omega
  have hg : ∀ i, i < t + 1 - l → ((xs.drop l).take (t + 1 - l))[i]?.getD 0 = xs[l + i]?.getD 0 := by
    intro i hi
    rw [List.getElem?_take, if_pos hi, List.getElem?_drop]
  refine ⟨neg, (xs.drop l).take (t + 1 - l), p + (l : Int), ⟨_, rfl, .inr ⟨?_, hne, b, o + l, t + 1 - l, by rw [hlen], hbase⟩, fun e => absurd e hne⟩, ⟨(hx.drop l).take _, fun _ => ?_⟩, by omega, by rw [hlen]; omega, ?_⟩
  · obtain ⟨b', o', c', e, h1, h2, h3, h4⟩ := hs
    simp at e
    obtain ⟨⟨rfl, rfl⟩, rfl⟩ := e
    refine ⟨b, o + l, t + 1 - l, by rw [hlen], h1, by rw [hlen]; exact Nat.le_refl _, by omega, fun i hi => ?_⟩
    rw [hlen] at hi
    rw [hg i hi, Nat.add_assoc]
    exact h4 (l + i) (by omega)
  · rw [hlen, hg 0 (by omega), hg (t + 1 - l - 1) (by omega), show l + (t + 1 - l - 1) = t by omega, Nat.add_zero]
    exact ⟨n0, n1⟩
  · rw [dv_trim xs hx l (t + 1) (by omega) (by omega) z1 z0, show (p + (l : Int) + k).toNat = l + (p + k).toNat by omega, pw_add]
    grind
set_option maxHeartbeats 1000000 in
theorem dTrim (neg : Bool) (b o c base : Nat) (xs : List Int) (p : Int) (w : World) (hs : SeesU w (.slice (some ⟨b, o, none⟩) xs.length c) xs) (hx : InW xs) (hl : xs.length ≤ 1000000) (hbase : base ≤ b) (p0 : -1000000 ≤ p) (p1 : p ≤ 1000000) :
    Calls Tryz.prog 38 #[.bool neg, .slice (some ⟨b, o, none⟩) xs.length c, .agg #[.int .i64 p, .slice none 0 0]] w fun e w' => ∃ r, e = .returned r ∧ (∀ (k : Nat) (L : Int), -(k : Int) ≤ p → p + (xs.length : Int) ≤ L → 0 ≤ L → Tell w' base r k L (sg neg * (dv xs * pw (p + k).toNat))) ∧ Below w.heap.size w w' := by
  have HS : Hid (SeesU w (.slice (some ⟨b, o, none⟩) xs.length c) xs) := hs
  obtain ⟨b', o', c', e, hb, hc, hm, hcell⟩ := hs
  simp at e
  obtain ⟨⟨rfl, rfl⟩, rfl⟩ := e
  unfold maxLen at hm
  have HC : Hid (∀ i, i < xs.length → w.cell? ⟨b, o + i, none⟩ = some (.int .u64 (xs[i]?.getD 0))) := hcell
  clear hcell
  obtain ⟨n, hn⟩ : ∃ n, n = xs.length := ⟨_, rfl⟩
  have HN : Hid (n = xs.length) := hn
  rw [← hn] at hc hl ⊢
  clear hn
  go_enter Tryz.func38, Tryz.ntmps38
  go_wp2
  go_loop [8] (fun hv => ∃ h : Nat, hv = .int .i64 (h : Int) ∧ h ≤ n ∧ Hid (∀ i, h ≤ i → i < n → xs[i]?.getD 0 = 0)) (fun hv => (intOf hv).toNat)
  case atStart => exact ⟨n, rfl, Nat.le_refl _, fun i h1 h2 => by omega⟩
  case round =>
    obtain ⟨h, rfl, hh, HZ⟩ := hrel
    by_cases h0 : h = 0
    · subst h0
      go_wp2
      go_loop [7] (fun lv => lv = .int .i64 0) (fun lv => 0)
      case atStart => rfl
      case round =>
        subst hrel
        go_wp2
        refine bodyPost_ret (v := .agg #[.bool false, .slice none 0 0, .int .i64 0, .slice none 0 0]) (by simp [results, Tryz.results38, go_sem]) rfl ⟨_, rfl, ?_, ?_⟩
        · intro k L h1 h2 h3
          have e := dv_trim xs hx 0 0 (Nat.le_refl _) (Nat.zero_le _) (fun i h1 h2 => HZ.out i h1 (by have := HN.out; omega)) (fun i hi => by omega)
          simp [dv_nil] at e
          rw [e, Int.zero_mul, Int.mul_zero]
          exact Tell.zero _ _ _ _ _ h3
        · repeat (first | exact Below.refl _ _ | (refine Below.setCell ?_ (by simp <;> omega) _) | (refine Below.alloc ?_ (by simp <;> omega) _))
    · obtain ⟨t, rfl⟩ : ∃ t, h = t + 1 := ⟨h - 1, by omega⟩
      have q := HC.out t (by have := HN.out; omega)
      by_cases hlast : xs[t]?.getD 0 = 0
      · rw [hlast] at q
        have R : Hid (∀ i, t ≤ i → i < n → xs[i]?.getD 0 = 0) := by
          intro i h1 h2
          rcases Nat.lt_or_ge t i with g | g
          · exact HZ.out i g h2
          · obtain rfl : i = t := by omega
            exact hlast
        clear hlast HZ
        go_wp2
        go_round
        case rel => exact ⟨t, by go_num, by omega, R⟩
        case measure => simp [intOf]
      · have HL : Hid (¬ _) := hlast
        obtain ⟨x, hxx⟩ : ∃ x, x = xs[t]?.getD 0 := ⟨_, rfl⟩
        rw [← hxx] at q hlast
        clear hxx
        go_wp2
        go_loop [7] (fun lv => ∃ l : Nat, lv = .int .i64 (l : Int) ∧ l ≤ t ∧ Hid (∀ i, i < l → xs[i]?.getD 0 = 0)) (fun lv => t - (intOf lv).toNat)
        case atStart => exact ⟨0, rfl, Nat.zero_le _, fun i h => by omega⟩
        case round =>
          obtain ⟨l, rfl, hlt, HA⟩ := hrel
          clear q
          have q := HC.out l (by have := HN.out; omega)
          by_cases hf : xs[l]?.getD 0 = 0
          · have hlt' : l < t := by
              rcases Nat.lt_or_ge l t with g | g
              · exact g
              · obtain rfl : l = t := by omega
                exact absurd hf HL.out
            rw [hf] at q
            have R : Hid (∀ i, i < l + 1 → xs[i]?.getD 0 = 0) := by
              intro i h1
              rcases Nat.lt_or_ge i l with g | g
              · exact HA.out i g
              · obtain rfl : i = l := by omega
                exact hf
            clear hf HA
            go_wp2
            go_round
            case rel => exact ⟨l + 1, by go_num, by omega, R⟩
            case measure => simp [intOf]; omega
          · have HF : Hid (¬ _) := hf
            obtain ⟨y, hyy⟩ : ∃ y, y = xs[l]?.getD 0 := ⟨_, rfl⟩
            rw [← hyy] at q hf
            clear hyy
            have T : Hid (∀ (W : World), SeesU W (.slice (some ⟨b, o, none⟩) xs.length c) xs → ∀ (k : Nat) (L : Int), -(k : Int) ≤ p → p + (xs.length : Int) ≤ L → 0 ≤ L → Tell W base (.agg #[.bool neg, .slice (some ⟨b, o + l, none⟩) (t + 1 - l) (t + 1 - l), .int .i64 (p + (l : Int)), .slice none 0 0]) k L (sg neg * (dv xs * pw (p + k).toNat))) :=
              fun W hW k L h1 h2 h3 => tell_of_trim hx l t hlt (by have := HN.out; omega) hW hbase (fun i a1 a2 => HZ.out i a1 (by have := HN.out; omega)) HA.out HF.out HL.out k L h1 h2
            clear HA HZ HF HL
            have hne : ¬ l = t + 1 := by omega
            have i1 : (0 : Int) ≤ (l : Int) := by omega
            have i2 : (l : Int) ≤ (t : Int) + 1 := by omega
            have i3 : (t : Int) + 1 ≤ (n : Int) := by omega
            have i4 : (t : Int) + 1 ≤ (c : Int) := by omega
            go_wp2_with fail
            go_region_held3 (fun w' => w'.cell? ⟨w.heap.size, 0, none⟩ = some (.int .i64 p) ∧ w'.cell? ⟨w.heap.size, 1, none⟩ = some (.slice none 0 0)) (simp [go_sem, *]) (first | (go_at_call 66; refine (dPlaceOf _ _ (by omega) (by omega)).mono ?_; rintro e w1 ⟨rfl, hb1⟩; obtain ⟨hc1, hf1⟩ := bcell hb1; have hz1 : w.heap.size + 1 < w1.heap.size := (by have := hb1.size; simp at this; omega); have hy1 : w.heap.size < w1.heap.size := (by omega); have hx1 : Below w.heap.size w w1 := (Below.trans (by repeat (first | exact Below.refl _ _ | (refine Below.alloc ?_ (by simp <;> omega) _) | (refine Below.drew ?_))) (hb1.mono (by simp <;> omega))); clear hb1) | (go_at_call 40; refine (dPlus _ _ _ (by omega) (by omega) (by omega) (by omega)).mono ?_; rintro e w2 ⟨rfl, hb2⟩; obtain ⟨hc2, hf2⟩ := bcell hb2; have hz2 : w.heap.size + 1 < w2.heap.size := (by have := hb2.size; omega); have hy2 : w.heap.size < w2.heap.size := (by omega); have hx2 : Below w.heap.size w w2 := (hx1.trans (hb2.mono (by omega))); clear hb2))
            go_wp2
            have hfin : ∀ W, W = _ → Below w.heap.size w W := fun W hW => hW ▸ (((((hx2.setCell (p := ⟨w.heap.size + 1, 0, none⟩) (by simp) (.bool neg)).setCell (p := ⟨w.heap.size + 1, 1, none⟩) (by simp) (.slice (some ⟨b, o + l, none⟩) (t + 1 - l) (t + 1 - l))).setCell (p := ⟨w.heap.size + 1, 2, none⟩) (by simp) (.int .i64 (p + (l : Int)))).setCell (p := ⟨w.heap.size + 1, 3, none⟩) (by simp) (.slice none 0 0)))
            refine bodyPost_ret (v := .agg #[.bool neg, .slice (some ⟨b, o + l, none⟩) (t + 1 - l) (t + 1 - l), .int .i64 (p + (l : Int)), .slice none 0 0]) (by simp [results, Tryz.results38, go_sem, *]) rfl ⟨_, rfl, ?_, hfin _ rfl⟩
            rw [HN.out]
            exact T.out _ (HS.out.below (hfin _ rfl))
theorem dWordAt (s : Value) (ws : List Int) (i : Int) (B : Nat) (w : World) (hs : SeesW w B s ws) (hl : ws.length ≤ 1000000) (i0 : -1000000 ≤ i) (i1 : i ≤ 1000000) :
    Calls Tryz.prog 102 #[s, .int .i64 i] w fun e w' => e = .returned (.int .u64 (if i < 0 then 0 else ws[i.toNat]?.getD 0)) ∧ w' = w := by
  by_cases hi : i < 0
  · rw [if_pos hi]
    obtain ⟨a, c, rfl⟩ := hs.len
    go_enter Tryz.func102, Tryz.ntmps102
    go_wp2
    go_ret
    exact ⟨rfl, rfl⟩
  · rw [if_neg hi]
    obtain ⟨j, rfl⟩ : ∃ j : Nat, i = j := ⟨i.toNat, by omega⟩
    rw [Int.toNat_natCast]
    by_cases hj : j < ws.length
    · rcases hs with ⟨_, rfl⟩ | ⟨⟨b, o, c, rfl, h1, h2, h3, h4⟩, _⟩
      · simp at hj
      · have q := h4 j hj
        clear h4
        unfold maxLen at h3
        go_enter Tryz.func102, Tryz.ntmps102
        go_wp2
        go_ret
        exact ⟨rfl, rfl⟩
    · rw [List.getElem?_eq_none (by omega), Option.getD_none]
      obtain ⟨a, c, rfl⟩ := hs.len
      have hj' : ws.length ≤ j := by omega
      go_enter Tryz.func102, Tryz.ntmps102
      go_wp2
      go_ret
      exact ⟨rfl, rfl⟩
end Go.Proofs.YtpakpgjbgehhjaaGreat

/-
  The highest bits of a number, and whether there is more: the mathematics. No conditions.
-/
namespace Go.Proofs.YtpakpgjbgehhjaaGreat
set_option linter.unusedVariables false

end Go.Proofs.YtpakpgjbgehhjaaGreat
