/-
  Slices of uint64 in memory: that a slice holds a list ('SeesU'), that it is the call's own new memory ('OwnU'); append, in and out of regions that draw; two such slices in two blocks. No conditions.
-/
import Derived.Test.YtokgfeeaoioegaaProg
import Derived.Test.YtokgfeeaoioegaaHlp
import Derived.WalkKit
import Derived.ProofKit
import Derived.Maps.AppendAt
namespace Go.Proofs.Ytokgfeeaoioegaa
open Go.RowKit
set_option linter.unusedVariables false

/-- The slice v holds the list xs. -/
def SeesU (w : World) (v : Value) (xs : List Int) : Prop :=
  ∃ b o c, v = .slice (some ⟨b, o, none⟩) xs.length c ∧ b < w.heap.size ∧ xs.length ≤ c ∧ c ≤ maxLen ∧ ∀ i, i < xs.length → w.cell? ⟨b, o + i, none⟩ = some (.int .u64 (xs[i]?.getD 0))
/-- The slice v is made of the call's own memory (blocks from base on), and holds xs. -/
def OwnU (w : World) (base : Nat) (v : Value) (xs : List Int) : Prop :=
  w.ownsRow base 26 1 v xs.length (xs.map (Value.int .u64)) ∧ v ≠ .slice none 0 0

theorem OwnU.at {w : World} {base : Nat} {v : Value} {xs : List Int} (h : OwnU w base v xs) : ∃ g cap, v = .slice (some ⟨g, 0, none⟩) xs.length cap ∧ v.ownBlock = some g ∧ base ≤ g ∧ g < w.heap.size ∧ xs.length ≤ cap ∧ cap ≤ maxLen ∧ ∀ i, i < xs.length → w.cell? ⟨g, i, none⟩ = some (.int .u64 (xs[i]?.getD 0)) := by
  obtain ⟨h, hne⟩ := h
  have hc := fun g => World.ownsRow.cells h (g := g)
  have hlt := h.lt
  rcases h.2 with ⟨rfl, _⟩ | ⟨g, cap, cur, rfl, hb, hg, hnc, hcm, hcs, htake⟩
  · exact absurd rfl hne
  · refine ⟨g, cap, rfl, rfl, hb, (hlt g rfl).2, hnc, hcm, fun i hi => ?_⟩
    have := hc g rfl i (.int .u64 (xs[i]?.getD 0)) (by rw [List.getElem?_map, List.getElem?_eq_getElem hi]; rfl)
    rw [Addr.add_lit, Nat.zero_add] at this
    exact this
theorem OwnU.sees {w : World} {base : Nat} {v : Value} {xs : List Int} (h : OwnU w base v xs) : SeesU w v xs := by
  obtain ⟨g, cap, rfl, _, _, h1, h2, h3, h4⟩ := h.at
  exact ⟨g, 0, cap, rfl, h1, h2, h3, fun i hi => by rw [Nat.zero_add]; exact h4 i hi⟩
theorem SeesU.below {w w' : World} {v : Value} {xs : List Int} (h : SeesU w v xs) (hb : Below w.heap.size w w') : SeesU w' v xs := by
  obtain ⟨b, o, c, rfl, hlt, hc, hm, hcell⟩ := h
  exact ⟨b, o, c, rfl, Nat.lt_of_lt_of_le hlt hb.size, hc, hm, fun i hi => (hb.cell (p := ⟨b, o + i, none⟩) hlt).trans (hcell i hi)⟩
theorem OwnU.below {w w' : World} {base : Nat} {v : Value} {xs : List Int} (h : OwnU w base v xs) (hb : Below w.heap.size w w') : OwnU w' base v xs := by
  obtain ⟨h, hne⟩ := h
  refine ⟨⟨h.1, ?_⟩, hne⟩
  rcases h.2 with hn | ⟨g, cap, cur, rfl, hbg, hgg, rest⟩
  · exact .inl hn
  · refine .inr ⟨g, cap, cur, rfl, hbg, ?_, rest⟩
    rw [hb.block g (Array.getElem?_eq_some_iff.1 hgg).1]
    exact hgg
/-- A slice of the call's own stays as another one, in another block, grows. -/
theorem OwnU.apart {w w' : World} {base : Nat} {v : Value} {xs : List Int} {row : Option Nat} (h : OwnU w base v xs) (hg : w.grownBy w' row) (hne : v.ownBlock ≠ row) : OwnU w' base v xs := by
  obtain ⟨h, hn0⟩ := h
  refine ⟨⟨h.1, ?_⟩, hn0⟩
  rcases h.2 with hn | ⟨g, cap, cur, rfl, hbg, hgg, rest⟩
  · exact .inl hn
  · refine .inr ⟨g, cap, cur, rfl, hbg, ?_, rest⟩
    rw [hg.block g (Array.getElem?_eq_some_iff.1 hgg).1 (fun e => hne (by simp [Value.ownBlock, e]))]
    exact hgg
theorem OwnU.base {w : World} {b b' : Nat} {v : Value} {xs : List Int} (h : OwnU w b v xs) (hb : b' ≤ b) : OwnU w b' v xs := by
  obtain ⟨h, hne⟩ := h
  refine ⟨⟨h.1, ?_⟩, hne⟩
  rcases h.2 with hn | ⟨g, cap, cur, rfl, hbg, rest⟩
  · exact .inl hn
  · exact .inr ⟨g, cap, cur, rfl, Nat.le_trans hb hbg, rest⟩
theorem Try.u64Info : (Try.prog.info? 26).map (fun i => (i.zero, i.size, i.bytes)) = some (some (.int .u64 0), 1, 8) := by kernel_rfl
theorem OwnU.alloc {w : World} {base : Nat} {v : Value} {xs : List Int} (h : OwnU w base v xs) (o : Obj) : OwnU (w.alloc o) base v xs := ⟨h.1.alloc o, h.2⟩
theorem OwnU.new (w : World) (base : Nat) (hb : base ≤ w.heap.size) : OwnU (w.alloc (.cells #[] 26)) base (.slice (some ⟨w.heap.size, 0, none⟩) 0 0) [] :=
  ⟨World.ownsRow_made w #[] 0 hb (by simp [maxLen]) (by simp), by simp⟩
theorem SeesU.alloc {w : World} {v : Value} {xs : List Int} (h : SeesU w v xs) (o : Obj) : SeesU (w.alloc o) v xs := h.below ((Below.refl _ _).alloc (Nat.le_refl _) _)
theorem SeesU.one (w : World) (y : Int) : SeesU (w.alloc (.cells #[.int .u64 y] 26)) (.slice (some ⟨w.heap.size, 0, none⟩) 1 1) [y] := by
  refine ⟨w.heap.size, 0, 1, rfl, by simp, Nat.le_refl _, by unfold maxLen; omega, fun i hi => ?_⟩
  have : i = 0 := by simpa using hi
  subst this
  rw [World.cell?_alloc_at _ _ _ _ rfl]
  rfl
/-- What an append leaves, told of lists. -/
theorem app_own {w w' : World} {base : Nat} {v v' : Value} {xs ys : List Int} (hown : OwnU w base v xs) (ho' : w'.ownsRow base 26 1 v' (xs.length + ys.length) (xs.map (Value.int .u64) ++ ys.map (Value.int .u64))) (hnil : v' = .slice none 0 0 ↔ v = .slice none 0 0 ∧ ys.length = 0) : OwnU w' base v' (xs ++ ys) :=
  ⟨by rw [List.length_append, List.map_append]; exact ho', fun e => hown.2 (hnil.1 e).1⟩
theorem sees_cells {w : World} {u : Value} {ys : List Int} (h : SeesU w u ys) : ∃ b p c, u = .slice (some ⟨b, p, none⟩) ys.length c ∧ ∀ j t, (ys.map (Value.int .u64))[j]? = some t → w.cell? ((⟨b, p, none⟩ : Addr).add j) = some t := by
  obtain ⟨b, p, c, rfl, hb, hc, hm, hcell⟩ := h
  refine ⟨b, p, c, rfl, ?_⟩
  intro j t hu
  rw [Addr.add_lit]
  rw [List.getElem?_map] at hu
  cases hj : ys[j]? with
  | none => rw [hj] at hu; cases hu
  | some y =>
    rw [hj] at hu
    have hlt : j < ys.length := (List.getElem?_eq_some_iff.1 hj).1
    rw [hcell j hlt, hj]
    exact hu
theorem one_cells (ys : List Int) : ∀ u ∈ ys.map (Value.int .u64), u.oneCell' = true := by
  intro u hu
  obtain ⟨y, _, rfl⟩ := List.mem_map.1 hu
  rfl
/-- 'append(s, x...)' on a slice of the call's own. -/
theorem wpListU_app {w : World} {ops : Array Oper} {rest : List Oper} {o : Oper} {a : Act} {Q : Exit → Act → World → Prop} (hgd : o.guard = none) (s x : Operand)
    (ho : o.op = .call { callee := .builtin .append, args := #[s, x], argTypes := #[23, 23] })
    (base : Nat) (v : Value) (xs : List Int) (hs : a.eval s = v) (hown : OwnU w base v xs)
    (u : Value) (ys : List Int) (hx : a.eval x = u) (hsee : SeesU w u ys)
    (hlen : xs.length + ys.length ≤ 10000000) (hbase : base ≤ w.heap.size)
    (h : ∀ v' w', OwnU w' base v' (xs ++ ys) → Below base w w' → w.grownBy w' v.ownBlock → (v'.ownBlock = v.ownBlock ∨ v'.ownBlock = some w.heap.size) → wpList Try.prog ops Q rest (a.put o.dst v') w') : wpList Try.prog ops Q (o :: rest) a w := by
  obtain ⟨b, p, c, rfl, hcells⟩ := sees_cells hsee
  obtain ⟨i, hi, hz, hsz, hby⟩ := info_parts Try.u64Info
  refine wpList_append_own_at w hgd s x 23 ho base 26 i (.int .u64 0) 1 8 Try.underlying23 hi hz hsz hby rfl (by decide) v _ _ hs hown.1 ⟨b, p, none⟩ ys.length c (ys.map (Value.int .u64)) hx (by simp) hcells (one_cells ys) ?_ ?_ hbase ?_
  · unfold maxLen; omega
  · omega
  · intro v' w' ho' hg hnil hat
    exact h v' w' (app_own hown ho' hnil) ((Below.refl base w).grown hg hbase (fun k hk => (hown.1.lt k hk).1)) hg hat
/-- 'append(s, x...)' on a slice of the call's own, x without a number. -/
theorem wpListU_app0 {w : World} {ops : Array Oper} {rest : List Oper} {o : Oper} {a : Act} {Q : Exit → Act → World → Prop} (hgd : o.guard = none) (s x : Operand)
    (ho : o.op = .call { callee := .builtin .append, args := #[s, x], argTypes := #[23, 23] })
    (base : Nat) (v : Value) (xs : List Int) (hs : a.eval s = v) (hown : OwnU w base v xs)
    (ad : Addr) (c : Nat) (hx : a.eval x = .slice (some ad) 0 c)
    (hlen : xs.length ≤ 10000000) (hbase : base ≤ w.heap.size)
    (h : ∀ v' w', OwnU w' base v' xs → Below base w w' → wpList Try.prog ops Q rest (a.put o.dst v') w') : wpList Try.prog ops Q (o :: rest) a w := by
  obtain ⟨i, hi, hz, hsz, hby⟩ := info_parts Try.u64Info
  refine wpList_append_own_at w hgd s x 23 ho base 26 i (.int .u64 0) 1 8 Try.underlying23 hi hz hsz hby rfl (by decide) v _ _ hs hown.1 ad 0 c [] hx (by simp) (fun j u hu => by simp at hu) (fun u hu => by simp at hu) ?_ ?_ hbase ?_
  · unfold maxLen; omega
  · omega
  · intro v' w' ho' hg hnil hat
    refine h v' w' ⟨?_, fun e => hown.2 (hnil.1 e).1⟩ ((Below.refl base w).grown hg hbase (fun k hk => (hown.1.lt k hk).1))
    rw [List.append_nil, Nat.add_zero] at ho'
    exact ho'
/-- The same, as one step of a region that draws. -/
theorem stepU_app {w : World} {ops : Array Oper} {o : Oper} {a : Act} {K : Act → World → Prop} {Q : Exit → Act → World → Prop} {E : Prop} (hgd : o.guard = none) (s x : Operand)
    (ho : o.op = .call { callee := .builtin .append, args := #[s, x], argTypes := #[23, 23] })
    (base : Nat) (v : Value) (xs : List Int) (hs : a.eval s = v) (hown : OwnU w base v xs)
    (u : Value) (ys : List Int) (hx : a.eval x = u) (hsee : SeesU w u ys)
    (hlen : xs.length + ys.length ≤ 10000000) (hbase : base ≤ w.heap.size)
    (h : ∀ v' w', OwnU w' base v' (xs ++ ys) → Below base w w' → w.grownBy w' v.ownBlock → (v'.ownBlock = v.ownBlock ∨ v'.ownBlock = some w.heap.size) → K (a.put o.dst v') w') :
    if Region.wanted o (yielded ops a.tmps) = true then Oper.wp Try.prog o a w K Q else E := by
  have hw : Region.wanted o (yielded ops a.tmps) = true := by simp [Region.wanted, hgd]
  rw [if_pos hw]
  obtain ⟨b, p, c, rfl, hcells⟩ := sees_cells hsee
  obtain ⟨i, hi, hz, hsz, hby⟩ := info_parts Try.u64Info
  obtain ⟨v', w', hr, h2, h3, h4, h5⟩ := run_append_own_at (P := Try.prog) w base 23 o.type 26 i (.int .u64 0) 1 8 Try.underlying23 hi hz hsz hby rfl (by decide) v _ _ hown.1 ⟨b, p, none⟩ ys.length c (ys.map (Value.int .u64)) (by simp) hcells (one_cells ys) (by unfold maxLen; omega) (by omega) hbase
  unfold Oper.wp execOp
  simp only [ho, resolve, invoke, builtin, Sem.run_bind, Sem.run_pure, Result.andThen_ok, List.map_toArray, List.map_cons, List.map_nil, hs, hx, hr]
  exact h v' w' (app_own hown h2 h4) ((Below.refl base w).grown h3 hbase (fun k hk => (hown.1.lt k hk).1)) h3 h5
theorem SeesU.take {w : World} {g cap : Nat} {xs : List Int} (h : SeesU w (.slice (some ⟨g, 0, none⟩) xs.length cap) xs) (n : Nat) (hn : n ≤ xs.length) : SeesU w (.slice (some ⟨g, 0, none⟩) n cap) (xs.take n) := by
  obtain ⟨b, o, c, e, hlt, hc, hm, hcell⟩ := h
  simp at e
  obtain ⟨⟨rfl, rfl⟩, rfl⟩ := e
  refine ⟨g, 0, cap, by rw [List.length_take, Nat.min_eq_left hn], hlt, by rw [List.length_take]; omega, hm, fun i hi => ?_⟩
  rw [List.length_take] at hi
  rw [hcell i (by omega), List.getElem?_take, if_pos (by omega)]
theorem SeesU.drop {w : World} {g cap : Nat} {xs : List Int} (h : SeesU w (.slice (some ⟨g, 0, none⟩) xs.length cap) xs) (n : Nat) (hn : n ≤ xs.length) : SeesU w (.slice (some ⟨g, n, none⟩) (xs.length - n) (cap - n)) (xs.drop n) := by
  obtain ⟨b, o, c, e, hlt, hc, hm, hcell⟩ := h
  simp at e
  obtain ⟨⟨rfl, rfl⟩, rfl⟩ := e
  refine ⟨g, n, cap - n, by rw [List.length_drop], hlt, by rw [List.length_drop]; omega, by omega, fun i hi => ?_⟩
  rw [List.length_drop] at hi
  have := hcell (n + i) (by omega)
  rw [Nat.zero_add] at this
  rw [this, List.getElem?_drop]
end Go.Proofs.Ytokgfeeaoioegaa
