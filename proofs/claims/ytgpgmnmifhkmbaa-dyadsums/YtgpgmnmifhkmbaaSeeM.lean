/-
  Slices of ints in memory: that a slice holds a list ('Sees'), that it is the call's own new memory ('Own'), and that both stay as the world grows. No conditions.
-/
import Derived.Test.YtgpgmnmifhkmbaaProg
import Derived.Test.YtgpgmnmifhkmbaaBitM
import Derived.WalkKit
import Derived.ProofKit
namespace Go.Proofs.Ytgpgmnmifhkmbaa
open Go.RowKit

/-- The slice v holds the list xs. -/
def Sees (w : World) (v : Value) (xs : List Int) : Prop :=
  ∃ b o c, v = .slice (some ⟨b, o, none⟩) xs.length c ∧ b < w.heap.size ∧ xs.length ≤ c ∧ c ≤ maxLen ∧ ∀ i, i < xs.length → w.cell? ⟨b, o + i, none⟩ = some (.int .i64 (xs[i]?.getD 0))
/-- The slice v is made of the call's own memory (blocks from base on), and holds xs. -/
def Own (w : World) (base : Nat) (v : Value) (xs : List Int) : Prop :=
  w.ownsRow base 3 1 v xs.length (xs.map (Value.int .i64)) ∧ v ≠ .slice none 0 0

theorem Own.sees {w : World} {base : Nat} {v : Value} {xs : List Int} (h : Own w base v xs) : Sees w v xs := by
  obtain ⟨h, hne⟩ := h
  have hc := fun g => World.ownsRow.cells h (g := g)
  have hlt := h.lt
  rcases h.2 with ⟨rfl, _⟩ | ⟨g, cap, cur, rfl, hb, hg, hnc, hcm, hcs, htake⟩
  · exact absurd rfl hne
  · refine ⟨g, 0, cap, rfl, (hlt g rfl).2, hnc, hcm, fun i hi => ?_⟩
    have := hc g rfl i (.int .i64 (xs[i]?.getD 0)) (by rw [List.getElem?_map, List.getElem?_eq_getElem hi]; rfl)
    rw [Addr.add_lit] at this
    exact this
theorem Sees.below {w w' : World} {v : Value} {xs : List Int} (h : Sees w v xs) (hb : Below w.heap.size w w') : Sees w' v xs := by
  obtain ⟨b, o, c, rfl, hlt, hc, hm, hcell⟩ := h
  exact ⟨b, o, c, rfl, Nat.lt_of_lt_of_le hlt hb.size, hc, hm, fun i hi => (hb.cell (p := ⟨b, o + i, none⟩) hlt).trans (hcell i hi)⟩
theorem Own.below {w w' : World} {base : Nat} {v : Value} {xs : List Int} (h : Own w base v xs) (hb : Below w.heap.size w w') : Own w' base v xs := by
  obtain ⟨h, hne⟩ := h
  refine ⟨⟨h.1, ?_⟩, hne⟩
  rcases h.2 with hn | ⟨g, cap, cur, rfl, hbg, hgg, rest⟩
  · exact .inl hn
  · refine .inr ⟨g, cap, cur, rfl, hbg, ?_, rest⟩
    rw [hb.block g (Array.getElem?_eq_some_iff.1 hgg).1]
    exact hgg
theorem Own.base {w : World} {b b' : Nat} {v : Value} {xs : List Int} (h : Own w b v xs) (hb : b' ≤ b) : Own w b' v xs := by
  obtain ⟨h, hne⟩ := h
  refine ⟨⟨h.1, ?_⟩, hne⟩
  rcases h.2 with hn | ⟨g, cap, cur, rfl, hbg, rest⟩
  · exact .inl hn
  · exact .inr ⟨g, cap, cur, rfl, Nat.le_trans hb hbg, rest⟩

theorem Try.intInfo : (Try.prog.info? 3).map (fun i => (i.zero, i.size, i.bytes)) = some (some (.int .i64 0), 1, 8) := by kernel_rfl

theorem Own.alloc {w : World} {base : Nat} {v : Value} {xs : List Int} (h : Own w base v xs) (o : Obj) : Own (w.alloc o) base v xs := ⟨h.1.alloc o, h.2⟩
theorem Own.new (w : World) (base : Nat) (hb : base ≤ w.heap.size) : Own (w.alloc (.cells #[] 3)) base (.slice (some ⟨w.heap.size, 0, none⟩) 0 0) [] :=
  ⟨World.ownsRow_made w #[] 0 hb (by simp [maxLen]) (by simp), by simp⟩
/-- 'append(s, x...)' on a slice of the call's own. -/
theorem wpList_app {w : World} {ops : Array Oper} {rest : List Oper} {o : Oper} {a : Act} {Q : Exit → Act → World → Prop} (hgd : o.guard = none) (s x : Operand)
    (ho : o.op = .call { callee := .builtin .append, args := #[s, x], argTypes := #[26, 26] })
    (base : Nat) (v : Value) (xs : List Int) (hs : a.eval s = v) (hown : Own w base v xs)
    (b p n c : Nat) (ys : List Int) (hx : a.eval x = .slice (some ⟨b, p, none⟩) n c) (hn : n = ys.length)
    (hcell : ∀ i, i < ys.length → w.cell? ⟨b, p + i, none⟩ = some (.int .i64 (ys[i]?.getD 0)))
    (hlen : xs.length + ys.length ≤ 10000000) (hbase : base ≤ w.heap.size)
    (h : ∀ v' w', Own w' base v' (xs ++ ys) → Below base w w' → wpList Try.prog ops Q rest (a.put o.dst v') w') : wpList Try.prog ops Q (o :: rest) a w := by
  subst hn
  obtain ⟨i, hi, hz, hsz, hby⟩ := info_parts Try.intInfo
  refine wpList_append_own w hgd s x 26 ho base 3 i (.int .i64 0) 1 8 Try.underlying26 hi hz hsz hby rfl (by decide) v _ _ hs hown.1 ⟨b, p, none⟩ ys.length c (ys.map (Value.int .i64)) hx (by simp) ?_ ?_ ?_ ?_ hbase ?_
  · intro j u hu
    rw [Addr.add_lit]
    rw [List.getElem?_map] at hu
    cases hj : ys[j]? with
    | none => rw [hj] at hu; cases hu
    | some y =>
      rw [hj] at hu
      have hlt : j < ys.length := (List.getElem?_eq_some_iff.1 hj).1
      rw [hcell j hlt, hj]
      exact hu
  · intro u hu
    obtain ⟨y, _, rfl⟩ := List.mem_map.1 hu
    rfl
  · unfold maxLen; omega
  · omega
  · intro v' w' ho' hg hnil
    refine h v' w' ⟨?_, fun e => ?_⟩ ((Below.refl base w).grown hg hbase (fun k hk => (hown.1.lt k hk).1))
    · rw [List.length_append, List.map_append]; exact ho'
    · exact hown.2 (hnil.1 e).1
/-- 'append(s, y)', one number more. -/
theorem wpList_app1 {w : World} {ops : Array Oper} {rest : List Oper} {o : Oper} {a : Act} {Q : Exit → Act → World → Prop} (hgd : o.guard = none) (s x : Operand)
    (ho : o.op = .call { callee := .builtin .append, args := #[s, x], argTypes := #[26, 26] })
    (base : Nat) (v : Value) (xs : List Int) (hs : a.eval s = v) (hown : Own w base v xs)
    (y : Int) (hx : a.eval x = .slice (some ⟨w.heap.size, 0, none⟩) 1 1)
    (hlen : xs.length ≤ 1000000) (hbase : base ≤ w.heap.size)
    (h : ∀ v' w', Own w' base v' (xs ++ [y]) → Below base w w' → wpList Try.prog ops Q rest (a.put o.dst v') w') : wpList Try.prog ops Q (o :: rest) a (w.alloc (.cells #[.int .i64 y] 3)) := by
  refine wpList_app hgd s x ho base v xs hs (hown.alloc _) w.heap.size 0 1 1 [y] hx rfl ?_ (by simp; omega) (by simp; omega) ?_
  · intro i hi
    have : i = 0 := by simpa using hi
    subst this
    rw [World.cell?_alloc_at _ _ _ _ rfl]
    rfl
  · intro v' w' h1 h2
    exact h v' w' h1 (((Below.refl base w).alloc hbase _).trans h2)
theorem Own.one (w : World) (base : Nat) (y : Int) (hb : base ≤ w.heap.size) : Own (w.alloc (.cells #[.int .i64 y] 3)) base (.slice (some ⟨w.heap.size, 0, none⟩) 1 1) [y] := by
  refine ⟨⟨rfl, .inr ⟨w.heap.size, 1, #[.int .i64 y], rfl, hb, heap_alloc_new w _, Nat.le_refl _, by unfold maxLen; omega, rfl, rfl⟩⟩, by simp⟩
theorem Sees.alloc {w : World} {v : Value} {xs : List Int} (h : Sees w v xs) (o : Obj) : Sees (w.alloc o) v xs := h.below ((Below.refl _ _).alloc (Nat.le_refl _) _)
/-- 'append(s, x...)' on a slice of the call's own, x any slice that holds a list. -/
theorem wpList_appS {w : World} {ops : Array Oper} {rest : List Oper} {o : Oper} {a : Act} {Q : Exit → Act → World → Prop} (hgd : o.guard = none) (s x : Operand)
    (ho : o.op = .call { callee := .builtin .append, args := #[s, x], argTypes := #[26, 26] })
    (base : Nat) (v : Value) (xs : List Int) (hs : a.eval s = v) (hown : Own w base v xs)
    (u : Value) (ys : List Int) (hx : a.eval x = u) (hsee : Sees w u ys)
    (hlen : xs.length + ys.length ≤ 10000000) (hbase : base ≤ w.heap.size)
    (h : ∀ v' w', Own w' base v' (xs ++ ys) → Below base w w' → wpList Try.prog ops Q rest (a.put o.dst v') w') : wpList Try.prog ops Q (o :: rest) a w := by
  obtain ⟨b, p, c, rfl, hb, hc, hm, hcell⟩ := hsee
  exact wpList_app hgd s x ho base v xs hs hown b p _ c ys hx rfl hcell hlen hbase h
end Go.Proofs.Ytgpgmnmifhkmbaa
