/-
  Texts put together: AppK.
-/
import Derived.Test.YtpakpgjbgehhjaaProg
import Derived.Test.YtpakpgjbgehhjaaGrE
import Derived.Test.YtpakpgjbgehhjaaGrL
import Derived.Test.YtpakpgjbgehhjaaGrI
import Derived.ArgAppend
/-
  'append(x, y..)' on a slice of the call's own leaves the slice x itself as it was. Conditions: at most some million numbers.
-/
namespace Go.Proofs.Ytpakpgjbgehhjaa
open Go.RowKit
set_option linter.unusedVariables false

theorem Bes.grown {w w' : World} {row : Option Nat} (h : w.grownBy w' row) : Bes row w w' :=
  ⟨h.os, h.tape, h.output, h.size, fun k hk hc => h.block k hk (fun e => hc e.symm)⟩
theorem OwnU.bes {w w' : World} {c : Option Nat} {base g n cap : Nat} {xs : List Int} (h : OwnU w base (.slice (some ⟨g, 0, none⟩) n cap) xs) (hb : Bes c w w') (hc : c ≠ some g) : OwnU w' base (.slice (some ⟨g, 0, none⟩) n cap) xs :=
  h.apart (row := c) ⟨hb.os, hb.tape, hb.output, hb.size, fun k hk hne => hb.block k hk (fun e => hne e.symm)⟩ (by simp only [Value.ownBlock]; exact fun e => hc e.symm)
theorem OwnU.lt {w : World} {base g n cap : Nat} {xs : List Int} (h : OwnU w base (.slice (some ⟨g, 0, none⟩) n cap) xs) : g < w.heap.size := by
  obtain ⟨g', c', e, _, _, h', _⟩ := h.at
  injection e with e
  injection e with e
  injection e with e
  rw [e]; exact h'
theorem run_app_keep {w : World} (ty : TypeId) {base : Nat} {v : Value} {xs : List Int} (hown : OwnU w base v xs) (u : Value) (ys : List Int) (hsee : SeesU w u ys) (hlen : xs.length + ys.length ≤ 10000000) (hbase : base ≤ w.heap.size) :
    ∃ v' w', (Builtin.append_ #[22, 22] ty #[v, u]).run Try.prog w = .ok v' w' ∧ OwnU w' base v' (xs ++ ys) ∧ OwnU w' base v xs ∧ w.grownBy w' v.ownBlock := by
  obtain ⟨b, p, c, rfl, hcells⟩ := sees_cells hsee
  obtain ⟨i, hi, hz, hsz, hby⟩ := info_parts Try.u64Info
  have hml : xs.length + ys.length ≤ maxLen := by unfold maxLen; omega
  obtain ⟨hrow, hne⟩ := hown
  have hrow0 := hrow
  rcases hrow.2 with ⟨h, _⟩ | ⟨g, cap, cur, rfl, hbg, hg, hnc, hcm, hcs, htake⟩
  · exact absurd h hne
  rw [Nat.mul_one] at htake hcs
  by_cases hroom : xs.length + ys.length ≤ cap
  · have hr := run_append_room (P := Try.prog) w 22 ty 23 i Try.underlying22 hi g xs.length cap cur hg ⟨b, p, none⟩ ys.length c (ys.map (Value.int .u64)) (by rw [hsz]; simp) hcells (one_cells ys) hroom (by rw [hsz]; simp; omega)
    rw [hsz, Nat.mul_one, List.length_map] at hr
    refine ⟨_, _, hr, ⟨?_, by simp⟩, ⟨?_, by simp⟩, ⟨rfl, rfl, rfl, by simp, fun k _ hk => setRow_other w g k _ (fun e => hk (by simp [Value.ownBlock, e]))⟩⟩
    · rw [List.length_append, List.map_append]
      refine ⟨by simp, .inr ⟨g, cap, _, rfl, hbg, setRow_heap w g cur _ _ _ hg, hroom, hcm, ?_, ?_⟩⟩
      · simp; omega
      · rw [Nat.mul_one, htake, List.toList_toArray]
        rw [show xs.length + ys.length = (xs.map (Value.int .u64) ++ ys.map (Value.int .u64)).length by simp]
        exact List.take_left
    · refine ⟨by simp, .inr ⟨g, cap, _, rfl, hbg, setRow_heap w g cur _ _ _ hg, by omega, hcm, ?_, ?_⟩⟩
      · simp; omega
      · rw [Nat.mul_one, htake, List.toList_toArray, List.append_assoc]
        rw [show xs.length = (xs.map (Value.int .u64)).length by simp]
        exact List.take_left
  · obtain ⟨v', w', hr, h2, h3⟩ := run_append_arg_grows (P := Try.prog) w 22 ty 23 i (.int .u64 0) 1 8 Try.underlying22 hi hz hsz hby rfl (by decide) ⟨g, 0, none⟩ xs.length cap (xs.map (Value.int .u64)) (by simp) (fun j t ht => by
        rw [Addr.add_lit, Nat.zero_add]
        have := cell_of_row w g j cur 23 (0, 0) hg
        rw [this]
        rw [← htake] at ht
        rw [List.getElem?_take] at ht
        split at ht
        · simpa using ht
        · cases ht) ⟨b, p, none⟩ ys.length c (ys.map (Value.int .u64)) (by simp) hcells (by omega) hml (by omega)
    refine ⟨v', w', hr, ?_, ?_, ?_⟩
    · refine OwnU.base (b := w.heap.size) ⟨by rw [List.length_append, List.map_append]; exact h2, fun e => ?_⟩ hbase
      rcases h2.2 with ⟨_, h0⟩ | ⟨g', _, _, e', _⟩
      · omega
      · rw [e'] at e; cases e
    · exact OwnU.apart ⟨hrow0, hne⟩ h3 (by simp [Value.ownBlock])
    · exact ⟨h3.os, h3.tape, h3.output, h3.size, fun k hk _ => h3.block k hk (by simp)⟩
/-- As one step of a region that draws. -/
theorem stepU_keep {w : World} {ops : Array Oper} {o : Oper} {a : Act} {K : Act → World → Prop} {Q : Exit → Act → World → Prop} {E : Prop} (hgd : o.guard = none) (s x : Operand)
    (ho : o.op = .call { callee := .builtin .append, args := #[s, x], argTypes := #[22, 22] })
    (base : Nat) (v : Value) (xs : List Int) (hs : a.eval s = v) (hown : OwnU w base v xs)
    (u : Value) (ys : List Int) (hx : a.eval x = u) (hsee : SeesU w u ys)
    (hlen : xs.length + ys.length ≤ 10000000) (hbase : base ≤ w.heap.size)
    (h : ∀ v' w', OwnU w' base v' (xs ++ ys) → OwnU w' base v xs → w.grownBy w' v.ownBlock → K (a.put o.dst v') w') :
    if Region.wanted o (yielded ops a.tmps) = true then Oper.wp Try.prog o a w K Q else E := by
  have hw : Region.wanted o (yielded ops a.tmps) = true := by simp [Region.wanted, hgd]
  rw [if_pos hw]
  obtain ⟨v', w', hr, h2, h3, h4⟩ := run_app_keep o.type hown u ys hsee hlen hbase
  unfold Oper.wp execOp
  simp only [ho, resolve, invoke, builtin, Sem.run_bind, Sem.run_pure, Result.andThen_ok, List.map_toArray, List.map_cons, List.map_nil, hs, hx, hr]
  exact h v' w' h2 h3 h4
end Go.Proofs.Ytpakpgjbgehhjaa
