/-
  Texts put together: MatL MatM MatN MatO MatP MatQ.
-/
import Derived.Test.YtpakpgjbgehhjaaGreatProg
import Derived.Test.YtpakpgjbgehhjaaGreatGrK
import Derived.Deep.RegionHeld3
/-
  What mat's Same and Turn return. Conditions: matrices that are right; for Same: the same numbers stand in both.
-/
namespace Go.Proofs.YtpakpgjbgehhjaaGreat
open Go.RowKit
set_option linter.unusedVariables false

set_option maxHeartbeats 1000000 in
theorem sEqual (a b : Option Addr) (n c d : Nat) (X Y : Nat → Int) (w : World) (hx : URow w a n c X) (hy : URow w b n d Y) (h : ∀ i, i < n → X i = Y i) :
    Calls Tryz.prog 55 #[.slice a n c, .slice b n d] w fun e w' => e = .returned (.bool true) ∧ Below w.heap.size w w' := by
  have HX : Hid (URow w a n c X) := hx
  have HY : Hid (URow w b n d Y) := hy
  have HE : Hid (∀ i, i < n → X i = Y i) := h
  obtain ⟨l1, l2⟩ := hx.lenB
  obtain ⟨l3, l4⟩ := hy.lenB
  clear hx hy h
  go_enter Tryz.func55, Tryz.ntmps55
  go_wp2
  go_loopw [13] (fun i wr => ∃ k : Nat, i = .int .i64 (k : Int) ∧ k ≤ n ∧ Hid (Below w.heap.size w wr)) (fun i _ => n - (intOf i).toNat)
  case atStart => exact ⟨0, rfl, Nat.zero_le _, Below.refl _ _⟩
  case round =>
    obtain ⟨k, rfl, hk, B⟩ := hrel
    by_cases hlt : (k : Int) < (n : Int)
    · obtain ⟨_, _, zx, fx⟩ := HX.out.below B.out
      obtain ⟨_, _, zy, fy⟩ := HY.out.below B.out
      obtain ⟨b1, o1, rfl, t1, e1⟩ := fx (by omega)
      obtain ⟨b2, o2, rfl, t2, e2⟩ := fy (by omega)
      have q1 := e1 k (by omega)
      have q2 := e2 k (by omega)
      rw [← HE.out k (by omega)] at q2
      obtain ⟨x, hx⟩ : ∃ x, X k = x := ⟨_, rfl⟩
      rw [hx] at q1 q2
      clear zx fx zy fy e1 e2 hx
      go_wp2
      go_quiet (fail)
      go_wp2
      go_roundw
      case rel => exact ⟨k + 1, by go_num, by omega, below_drewN B.out _⟩
      case measure => simp [intOf]; omega
    · obtain rfl : k = n := by omega
      go_wp2
      go_ret
      exact ⟨ret_eq rfl, B.out⟩
set_option maxHeartbeats 2000000 in
theorem mSame (R C S1 S2 : Nat) (a b : Option Addr) (l1 c1 l2 c2 : Nat) (Z1 Z2 : Nat → Int) (w : World) (h1 : Rgt (R : Int) (C : Int) (S1 : Int) l1) (h2 : Rgt (R : Int) (C : Int) (S2 : Int) l2) (hx : URow w a l1 c1 Z1) (hy : URow w b l2 c2 Z2) (he : ∀ i k, i < R → k < C → Z1 (i * S1 + k) = Z2 (i * S2 + k)) :
    Calls Tryz.prog 23 #[.agg #[.int .i64 (R : Int), .int .i64 (C : Int), .int .i64 (S1 : Int), .slice a l1 c1], .agg #[.int .i64 (R : Int), .int .i64 (C : Int), .int .i64 (S2 : Int), .slice b l2 c2]] w fun e w' => e = .returned (.bool true) ∧ Below w.heap.size w w' := by
  have HX : Hid (URow w a l1 c1 Z1) := hx
  have HY : Hid (URow w b l2 c2 Z2) := hy
  have H1 : Hid (Rgt _ _ _ _) := h1
  have H2 : Hid (Rgt _ _ _ _) := h2
  have HE : Hid (∀ i k, i < R → k < C → Z1 (i * S1 + k) = Z2 (i * S2 + k)) := he
  obtain ⟨m1, m2⟩ := hx.lenB
  obtain ⟨m3, m4⟩ := hy.lenB
  have r1 : (R : Int) ≤ 4096 := h1.2.1
  have s1 : (S1 : Int) ≤ 1099511627776 := h1.2.2.2.2.2.1
  have s2 : (S2 : Int) ≤ 1099511627776 := h2.2.2.2.2.2.1
  clear hx hy h1 h2 he
  go_enter Tryz.func23, Tryz.ntmps23
  go_wp2_with fail
  have bW : Below w.heap.size w ((w.alloc (.cells #[.int .i64 (R : Int), .int .i64 (C : Int), .int .i64 (S1 : Int), .slice a l1 c1] 25)).alloc (.cells #[.int .i64 (R : Int), .int .i64 (C : Int), .int .i64 (S2 : Int), .slice b l2 c2] 25)) := ((Below.refl _ _).alloc (Nat.le_refl _) _).alloc (by simp) _
  have mA : MBox ((w.alloc (.cells #[.int .i64 (R : Int), .int .i64 (C : Int), .int .i64 (S1 : Int), .slice a l1 c1] 25)).alloc (.cells #[.int .i64 (R : Int), .int .i64 (C : Int), .int .i64 (S2 : Int), .slice b l2 c2] 25)) w.heap.size (R : Int) (C : Int) (S1 : Int) (.slice a l1 c1) := (MBox.made w _ _ _ _).below ((Below.refl _ _).alloc (Nat.le_refl _) _)
  have mB : MBox ((w.alloc (.cells #[.int .i64 (R : Int), .int .i64 (C : Int), .int .i64 (S1 : Int), .slice a l1 c1] 25)).alloc (.cells #[.int .i64 (R : Int), .int .i64 (C : Int), .int .i64 (S2 : Int), .slice b l2 c2] 25)) (w.heap.size + 1) (R : Int) (C : Int) (S2 : Int) (.slice b l2 c2) := by
    have := MBox.made (w.alloc (.cells #[.int .i64 (R : Int), .int .i64 (C : Int), .int .i64 (S1 : Int), .slice a l1 c1] 25)) (R : Int) (C : Int) (S2 : Int) (.slice b l2 c2)
    simp only [World.size_alloc] at this
    exact this
  generalize ((w.alloc (.cells #[.int .i64 (R : Int), .int .i64 (C : Int), .int .i64 (S1 : Int), .slice a l1 c1] 25)).alloc (.cells #[.int .i64 (R : Int), .int .i64 (C : Int), .int .i64 (S2 : Int), .slice b l2 c2] 25)) = W at bW mA mB ⊢
  refine (mCheck _ _ _ _ _ _ _ m1 (by omega)).mono ?_
  rintro e w1 ⟨⟨rfl, _⟩ | ⟨_, hN⟩, hb1⟩
  · have A1 : Hid (MBox _ _ _ _ _ _) := mA.below hb1
    have D1 : Hid (MBox _ _ _ _ _ _) := mB.below hb1
    have B1 : Hid (Below w.heap.size w w1) := bstep bW hb1
    obtain ⟨p0, p1, p2, p3, p4⟩ := D1.out
    clear hb1 bW mA mB
    go_wp2_with fail
    refine (mCheck _ _ _ _ _ _ _ m3 (by omega)).mono ?_
    rintro e w2 ⟨⟨rfl, _⟩ | ⟨_, hN⟩, hb2⟩
    · have A2 : Hid (MBox _ _ _ _ _ _) := A1.out.below hb2
      have D2 : Hid (MBox _ _ _ _ _ _) := D1.out.below hb2
      have B2 : Hid (Below w.heap.size w w2) := bstep B1.out hb2
      obtain ⟨q0, q1, q2, q3, q4⟩ := A2.out
      obtain ⟨u0, u1, u2, u3, u4⟩ := D2.out
      clear hb2 p0 p1 p2 p3 p4 A1 D1 B1
      go_wp2
      go_loopw [30] (fun i wr => ∃ n : Nat, i = .int .i64 (n : Int) ∧ n ≤ R ∧ Hid (Below w2.heap.size w2 wr)) (fun i _ => R - (intOf i).toNat)
      case atStart => exact ⟨0, rfl, Nat.zero_le _, Below.refl _ _⟩
      case round =>
        obtain ⟨n, rfl, hn, B⟩ := hrel
        by_cases hlt : (n : Int) < (R : Int)
        · obtain ⟨p0, p1, p2, p3, p4⟩ := A2.out.below B.out
          obtain ⟨v0, v1, v2, v3, v4⟩ := D2.out.below B.out
          have UA : Hid (URow wr a l1 c1 Z1) := HX.out.below (bstep B2.out B.out)
          have UB : Hid (URow wr b l2 c2 Z2) := HY.out.below (bstep B2.out B.out)
          have hrw : w.heap.size < wr.heap.size := p4
          go_wp2
          go_region_held3 (fun w' => (w'.cell? ⟨w.heap.size, 0, none⟩ = some (.int .i64 (R : Int)) ∧ w'.cell? ⟨w.heap.size, 1, none⟩ = some (.int .i64 (C : Int)) ∧ w'.cell? ⟨w.heap.size, 2, none⟩ = some (.int .i64 (S1 : Int)) ∧ w'.cell? ⟨w.heap.size, 3, none⟩ = some (.slice a l1 c1)) ∧ (w'.cell? ⟨w.heap.size + 1, 0, none⟩ = some (.int .i64 (R : Int)) ∧ w'.cell? ⟨w.heap.size + 1, 1, none⟩ = some (.int .i64 (C : Int)) ∧ w'.cell? ⟨w.heap.size + 1, 2, none⟩ = some (.int .i64 (S2 : Int)) ∧ w'.cell? ⟨w.heap.size + 1, 3, none⟩ = some (.slice b l2 c2))) (simp [go_sem, *]) (first | (go_at_call_of 35 a; refine (mRow _ _ _ _ _ _ Z1 _ _ H1.out (UA.out.below ((Below.refl _ _).drew)) (by omega) hlt).mono ?_; rintro e w3 ⟨⟨a3, c3, rfl, hu3, _⟩, hb3⟩; rw [nat_mul_int, Int.toNat_natCast] at hu3; rw [Int.toNat_natCast]; have hB3 : Below wr.heap.size wr w3 := ((Below.refl _ _).drew).trans hb3; obtain ⟨f0, f1, f2, f3, f4⟩ := (A2.out.below B.out).below hB3; obtain ⟨g0, g1, g2, g3, g4⟩ := (D2.out.below B.out).below hB3; have U3 : Hid (URow w3 a3 C c3 (fun k => Z1 (n * S1 + k))) := hu3; have H3 : Hid (Below wr.heap.size wr w3) := hB3; clear hu3 hb3 hB3) | (go_at_call_of 35 b; refine (mRow _ _ _ _ _ _ Z2 _ _ H2.out (by first | exact (UB.out.below H3.out).below ((Below.refl _ _).drew) | exact UB.out.below H3.out) (by omega) hlt).mono ?_; rintro e w4 ⟨⟨a4, c4, rfl, hu4, _⟩, hb4⟩; rw [nat_mul_int, Int.toNat_natCast] at hu4; rw [Int.toNat_natCast]; have hB4 : Below w3.heap.size w3 w4 := (by first | exact ((Below.refl _ _).drew).trans hb4 | exact hb4); have H4 : Hid (Below wr.heap.size wr w4) := bstep H3.out hB4; obtain ⟨j0, j1, j2, j3, j4⟩ := (A2.out.below B.out).below H4.out; obtain ⟨k0, k1, k2, k3, k4⟩ := (D2.out.below B.out).below H4.out; have U4 : Hid (URow w4 a4 C c4 (fun k => Z2 (n * S2 + k))) := hu4; have U34 : Hid (URow w4 a3 C c3 (fun k => Z1 (n * S1 + k))) := U3.out.below hB4; clear hu4 hb4 hB4) | (go_at_call 55; refine (sEqual _ _ _ _ _ _ _ _ (by first | exact U34.out.below ((Below.refl _ _).drew) | exact U34.out) (by first | exact U4.out.below ((Below.refl _ _).drew) | exact U4.out) (fun k hk => HE.out n k (by omega) hk)).mono ?_; rintro e w5 ⟨rfl, hb5⟩; have hB5 : Below w4.heap.size w4 w5 := (by first | exact ((Below.refl _ _).drew).trans hb5 | exact hb5); have H5 : Hid (Below wr.heap.size wr w5) := bstep H4.out hB5; obtain ⟨m0, m1', m2', m3', m4'⟩ := (A2.out.below B.out).below H5.out; obtain ⟨n0, n1, n2, n3, n4⟩ := (D2.out.below B.out).below H5.out; clear hb5 hB5))
          go_wp2
          go_roundw
          case rel => exact ⟨n + 1, by go_num, by omega, bstep B.out H5.out⟩
          case measure => simp [intOf]; omega
        · obtain rfl : n = R := by omega
          go_wp2
          go_ret
          exact ⟨ret_eq rfl, bstep B2.out B.out⟩
    · exact absurd H2.out hN
  · exact absurd H1.out hN
end Go.Proofs.YtpakpgjbgehhjaaGreat

/-
  What mat's Turn returns. Conditions: a matrix that is right, of at most a million numbers.
-/
namespace Go.Proofs.YtpakpgjbgehhjaaGreat
open Go.RowKit
set_option linter.unusedVariables false

/-- Of the first n rows, and of m numbers of row n, each stands in its column's row. -/
def TurnI (xs : List Int) (Z : Nat → Int) (R C S n m : Nat) : Prop := xs.length = C * R ∧ InW xs ∧ ∀ i k, k < C → i < R → (i < n ∨ (i = n ∧ k < m)) → xs[k * R + i]?.getD 0 = Z (i * S + k)
theorem turn_ne (R i k n m : Nat) (hi : i < R) (hn : n < R) (h : ¬ (i = n ∧ k = m)) : k * R + i ≠ m * R + n := by
  intro e
  have h1 : (k * R + i) / R = k := by rw [Nat.mul_comm, Nat.mul_add_div (by omega), Nat.div_eq_of_lt hi, Nat.add_zero]
  have h2 : (m * R + n) / R = m := by rw [Nat.mul_comm, Nat.mul_add_div (by omega), Nat.div_eq_of_lt hn, Nat.add_zero]
  rw [e, h2] at h1
  subst h1
  omega
theorem TurnI.set {xs : List Int} {Z : Nat → Int} {R C S n m : Nat} (h : TurnI xs Z R C S n m) (hn : n < R) (hm : m < C) (x : Int) (hx : x = Z (n * S + m)) (x0 : 0 ≤ x) (x1 : x < 18446744073709551616) : TurnI (xs.set (m * R + n) x) Z R C S n (m + 1) := by
  obtain ⟨h1, h2, h3⟩ := h
  refine ⟨by rw [List.length_set]; exact h1, h2.set _ _ x0 x1, fun i k hk hi hik => ?_⟩
  rw [List.getElem?_set]
  by_cases e : i = n ∧ k = m
  · rw [e.1, e.2, if_pos rfl, if_pos (by rw [h1]; exact row_lt R m n C hm hn)]
    exact hx
  · rw [if_neg (Ne.symm (turn_ne R i k n m hi hn e))]
    exact h3 i k hk hi (by omega)
theorem TurnI.next {xs : List Int} {Z : Nat → Int} {R C S n : Nat} (h : TurnI xs Z R C S n C) : TurnI xs Z R C S (n + 1) 0 := by
  obtain ⟨h1, h2, h3⟩ := h
  exact ⟨h1, h2, fun i k hk hi hik => h3 i k hk hi (by omega)⟩
/-- The world while Turn or Cut runs: m in b0, what is made in b5 (R' rows, C' columns), the answer's place b4, the numbers in gm. -/
structure TurnW (w wr : World) (R C S R' C' : Nat) (s0 : Value) (b0 b4 b5 gm : Nat) (xs : List Int) : Prop where
  m : MBox wr b0 (R : Int) (C : Int) (S : Int) s0
  made : MBox wr b5 (R' : Int) (C' : Int) (C' : Int) (.slice (some ⟨gm, 0, none⟩) (R' * C') (R' * C'))
  ans : WBox wr b4 0 0 0 (.slice none 0 0)
  row : RowU wr gm xs
  bel : Below w.heap.size w wr
theorem TurnW.below {w wr wr' : World} {R C S R' C' : Nat} {s0 : Value} {b0 b4 b5 gm : Nat} {xs : List Int} (h : TurnW w wr R C S R' C' s0 b0 b4 b5 gm xs) (hb : Below wr.heap.size wr wr') : TurnW w wr' R C S R' C' s0 b0 b4 b5 gm xs :=
  ⟨h.m.below hb, h.made.below hb, h.ans.below hb, h.row.below hb, bstep h.bel hb⟩
theorem TurnW.bes {w wr wr' : World} {R C S R' C' : Nat} {s0 : Value} {b0 b4 b5 gm : Nat} {xs ys : List Int} (h : TurnW w wr R C S R' C' s0 b0 b4 b5 gm xs) (hb : Bes (some gm) wr wr') (hr : RowU wr' gm ys) (d0 : gm ≠ b0) (d4 : gm ≠ b4) (d5 : gm ≠ b5) (dw : w.heap.size ≤ gm) : TurnW w wr' R C S R' C' s0 b0 b4 b5 gm ys :=
  ⟨h.m.bes hb (ne_some d0), h.made.bes hb (ne_some d5), h.ans.bes hb (ne_some d4), hr, h.bel.trans (hb.below _ h.bel.size (fun k e => by injection e with e; omega))⟩
end Go.Proofs.YtpakpgjbgehhjaaGreat

/-
  'copy' of numbers within a region, of whatever length; a row's slice told exactly; which places are within. No conditions.
-/
namespace Go.Proofs.YtpakpgjbgehhjaaGreat
open Go.RowKit
set_option linter.unusedVariables false

theorem splice_map (xs ys : List Int) (off : Nat) : splice (xs.map (Value.int .u64)) off (ys.map (Value.int .u64)) = (splice xs off ys).map (Value.int .u64) := by
  unfold splice
  rw [List.map_append, List.map_append, List.map_take, List.map_drop, List.length_map]
theorem bes_setRow (w : World) (g : Nat) (cs : Array Value) : Bes (some g) w (w.setRow g cs) :=
  ⟨rfl, rfl, rfl, by simp [World.setRow], fun k hk hc => setRow_other w g k cs (fun e => hc (by rw [e]))⟩
theorem stepU_copy {ops : Array Oper} {o : Oper} {a : Act} {w : World} {K : Act → World → Prop} {Q : Exit → Act → World → Prop} {E : Prop} (hgd : o.guard = none) (d s : Operand)
    (ho : o.op = .call { callee := .builtin .copy, args := #[d, s], argTypes := #[22, 22] })
    (dp sp : Option Addr) (dLen dCap sLen sCap : Nat) (hd : a.eval d = .slice dp dLen dCap) (hs : a.eval s = .slice sp sLen sCap)
    (g off : Nat) (xs ys : List Int) (hg : RowU w g xs) (hn : ys.length = Nat.min sLen dLen)
    (hpos : 0 < ys.length → dp = some ⟨g, off, none⟩ ∧ ∃ b p, sp = some ⟨b, p, none⟩ ∧ ∀ j, j < ys.length → w.cell? ⟨b, p + j, none⟩ = some (.int .u64 (ys[j]?.getD 0)))
    (hfit : off + ys.length ≤ xs.length)
    (h : ∀ w', RowU w' g (splice xs off ys) → Bes (some g) w w' → K (a.put o.dst (goInt ys.length)) w') :
    if Region.wanted o (yielded ops a.tmps) = true then Oper.wp Tryz.prog o a w K Q else E := by
  have hw : Region.wanted o (yielded ops a.tmps) = true := by simp [Region.wanted, hgd]
  rw [if_pos hw]
  by_cases h0 : ys.length = 0
  · obtain rfl : ys = [] := List.eq_nil_of_length_eq_zero h0
    have hrun := run_copy_none (P := Tryz.prog) w 22 22 o.type 36 dp sp dLen dCap sLen sCap Tryz.underlying22 u64_size (by simpa using hn.symm)
    unfold Oper.wp
    simp [execOp, ho, resolve, invoke, builtin, hd, hs, hrun, Result.andThen]
    refine h w ?_ (Bes.refl _ _)
    have e : splice xs off [] = xs := by simp [splice]
    rw [e]
    exact hg
  · obtain ⟨rfl, b, p, rfl, hsrc⟩ := hpos (by omega)
    have hrun := run_copy_row (P := Tryz.prog) w 22 22 o.type 36 g off dLen dCap ⟨b, p, none⟩ sLen sCap (xs.map (Value.int .u64)).toArray 36 (ys.map (Value.int .u64)) Tryz.underlying22 u64_size hg (by rw [List.length_map]; exact hn) (by
      intro j v hv
      rw [List.getElem?_map] at hv
      cases hj : ys[j]? with
      | none => rw [hj] at hv; cases hv
      | some y =>
        rw [hj] at hv
        have hlt : j < ys.length := (List.getElem?_eq_some_iff.1 hj).1
        have := hsrc j hlt
        rw [hj] at this
        rw [Addr.add_lit]
        exact this.trans hv) (by simpa using hfit) (one_cells ys)
    unfold Oper.wp
    simp [execOp, ho, resolve, invoke, builtin, hd, hs, hrun, Result.andThen]
    refine h _ ?_ (bes_setRow _ _ _)
    have := setRow_heap w g _ (splice (xs.map (Value.int .u64)) off (ys.map (Value.int .u64))).toArray 36 (0, 0) hg
    rw [splice_map] at this
    unfold RowU
    rw [← this]
    simp [splice]
set_option maxHeartbeats 1000000 in
theorem mRowE (R C S : Int) (b o len cap : Nat) (i : Int) (w : World) (h : Rgt R C S len) (hlc : len ≤ cap) (hcm : cap ≤ 9223372036854775807) (i0 : 0 ≤ i) (i1 : i < R) (c0 : 0 < C) :
    Calls Tryz.prog 35 #[.agg #[.int .i64 R, .int .i64 C, .int .i64 S, .slice (some ⟨b, o, none⟩) len cap], .int .i64 i] w fun e w' => e = .returned (.slice (some ⟨b, o + (i * S).toNat, none⟩) C.toNat (cap - (i * S).toNat)) ∧ Below w.heap.size w w' := by
  have hc0 : (C == 0) = false := by rw [beq_eq_false_iff_ne]; omega
  obtain ⟨m0, m1, m2⟩ := h.at i (C - 1) i0 i1 (by omega) (by omega)
  have hc : C ≤ 4096 := h.2.2.2.1
  obtain ⟨P, hP⟩ : ∃ P : Nat, i * S = (P : Int) := ⟨(i * S).toNat, by omega⟩
  obtain ⟨cn, hcn⟩ : ∃ n : Nat, C = (n : Int) := ⟨C.toNat, by omega⟩
  subst hcn
  have hw : IntKind.i64.wrap (i * S) = (P : Int) := by rw [IntKind.wrap_i64, hP]; omega
  rw [hP] at m0 m1 m2 ⊢
  rw [Int.toNat_natCast, Int.toNat_natCast]
  obtain ⟨Q, hQ⟩ : ∃ Q, P + cn = Q := ⟨_, rfl⟩
  have hw2 : IntKind.i64.wrap ((P : Int) + (cn : Int)) = (Q : Int) := by rw [IntKind.wrap_i64]; omega
  have q1 : (P : Int) ≤ (Q : Int) := by omega
  have q2 : (Q : Int) ≤ (len : Int) := by omega
  have q3 : (Q : Int) ≤ (cap : Int) := by omega
  have HQ : Hid (P + cn = Q) := hQ
  clear h hP hQ
  go_enter Tryz.func35, Tryz.ntmps35
  go_wp2
  go_ret
  have e : Q - P = cn := by have := HQ.out; omega
  exact ⟨ret_eq (by simp [e]), (Below.refl _ _).alloc (Nat.le_refl _) _⟩
theorem mRowZ (R S : Int) (s : Value) (i : Int) (w : World) :
    Calls Tryz.prog 35 #[.agg #[.int .i64 R, .int .i64 0, .int .i64 S, s], .int .i64 i] w fun e w' => e = .returned (.slice none 0 0) ∧ Below w.heap.size w w' := by
  have B0 : Hid (∀ o, Below w.heap.size w (w.alloc o)) := fun o => (Below.refl _ _).alloc (Nat.le_refl _) _
  go_enter Tryz.func35, Tryz.ntmps35
  go_wp2
  go_ret
  exact ⟨ret_eq rfl, B0.out _⟩
theorem mWithin (f m a : Int) (w : World) (a0 : 0 ≤ a) (a1 : a ≤ 4096) (m1 : m ≤ 9223372036854775807) : Calls Tryz.prog 79 #[.int .i64 f, .int .i64 m, .int .i64 a] w fun e w' => e = .returned (.bool (decide (0 ≤ f ∧ 0 ≤ m ∧ f ≤ a - m))) ∧ w' = w := by
  by_cases h1 : 0 ≤ f
  · by_cases h2 : 0 ≤ m
    · by_cases h3 : f ≤ a - m
      · rw [decide_eq_true (⟨h1, h2, h3⟩ : 0 ≤ f ∧ 0 ≤ m ∧ f ≤ a - m)]
        go_enter Tryz.func79, Tryz.ntmps79
        go_wp2
        go_ret
        exact ⟨ret_eq rfl, rfl⟩
      · rw [decide_eq_false (fun g => h3 g.2.2 : ¬ (0 ≤ f ∧ 0 ≤ m ∧ f ≤ a - m))]
        go_enter Tryz.func79, Tryz.ntmps79
        go_wp2
        go_ret
        exact ⟨ret_eq rfl, rfl⟩
    · rw [decide_eq_false (fun g => h2 g.2.1 : ¬ (0 ≤ f ∧ 0 ≤ m ∧ f ≤ a - m))]
      go_enter Tryz.func79, Tryz.ntmps79
      go_wp2
      go_ret
      exact ⟨ret_eq rfl, rfl⟩
  · rw [decide_eq_false (fun g => h1 g.1 : ¬ (0 ≤ f ∧ 0 ≤ m ∧ f ≤ a - m))]
    go_enter Tryz.func79, Tryz.ntmps79
    go_wp2
    go_ret
    exact ⟨ret_eq rfl, rfl⟩
/-- The rows from i on, of them the columns from k on: the first n of them stand in xs. -/
def CutI (xs : List Int) (Z : Nat → Int) (S i k r c n : Nat) : Prop := xs.length = r * c ∧ InW xs ∧ ∀ p q, p < n → q < c → xs[p * c + q]?.getD 0 = Z ((i + p) * S + (k + q))
theorem get_splice (xs ys : List Int) (off j : Nat) (h : off + ys.length ≤ xs.length) : (splice xs off ys)[j]?.getD 0 = if off ≤ j ∧ j < off + ys.length then ys[j - off]?.getD 0 else xs[j]?.getD 0 := by
  unfold splice
  by_cases h1 : j < off
  · rw [if_neg (by omega), List.getElem?_append_left (by rw [List.length_take]; omega), List.getElem?_take, if_pos h1]
  · rw [List.getElem?_append_right (by rw [List.length_take]; omega), List.length_take, Nat.min_eq_left (by omega)]
    by_cases h2 : j < off + ys.length
    · rw [if_pos ⟨by omega, h2⟩, List.getElem?_append_left (by omega)]
    · rw [if_neg (by omega), List.getElem?_append_right (by omega), List.getElem?_drop, show off + ys.length + (j - off - ys.length) = j by omega]
theorem InW.splice {xs ys : List Int} (hx : InW xs) (hy : InW ys) (off : Nat) : InW (splice xs off ys) := by
  intro x h
  unfold Go.splice at h
  rcases List.mem_append.1 h with h | h
  · exact hx x (List.mem_of_mem_take h)
  · rcases List.mem_append.1 h with h | h
    · exact hy x h
    · exact hx x (List.mem_of_mem_drop h)
/-- One row's numbers. -/
def rowN (Z : Nat → Int) (at_ c : Nat) : List Int := (List.range c).map (fun q => Z (at_ + q))
theorem rowN_len (Z : Nat → Int) (a c : Nat) : (rowN Z a c).length = c := by unfold rowN; simp
theorem rowN_at (Z : Nat → Int) (a c q : Nat) (h : q < c) : (rowN Z a c)[q]?.getD 0 = Z (a + q) := by unfold rowN; simp [h]
theorem CutI.step {xs : List Int} {Z : Nat → Int} {S i k r c n : Nat} (h : CutI xs Z S i k r c n) (hn : n < r) (hZ : ∀ j, 0 ≤ Z j ∧ Z j < 18446744073709551616) : CutI (splice xs (n * c) (rowN Z ((i + n) * S + k) c)) Z S i k r c (n + 1) := by
  obtain ⟨h1, h2, h3⟩ := h
  have hfit : n * c + (rowN Z ((i + n) * S + k) c).length ≤ xs.length := by
    rw [rowN_len, h1, ← Nat.succ_mul]
    exact Nat.mul_le_mul_right _ hn
  refine ⟨by rw [length_splice _ _ _ hfit]; exact h1, h2.splice (fun x hx => ?_) _, fun p q hp hq => ?_⟩
  · unfold rowN at hx
    obtain ⟨j, _, rfl⟩ := List.mem_map.1 hx
    exact hZ _
  · rw [get_splice _ _ _ _ hfit, rowN_len]
    by_cases e : p = n
    · subst e
      rw [if_pos (by omega), show p * c + q - p * c = q by omega, rowN_at _ _ _ _ hq, Nat.add_assoc]
    · have hlt : p < n := by omega
      have : (p + 1) * c ≤ n * c := Nat.mul_le_mul_right _ hlt
      rw [Nat.succ_mul] at this
      rw [if_neg (by omega)]
      exact h3 p q hlt hq
end Go.Proofs.YtpakpgjbgehhjaaGreat

/-
  What mat's Cut and Clone return. Conditions: a matrix that is right, of at most a million numbers.
-/
namespace Go.Proofs.YtpakpgjbgehhjaaGreat
open Go.RowKit
set_option linter.unusedVariables false

theorem mRowZ' (R C S : Int) (s : Value) (i : Int) (w : World) (hC : C = 0) :
    Calls Tryz.prog 35 #[.agg #[.int .i64 R, .int .i64 C, .int .i64 S, s], .int .i64 i] w fun e w' => e = .returned (.slice none 0 0) ∧ Below w.heap.size w w' := by
  subst hC
  exact mRowZ R S s i w
theorem nil_cut (k : Nat) (hk : k = 0) (W : World) : (Instr.sliceAt 22 (.slice none 0 0) (some (.int .i64 (k : Int))) none none).run Tryz.prog W = .ok (.slice none 0 0) W := by
  subst hk
  kernel_rfl
set_option maxHeartbeats 4000000 in
set_option maxRecDepth 100000 in
theorem mCut (R C S : Nat) (a : Option Addr) (len cap : Nat) (Z : Nat → Int) (i k r c : Nat) (w : World) (h : Rgt (R : Int) (C : Int) (S : Int) len) (hx : URow w a len cap Z) (hi : i + r ≤ R) (hk : k + c ≤ C) (hRC : r * c ≤ 1000000) :
    Calls Tryz.prog 48 #[.agg #[.int .i64 (R : Int), .int .i64 (C : Int), .int .i64 (S : Int), .slice a len cap], .int .i64 (i : Int), .int .i64 (k : Int), .int .i64 (r : Int), .int .i64 (c : Int)] w fun e w' => ∃ g xs, e = .returned (.tuple #[.agg #[.int .i64 (r : Int), .int .i64 (c : Int), .int .i64 (c : Int), .slice (some ⟨g, 0, none⟩) (r * c) (r * c)], .int .i64 0]) ∧ w.heap.size ≤ g ∧ RowU w' g xs ∧ CutI xs Z S i k r c r ∧ Below w.heap.size w w' := by
  have HX : Hid (URow w a len cap Z) := hx
  have HH : Hid (Rgt (R : Int) (C : Int) (S : Int) len) := h
  have ZB : Hid (∀ j, 0 ≤ Z j ∧ Z j < 18446744073709551616) := hx.2.2.1
  obtain ⟨lb, cb⟩ := hx.lenB
  have hlc := hx.1
  have r1 : (R : Int) ≤ 4096 := h.2.1
  have c1 : (C : Int) ≤ 4096 := h.2.2.2.1
  have s1 : (S : Int) ≤ 1099511627776 := h.2.2.2.2.2.1
  have F1 : Hid (decide (0 ≤ (i : Int) ∧ 0 ≤ (r : Int) ∧ (i : Int) ≤ (R : Int) - (r : Int)) = true) := decide_eq_true ⟨by omega, by omega, by omega⟩
  have F2 : Hid (decide (0 ≤ (k : Int) ∧ 0 ≤ (c : Int) ∧ (k : Int) ≤ (C : Int) - (c : Int)) = true) := decide_eq_true ⟨by omega, by omega, by omega⟩
  clear hx h
  go_enter Tryz.func48, Tryz.ntmps48
  go_wp2_with fail
  obtain ⟨o1, ho1⟩ : ∃ o, o = Obj.cells #[.int .i64 (R : Int), .int .i64 (C : Int), .int .i64 (S : Int), .slice a len cap] 25 := ⟨_, rfl⟩
  have mW : MBox ((w.alloc o1).alloc (.cells #[.int .i64 0, .int .i64 0, .int .i64 0, .slice none 0 0] 25)) w.heap.size (R : Int) (C : Int) (S : Int) (.slice a len cap) := by
    rw [ho1]
    exact (MBox.made w _ _ _ _).below ((Below.refl _ _).alloc (Nat.le_refl _) _)
  have bW : Below w.heap.size w ((w.alloc o1).alloc (.cells #[.int .i64 0, .int .i64 0, .int .i64 0, .slice none 0 0] 25)) := ((Below.refl _ _).alloc (Nat.le_refl _) _).alloc (by simp) _
  have wW : WBox ((w.alloc o1).alloc (.cells #[.int .i64 0, .int .i64 0, .int .i64 0, .slice none 0 0] 25)) (w.heap.size + 1) 0 0 0 (.slice none 0 0) := by
    have := WBox.made (w.alloc o1) 0 0 0 (.slice none 0 0)
    simp only [World.size_alloc] at this
    exact this
  rw [← ho1]
  clear ho1
  generalize ((w.alloc o1).alloc (.cells #[.int .i64 0, .int .i64 0, .int .i64 0, .slice none 0 0] 25)) = W at mW bW wW ⊢
  refine (mCheck _ _ _ _ _ _ _ lb (by omega)).mono ?_
  rintro e w1 ⟨⟨rfl, _⟩ | ⟨_, hN⟩, hb1⟩
  · have M1 : Hid (MBox _ _ _ _ _ _) := mW.below hb1
    have A1 : Hid (WBox _ _ _ _ _ _) := wW.below hb1
    have B1 : Hid (Below w.heap.size w w1) := bstep bW hb1
    obtain ⟨q0, q1, q2, q3, q4⟩ := M1.out
    have hz1 := A1.out.1.2.2.2.2
    clear hb1 bW mW wW
    go_wp2_with (first | (go_at_call 79; refine (mWithin _ _ _ _ (by omega) (by omega) (by omega)).mono ?_; rintro e w' ⟨rfl, hw⟩; first | rw [F1.out] | rw [F2.out]; have hw2 := hw.symm; clear hw; subst hw2) | fail)
    refine (mNew r c _ (by omega) (by omega) hRC).mono ?_
    rintro e w2 ⟨rfl, _, hrow, hb2⟩
    obtain ⟨gm, hgm⟩ : ∃ g, g = w1.heap.size + 1 := ⟨_, rfl⟩
    rw [← hgm] at hrow ⊢
    have hg2 : gm < w2.heap.size := hrow.lt
    have HGM : Hid (gm = w1.heap.size + 1) := hgm
    clear hgm
    have E0 : Hid (TurnW w (w2.alloc (.cells #[.int .i64 (r : Int), .int .i64 (c : Int), .int .i64 (c : Int), .slice (some ⟨gm, 0, none⟩) (r * c) (r * c)] 25)) R C S r c (.slice a len cap) w.heap.size (w.heap.size + 1) w2.heap.size gm (List.replicate (r * c) 0)) :=
      ⟨(M1.out.below hb2).below ((Below.refl _ _).alloc (Nat.le_refl _) _), MBox.made _ _ _ _ _, (A1.out.below hb2).below ((Below.refl _ _).alloc (Nat.le_refl _) _), hrow.below ((Below.refl _ _).alloc (Nat.le_refl _) _), bstep (bstep B1.out hb2) ((Below.refl _ _).alloc (Nat.le_refl _) _)⟩
    have I0 : Hid (CutI (List.replicate (r * c) 0) Z S i k r c 0) := ⟨List.length_replicate, InW.zeros _, fun p q h _ => by omega⟩
    obtain ⟨q0', q1', q2', q3', q4'⟩ := M1.out.below hb2
    have hz2 := hb2.size
    clear hb2 hrow q0 q1 q2 q3 q4
    go_wp2
    obtain ⟨b5, hb5⟩ : ∃ b, b = w2.heap.size := ⟨_, rfl⟩
    have D1 : Hid (gm ≠ w.heap.size ∧ gm ≠ w.heap.size + 1 ∧ gm ≠ b5 ∧ w.heap.size ≤ gm ∧ w.heap.size < b5) := by
      have := HGM.out
      refine ⟨?_, ?_, ?_, ?_, ?_⟩ <;> omega
    rw [← hb5] at E0 ⊢
    generalize (w2.alloc (.cells #[.int .i64 (r : Int), .int .i64 (c : Int), .int .i64 (c : Int), .slice (some ⟨gm, 0, none⟩) (r * c) (r * c)] 25)) = W at E0 ⊢
    clear hb5 hg2 HGM hz1 hz2 q0' q1' q2' q3' q4'
    go_loopw [38] (fun j wr => ∃ (n : Nat) (xs : List Int), j = .int .i64 (n : Int) ∧ n ≤ r ∧ Hid (TurnW w wr R C S r c (.slice a len cap) w.heap.size (w.heap.size + 1) b5 gm xs) ∧ Hid (CutI xs Z S i k r c n)) (fun j _ => r - (intOf j).toNat)
    case atStart => exact ⟨0, _, rfl, Nat.zero_le _, E0, I0⟩
    case round =>
      clear E0 I0
      obtain ⟨n, xs, rfl, hn, E, I⟩ := hrel
      by_cases hlt : (n : Int) < (r : Int)
      · have I2 : Hid (CutI (splice xs (n * c) (rowN Z ((i + n) * S + k) c)) Z S i k r c (n + 1)) := I.out.step (by omega) ZB.out
        have hfit : Hid (n * c + (rowN Z ((i + n) * S + k) c).length ≤ xs.length) := by
          show _ ≤ _
          rw [rowN_len, I.out.1, ← Nat.succ_mul]
          exact Nat.mul_le_mul_right _ (by omega)
        have hyl : Hid ((rowN Z ((i + n) * S + k) c).length = c) := rowN_len _ _ _
        obtain ⟨p0, p1, p2, p3, p4⟩ := E.out.m
        obtain ⟨k0, k1, k2, k3, k4⟩ := E.out.made
        have TT : Hid (Rgt (r : Int) (c : Int) (c : Int) (r * c)) := tight r c (by omega) (by omega)
        obtain ⟨IN, hIN⟩ : ∃ IN, i + n = IN := ⟨_, rfl⟩
        have hw0 : IntKind.i64.wrap ((i : Int) + (n : Int)) = (IN : Int) := by rw [IntKind.wrap_i64]; omega
        have hINR : (IN : Int) < (R : Int) := by omega
        rw [hIN] at I2 hfit hyl
        obtain ⟨ys, hys⟩ : ∃ ys, ys = rowN Z (IN * S + k) c := ⟨_, rfl⟩
        rw [← hys] at I2 hfit hyl
        have HYS : Hid (ys = rowN Z (IN * S + k) c) := hys
        clear hys hIN
        by_cases hC : C = 0
        · have HC0 : Hid ((C : Int) = 0) := by show _ = _; omega
          have hk0 : Hid (k = 0 ∧ c = 0) := ⟨by omega, by omega⟩
          have hsl := nil_cut k hk0.out.1
          have HK : Hid (c = 0) := hk0.out.2
          clear hk0 hC
          go_wp2
          go_region_held3 (fun w' => (w'.cell? ⟨w.heap.size, 0, none⟩ = some (.int .i64 (R : Int)) ∧ w'.cell? ⟨w.heap.size, 1, none⟩ = some (.int .i64 (C : Int)) ∧ w'.cell? ⟨w.heap.size, 2, none⟩ = some (.int .i64 (S : Int)) ∧ w'.cell? ⟨w.heap.size, 3, none⟩ = some (.slice a len cap)) ∧ (w'.cell? ⟨b5, 0, none⟩ = some (.int .i64 (r : Int)) ∧ w'.cell? ⟨b5, 1, none⟩ = some (.int .i64 (c : Int)) ∧ w'.cell? ⟨b5, 2, none⟩ = some (.int .i64 (c : Int)) ∧ w'.cell? ⟨b5, 3, none⟩ = some (.slice (some ⟨gm, 0, none⟩) (r * c) (r * c)))) (simp [go_sem, *]) (first | (go_at_call_of 35 gm; refine (mRowS _ _ _ _ _ _ _ _ _ TT.out (Nat.le_refl _) (by omega) (by omega) hlt).mono ?_; rintro e w3 ⟨⟨a3, c3, rfl, hc3, hc3', ha3⟩, hb3⟩; rw [nat_mul_int, Nat.zero_add] at ha3; rw [Int.toNat_natCast] at hc3 ⊢; have HA3 : Hid (0 < (c : Int) → a3 = some ⟨gm, n * c, none⟩) := ha3; have E3 : Hid (TurnW _ _ _ _ _ _ _ _ _ _ _ _ _) := E.out.below (by first | exact ((Below.refl _ _).drew).trans hb3 | exact hb3); obtain ⟨f0, f1, f2, f3, f4⟩ := E3.out.m; obtain ⟨g0', g1', g2', g3', g4'⟩ := E3.out.made; clear hb3 ha3) | (go_at_call 35; refine (mRowZ' _ _ _ _ _ _ HC0.out).mono ?_; rintro e w4 ⟨rfl, hb4⟩; have E4 : Hid (TurnW _ _ _ _ _ _ _ _ _ _ _ _ _) := E3.out.below (by first | exact ((Below.refl _ _).drew).trans hb4 | exact hb4); obtain ⟨j0, j1, j2, j3, j4⟩ := E4.out.m; obtain ⟨l0, l1, l2, l3, l4⟩ := E4.out.made; clear hb4) | (refine stepU_copy rfl _ _ rfl _ _ _ _ _ _ rfl rfl gm (n * c) xs ys (by first | exact E4.out.row.drew | exact E4.out.row) (by rw [hyl.out, HK.out]; simp) (fun hp => by have := HK.out; rw [hyl.out] at hp; omega) hfit.out ?_; intro w5 R5 B5; have hB5 : Bes (some gm) w4 w5 := (by first | exact ((Bes.refl _ _).drew).trans B5 | exact B5); have E5 : Hid (TurnW w w5 R C S r c _ w.heap.size (w.heap.size + 1) b5 gm _) := E4.out.bes hB5 R5 D1.out.1 D1.out.2.1 D1.out.2.2.1 D1.out.2.2.2.1; obtain ⟨t0, t1, t2, t3, t4⟩ := E5.out.m; obtain ⟨v0, v1, v2, v3, v4⟩ := E5.out.made; clear R5 B5 hB5))
          go_wp2
          go_roundw
          case rel => exact ⟨n + 1, _, by go_num, by omega, E5, I2⟩
          case measure => simp [intOf]; omega
        · obtain ⟨m0, m1, m2⟩ := HH.out.at IN (C - 1) (by omega) hINR (by omega) (by omega)
          obtain ⟨b, o, rfl, hb, hcell⟩ := HX.out.2.2.2 (by omega)
          obtain ⟨P, hP⟩ : ∃ P : Nat, IN * S = P := ⟨_, rfl⟩
          rw [← Int.natCast_mul, hP] at m0 m1 m2
          obtain ⟨cp, hcp⟩ : ∃ cp, cap - P = cp := ⟨_, rfl⟩
          have HPS : Hid (((IN : Int) * (S : Int)).toNat = P) := by show _ = _; rw [nat_mul_int, hP]
          have HCP : Hid (cap - P = cp) := hcp
          have g1 : (C : Int) ≤ (cp : Int) := by omega
          have g2 : (k : Int) ≤ (C : Int) := by omega
          have g3 : (k : Int) ≤ (cp : Int) := by omega
          rw [hP] at HYS
          have HCL : Hid (∀ j, j < len → w.cell? ⟨b, o + j, none⟩ = some (.int .u64 (Z j))) := hcell
          have LN : Hid (P + C ≤ len) := by show _ ≤ _; omega
          clear hcell hP hcp
          by_cases hkc : cp = k
          · have hk0 : Hid (c = 0) := by show _ = _; omega
            go_wp2
            go_region_held3 (fun w' => (w'.cell? ⟨w.heap.size, 0, none⟩ = some (.int .i64 (R : Int)) ∧ w'.cell? ⟨w.heap.size, 1, none⟩ = some (.int .i64 (C : Int)) ∧ w'.cell? ⟨w.heap.size, 2, none⟩ = some (.int .i64 (S : Int)) ∧ w'.cell? ⟨w.heap.size, 3, none⟩ = some (.slice (some ⟨b, o, none⟩) len cap)) ∧ (w'.cell? ⟨b5, 0, none⟩ = some (.int .i64 (r : Int)) ∧ w'.cell? ⟨b5, 1, none⟩ = some (.int .i64 (c : Int)) ∧ w'.cell? ⟨b5, 2, none⟩ = some (.int .i64 (c : Int)) ∧ w'.cell? ⟨b5, 3, none⟩ = some (.slice (some ⟨gm, 0, none⟩) (r * c) (r * c)))) (simp [go_sem, *]) (first | (go_at_call_of 35 gm; refine (mRowS _ _ _ _ _ _ _ _ _ TT.out (Nat.le_refl _) (by omega) (by omega) hlt).mono ?_; rintro e w3 ⟨⟨a3, c3, rfl, hc3, hc3', ha3⟩, hb3⟩; rw [nat_mul_int, Nat.zero_add] at ha3; rw [Int.toNat_natCast] at hc3 ⊢; have HA3 : Hid (0 < (c : Int) → a3 = some ⟨gm, n * c, none⟩) := ha3; have E3 : Hid (TurnW _ _ _ _ _ _ _ _ _ _ _ _ _) := E.out.below (by first | exact ((Below.refl _ _).drew).trans hb3 | exact hb3); obtain ⟨f0, f1, f2, f3, f4⟩ := E3.out.m; obtain ⟨g0', g1', g2', g3', g4'⟩ := E3.out.made; clear hb3 ha3) | (go_at_call 35; refine (mRowE _ _ _ _ _ _ _ _ _ HH.out hlc (by omega) (by omega) hINR (by omega)).mono ?_; rintro e w4 ⟨rfl, hb4⟩; rw [HPS.out, HCP.out, Int.toNat_natCast]; have E4 : Hid (TurnW _ _ _ _ _ _ _ _ _ _ _ _ _) := E3.out.below (by first | exact ((Below.refl _ _).drew).trans hb4 | exact hb4); obtain ⟨j0, j1, j2, j3, j4⟩ := E4.out.m; obtain ⟨l0, l1, l2, l3, l4⟩ := E4.out.made; clear hb4) | (refine stepU_copy rfl _ _ rfl _ _ _ _ _ _ rfl rfl gm (n * c) xs ys (by first | exact E4.out.row.drew | exact E4.out.row) (by rw [hyl.out, hk0.out]; simp) (fun hp => by have := hk0.out; rw [hyl.out] at hp; omega) hfit.out ?_; intro w5 R5 B5; have hB5 : Bes (some gm) w4 w5 := (by first | exact ((Bes.refl _ _).drew).trans B5 | exact B5); have E5 : Hid (TurnW w w5 R C S r c _ w.heap.size (w.heap.size + 1) b5 gm _) := E4.out.bes hB5 R5 D1.out.1 D1.out.2.1 D1.out.2.2.1 D1.out.2.2.2.1; obtain ⟨t0, t1, t2, t3, t4⟩ := E5.out.m; obtain ⟨v0, v1, v2, v3, v4⟩ := E5.out.made; clear R5 B5 hB5))
            go_wp2
            go_roundw
            case rel => exact ⟨n + 1, _, by go_num, by omega, E5, I2⟩
            case measure => simp [intOf]; omega
          · have hne : ¬ (cp : Int) = (k : Int) := by omega
            go_wp2
            go_region_held3 (fun w' => (w'.cell? ⟨w.heap.size, 0, none⟩ = some (.int .i64 (R : Int)) ∧ w'.cell? ⟨w.heap.size, 1, none⟩ = some (.int .i64 (C : Int)) ∧ w'.cell? ⟨w.heap.size, 2, none⟩ = some (.int .i64 (S : Int)) ∧ w'.cell? ⟨w.heap.size, 3, none⟩ = some (.slice (some ⟨b, o, none⟩) len cap)) ∧ (w'.cell? ⟨b5, 0, none⟩ = some (.int .i64 (r : Int)) ∧ w'.cell? ⟨b5, 1, none⟩ = some (.int .i64 (c : Int)) ∧ w'.cell? ⟨b5, 2, none⟩ = some (.int .i64 (c : Int)) ∧ w'.cell? ⟨b5, 3, none⟩ = some (.slice (some ⟨gm, 0, none⟩) (r * c) (r * c)))) (simp [go_sem, *]) (first | (go_at_call_of 35 gm; refine (mRowS _ _ _ _ _ _ _ _ _ TT.out (Nat.le_refl _) (by omega) (by omega) hlt).mono ?_; rintro e w3 ⟨⟨a3, c3, rfl, hc3, hc3', ha3⟩, hb3⟩; rw [nat_mul_int, Nat.zero_add] at ha3; rw [Int.toNat_natCast] at hc3 ⊢; have HA3 : Hid (0 < (c : Int) → a3 = some ⟨gm, n * c, none⟩) := ha3; have E3 : Hid (TurnW _ _ _ _ _ _ _ _ _ _ _ _ _) := E.out.below (by first | exact ((Below.refl _ _).drew).trans hb3 | exact hb3); obtain ⟨f0, f1, f2, f3, f4⟩ := E3.out.m; obtain ⟨g0', g1', g2', g3', g4'⟩ := E3.out.made; clear hb3 ha3) | (go_at_call 35; refine (mRowE _ _ _ _ _ _ _ _ _ HH.out hlc (by omega) (by omega) hINR (by omega)).mono ?_; rintro e w4 ⟨rfl, hb4⟩; rw [HPS.out, HCP.out, Int.toNat_natCast]; have E4 : Hid (TurnW _ _ _ _ _ _ _ _ _ _ _ _ _) := E3.out.below (by first | exact ((Below.refl _ _).drew).trans hb4 | exact hb4); obtain ⟨j0, j1, j2, j3, j4⟩ := E4.out.m; obtain ⟨l0, l1, l2, l3, l4⟩ := E4.out.made; clear hb4) | (refine stepU_copy rfl _ _ rfl _ _ _ _ _ _ rfl rfl gm (n * c) xs ys (by first | exact E4.out.row.drew | exact E4.out.row) (by rw [hyl.out]; exact (Nat.min_eq_right (by omega)).symm) (fun hp => ⟨HA3.out (by rw [hyl.out] at hp; omega), b, o + P + k, rfl, fun j hj => by rw [hyl.out] at hj; rw [HYS.out, rowN_at _ _ _ _ hj]; have hL := LN.out; have := HCL.out (P + k + j) (by omega); rw [show o + P + k + j = o + (P + k + j) by omega]; exact (E4.out.bel.cell (p := ⟨b, o + (P + k + j), none⟩) hb).trans this⟩) hfit.out ?_; intro w5 R5 B5; have hB5 : Bes (some gm) w4 w5 := (by first | exact ((Bes.refl _ _).drew).trans B5 | exact B5); have E5 : Hid (TurnW w w5 R C S r c _ w.heap.size (w.heap.size + 1) b5 gm _) := E4.out.bes hB5 R5 D1.out.1 D1.out.2.1 D1.out.2.2.1 D1.out.2.2.2.1; obtain ⟨t0, t1, t2, t3, t4⟩ := E5.out.m; obtain ⟨v0, v1, v2, v3, v4⟩ := E5.out.made; clear R5 B5 hB5))
            go_wp2
            go_roundw
            case rel => exact ⟨n + 1, _, by go_num, by omega, E5, I2⟩
            case measure => simp [intOf]; omega
      · obtain rfl : n = r := by omega
        obtain ⟨⟨g0, g1, g2, g3, g4⟩, g5⟩ := E.out.ans
        obtain ⟨k0, k1, k2, k3, k4⟩ := E.out.made
        have y0 := g5 0
        have y1 := g5 1
        have y2 := g5 2
        have y3 := g5 3
        clear g5
        go_wp2
        refine bodyPost_ret (v := .tuple #[.agg #[.int .i64 (n : Int), .int .i64 (c : Int), .int .i64 (c : Int), .slice (some ⟨gm, 0, none⟩) (n * c) (n * c)], .int .i64 0]) (by simp [results, Tryz.results48, go_sem, *]) rfl ?_
        obtain ⟨d1, d2, d3, d4, d5⟩ := D1.out
        have BP : ∀ u0 u1 u2 u3, Bes (some (w.heap.size + 1)) wr ((((wr.setCell ⟨w.heap.size + 1, 0, none⟩ u0).setCell ⟨w.heap.size + 1, 1, none⟩ u1).setCell ⟨w.heap.size + 1, 2, none⟩ u2).setCell ⟨w.heap.size + 1, 3, none⟩ u3) := fun u0 u1 u2 u3 => (((Bes.put wr _ 0 u0).set (p := ⟨w.heap.size + 1, 1, none⟩) (.inr rfl) u1).set (p := ⟨w.heap.size + 1, 2, none⟩) (.inr rfl) u2).set (p := ⟨w.heap.size + 1, 3, none⟩) (.inr rfl) u3
        first | exact ⟨gm, xs, rfl, d4, E.out.row.bes (BP _ _ _ _) (ne_some (Ne.symm d2)), I.out, E.out.bel.trans ((BP _ _ _ _).below _ E.out.bel.size (fun j e => by injection e with e; omega))⟩ | exact ⟨gm, rfl, d4, xs, E.out.row.bes (BP _ _ _ _) (ne_some (Ne.symm d2)), I.out, E.out.bel.trans ((BP _ _ _ _).below _ E.out.bel.size (fun j e => by injection e with e; omega))⟩
  · exact absurd HH.out hN
end Go.Proofs.YtpakpgjbgehhjaaGreat

/-
  What mat's Cut returns of places that aren't there, and what Clone returns. Conditions: a matrix that is right.
-/
namespace Go.Proofs.YtpakpgjbgehhjaaGreat
open Go.RowKit
set_option linter.unusedVariables false

set_option maxHeartbeats 1000000 in
theorem mClone (R C S : Nat) (a : Option Addr) (len cap : Nat) (Z : Nat → Int) (w : World) (h : Rgt (R : Int) (C : Int) (S : Int) len) (hx : URow w a len cap Z) (hRC : R * C ≤ 1000000) :
    Calls Tryz.prog 21 #[.agg #[.int .i64 (R : Int), .int .i64 (C : Int), .int .i64 (S : Int), .slice a len cap]] w fun e w' => ∃ g xs, e = .returned (.agg #[.int .i64 (R : Int), .int .i64 (C : Int), .int .i64 (C : Int), .slice (some ⟨g, 0, none⟩) (R * C) (R * C)]) ∧ w.heap.size ≤ g ∧ RowU w' g xs ∧ CutI xs Z S 0 0 R C R ∧ Below w.heap.size w w' := by
  have HX : Hid (URow w a len cap Z) := hx
  have HH : Hid (Rgt (R : Int) (C : Int) (S : Int) len) := h
  clear hx h
  go_enter Tryz.func21, Tryz.ntmps21
  go_wp2_with fail
  obtain ⟨o1, ho1⟩ : ∃ o, o = Obj.cells #[.int .i64 (R : Int), .int .i64 (C : Int), .int .i64 (S : Int), .slice a len cap] 25 := ⟨_, rfl⟩
  have bW : Below w.heap.size w ((w.alloc o1).alloc (.cells #[.int .i64 0, .int .i64 0, .int .i64 0, .slice none 0 0] 25)) := ((Below.refl _ _).alloc (Nat.le_refl _) _).alloc (by simp) _
  have wW : WBox ((w.alloc o1).alloc (.cells #[.int .i64 0, .int .i64 0, .int .i64 0, .slice none 0 0] 25)) (w.heap.size + 1) 0 0 0 (.slice none 0 0) := by
    have := WBox.made (w.alloc o1) 0 0 0 (.slice none 0 0)
    simp only [World.size_alloc] at this
    exact this
  have zW : w.heap.size + 1 < ((w.alloc o1).alloc (.cells #[.int .i64 0, .int .i64 0, .int .i64 0, .slice none 0 0] 25)).heap.size := by simp
  rw [← ho1]
  clear ho1
  generalize ((w.alloc o1).alloc (.cells #[.int .i64 0, .int .i64 0, .int .i64 0, .slice none 0 0] 25)) = W at bW wW zW ⊢
  refine (mCut R C S a len cap Z 0 0 R C W HH.out (HX.out.below bW) (by omega) (by omega) hRC).mono ?_
  rintro e w1 ⟨g, xs, rfl, hg, hR, hI, hb1⟩
  have W1 : Hid (WBox _ _ _ _ _ _) := wW.below hb1
  have B1 : Hid (Below w.heap.size w w1) := bstep bW hb1
  have R1 : Hid (RowU w1 g xs) := hR
  have I1 : Hid (CutI xs Z S 0 0 R C R) := hI
  have HG : Hid (w.heap.size + 1 < g) := by show _ < _; omega
  obtain ⟨⟨v0, v1, v2, v3, v4⟩, v5⟩ := W1.out
  have y0 := v5 0
  have y1 := v5 1
  have y2 := v5 2
  have y3 := v5 3
  clear hb1 bW wW zW v5 hR hI hg
  go_wp2
  refine bodyPost_ret (v := .agg #[.int .i64 (R : Int), .int .i64 (C : Int), .int .i64 (C : Int), .slice (some ⟨g, 0, none⟩) (R * C) (R * C)]) (by simp [results, Tryz.results21, go_sem, *]) rfl ?_
  have hg := HG.out
  have BP : ∀ u0 u1 u2 u3, Bes (some (w.heap.size + 1)) w1 ((((w1.setCell ⟨w.heap.size + 1, 0, none⟩ u0).setCell ⟨w.heap.size + 1, 1, none⟩ u1).setCell ⟨w.heap.size + 1, 2, none⟩ u2).setCell ⟨w.heap.size + 1, 3, none⟩ u3) := fun u0 u1 u2 u3 => (((Bes.put w1 _ 0 u0).set (p := ⟨w.heap.size + 1, 1, none⟩) (.inr rfl) u1).set (p := ⟨w.heap.size + 1, 2, none⟩) (.inr rfl) u2).set (p := ⟨w.heap.size + 1, 3, none⟩) (.inr rfl) u3
  first | exact ⟨g, xs, rfl, by omega, R1.out.bes ((BP _ _ _ _).alloc _) (ne_some (by omega)), I1.out, B1.out.trans (((BP _ _ _ _).alloc _).below _ B1.out.size (fun j e => by injection e with e; omega))⟩ | exact ⟨g, rfl, by omega, xs, R1.out.bes ((BP _ _ _ _).alloc _) (ne_some (by omega)), I1.out, B1.out.trans (((BP _ _ _ _).alloc _).below _ B1.out.size (fun j e => by injection e with e; omega))⟩
end Go.Proofs.YtpakpgjbgehhjaaGreat

/-
  What Cut, Turn, Clone and the laws' Made return, told as numbers at places. Conditions: a matrix that is right, of at most a million numbers.
-/
namespace Go.Proofs.YtpakpgjbgehhjaaGreat
open Go.RowKit
set_option linter.unusedVariables false

theorem URow.nil (w : World) : URow w none 0 0 (fun _ => 0) := ⟨Nat.le_refl _, Nat.zero_le _, fun _ => by show (0 : Int) ≤ 0 ∧ (0 : Int) < 18446744073709551616; decide, fun h => absurd h (Nat.lt_irrefl 0)⟩
end Go.Proofs.YtpakpgjbgehhjaaGreat
