/-
  What addSize and subSize of package dyad return: a sum and a difference of sizes. Conditions: lists are short, places small, what is taken away isn't greater.
-/
import Derived.Test.YtokgfeeaoioegaaAlignC
namespace Go.Proofs.Ytokgfeeaoioegaa
open Go.RowKit
set_option linter.unusedVariables false
set_option linter.unusedSimpArgs false

theorem made_zero (m : Nat) : madeCells (Value.int .u64 0).cells (m * 1) = ((List.replicate m (0 : Int)).map (Value.int .u64)).toArray := by
  unfold madeCells
  apply Array.ext
  · simp
  · intro i h1 h2
    simp [Value.cells, Nat.mod_one]
theorem mk_run (m : Nat) (hm : m ≤ 1000000) (w : World) : (Instr.makeSlice 23 (.int .i64 (m : Int)) (.int .i64 (m : Int))).run Try.prog w = .ok (.slice (some ⟨w.heap.size, 0, none⟩) m m) (w.alloc (.cells ((List.replicate m (0 : Int)).map (Value.int .u64)).toArray 26)) := by
  obtain ⟨i, hi, hz, hsz, hby⟩ := info_parts Try.u64Info
  have := run_make (P := Try.prog) w 23 26 i (.int .u64 0) Try.underlying23 hi hz .i64 .i64 (m : Int) (m : Int) (by omega) (Int.le_refl _) (by rw [hby]; omega) (by omega)
  rw [hsz, Int.toNat_natCast, made_zero] at this
  exact this
theorem splice_row (m i : Nat) (xs : List Int) (h : i + xs.length ≤ m) : splice ((List.replicate m (0 : Int)).map (Value.int .u64)) i (xs.map (Value.int .u64)) = (List.replicate i 0 ++ (xs ++ List.replicate (m - (i + xs.length)) 0)).map (Value.int .u64) := by
  unfold splice
  rw [List.map_append, List.map_append, List.length_map]
  congr 1
  · rw [← List.map_take, List.take_replicate, Nat.min_eq_left (by omega)]
  · congr 1
    rw [← List.map_drop, List.drop_replicate]
theorem dv_lay (m i : Nat) (xs : List Int) (h : i + xs.length ≤ m) : dv (List.replicate i 0 ++ (xs ++ List.replicate (m - (i + xs.length)) 0)) = pw i * dv xs ∧ (List.replicate i (0 : Int) ++ (xs ++ List.replicate (m - (i + xs.length)) 0)).length = m := by
  refine ⟨?_, by simp; omega⟩
  rw [dv_append, dv_append, dv_zeros, dv_zeros, List.length_replicate, Int.mul_zero, Int.add_zero, Int.zero_add]
theorem alloc_row (w : World) (cs : Array Value) (t : TypeId) : (w.alloc (.cells cs t)).heap[w.heap.size]? = some (.cells cs t (0, 0)) := heap_alloc_new w _
theorem alloc_row' (w : World) (cs : Array Value) (t : TypeId) (g : Nat) (hg : g = w.heap.size) : (w.alloc (.cells cs t)).drew.heap[g]? = some (.cells cs t (0, 0)) := hg ▸ heap_alloc_new w _
theorem row_src {w W : World} {b o : Nat} {xs : List Int} (h : ∀ i, i < xs.length → w.cell? ⟨b, o + i, none⟩ = some (.int .u64 (xs[i]?.getD 0))) (hb : b < w.heap.size) (B : Below w.heap.size w W) : ∀ j v, (xs.map (Value.int .u64))[j]? = some v → W.cell? ((⟨b, o, none⟩ : Addr).add j) = some v := by
  intro j v hv
  rw [List.getElem?_map] at hv
  cases hj : xs[j]? with
  | none => rw [hj] at hv; cases hv
  | some y =>
    rw [hj] at hv
    have hlt : j < xs.length := (List.getElem?_eq_some_iff.1 hj).1
    rw [Addr.add_lit, B.cell (p := ⟨b, o + j, none⟩) hb, h j hlt, hj]
    exact hv
theorem bcellB {B : Nat} {W w1 : World} (hb : Below B W w1) : (∀ b o, b < B → w1.cell? ⟨b, o, none⟩ = W.cell? ⟨b, o, none⟩) ∧ (∀ b o, b < B → w1.frozen? ⟨b, o, none⟩ = W.frozen? ⟨b, o, none⟩) :=
  ⟨fun b o h => hb.cell (p := ⟨b, o, none⟩) h, fun b o h => hb.frozen (p := ⟨b, o, none⟩) h⟩
theorem u64_size : (Try.prog.info? 26).map (·.size) = some 1 := by kernel_rfl
theorem fit_sum (i k n1 n2 N : Nat) (X Y : Int) (hX0 : 0 ≤ X) (hX : X < pw n1) (hY0 : 0 ≤ Y) (hY : Y < pw n2) (h1 : i + n1 ≤ N) (h2 : k + n2 ≤ N) : pw i * X + pw k * Y < pw (N + 1) := by
  have a := Int.mul_lt_mul_of_pos_left hX (pw_pos i)
  have b := Int.mul_lt_mul_of_pos_left hY (pw_pos k)
  rw [← pw_add] at a b
  have c := pw_le _ _ h1
  have d := pw_le _ _ h2
  have e := pw_pos N
  rw [pw_succ]
  omega
theorem sum_math (na : Bool) (X Y : Int) (p q bot : Int) (i k K : Nat) (hp : bot + i = p) (hq : bot + k = q) (h1 : -(K : Int) ≤ p) (h2 : -(K : Int) ≤ q) (h3 : i = 0 ∨ k = 0) :
    sg na * ((pw i * X + pw k * Y) * pw (bot + K).toNat) = sg na * (X * pw (p + K).toNat + Y * pw (q + K).toNat) := by
  rw [show (p + K).toNat = (bot + K).toNat + i by omega, show (q + K).toNat = (bot + K).toNat + k by omega, pw_add, pw_add]
  grind
theorem sub_fit (X Y : Int) (p q bot : Int) (i k K : Nat) (hp : bot + i = p) (hq : bot + k = q) (h1 : -(K : Int) ≤ p) (h2 : -(K : Int) ≤ q) (h3 : i = 0 ∨ k = 0) (h : Y * pw (q + K).toNat ≤ X * pw (p + K).toNat) : pw k * Y ≤ pw i * X := by
  rw [show (p + K).toNat = (bot + K).toNat + i by omega, show (q + K).toNat = (bot + K).toNat + k by omega, pw_add, pw_add] at h
  have hp := pw_pos (bot + K).toNat
  generalize pw (bot + K).toNat = u at *
  refine Int.le_of_mul_le_mul_left (a := u) ?_ hp
  have e1 : u * (pw k * Y) = Y * (u * pw k) := by grind
  have e2 : u * (pw i * X) = X * (u * pw i) := by grind
  omega
theorem diff_math (na : Bool) (X Y : Int) (p q bot : Int) (i k K : Nat) (hp : bot + i = p) (hq : bot + k = q) (h1 : -(K : Int) ≤ p) (h2 : -(K : Int) ≤ q) (h3 : i = 0 ∨ k = 0) :
    sg na * ((pw i * X - pw k * Y) * pw (bot + K).toNat) = sg na * (X * pw (p + K).toNat - Y * pw (q + K).toNat) := by
  rw [show (p + K).toNat = (bot + K).toNat + i by omega, show (q + K).toNat = (bot + K).toNat + k by omega, pw_add, pw_add]
  grind
set_option maxHeartbeats 4000000 in
theorem dAddSize (na nb : Bool) (sa sb : Value) (xs ys : List Int) (p q : Int) (w : World) (ha : SeesW w 0 sa xs) (hb : SeesW w 0 sb ys) (nx : xs ≠ []) (ny : ys ≠ []) (hx : InW xs) (hy : InW ys) (lx : xs.length ≤ 200000) (ly : ys.length ≤ 200000) (p0 : -100000 ≤ p) (p1 : p ≤ 100000) (q0 : -100000 ≤ q) (q1 : q ≤ 100000) :
    Calls Try.prog 67 #[.agg #[.bool na, sa, .int .i64 p, .slice none 0 0], .agg #[.bool nb, sb, .int .i64 q, .slice none 0 0]] w fun e w' => ∃ r, e = .returned r ∧ (∀ (k : Nat) (L : Int), -(k : Int) ≤ p → -(k : Int) ≤ q → p + (xs.length : Int) ≤ L → q + (ys.length : Int) ≤ L → 0 ≤ L → Tell w' w.heap.size r k (L + 1) (sg na * (dv xs * pw (p + k).toNat + dv ys * pw (q + k).toNat))) ∧ Below w.heap.size w w' := by
  rcases ha with ⟨_, rfl⟩ | ⟨⟨ba, oa, ca, rfl, a1, a2, a3, a4⟩, _⟩
  · exact absurd rfl nx
  rcases hb with ⟨_, rfl⟩ | ⟨⟨bb, ob, cb, rfl, b1, b2, b3, b4⟩, _⟩
  · exact absurd rfl ny
  obtain ⟨n1, hn1⟩ : ∃ n, n = xs.length := ⟨_, rfl⟩
  obtain ⟨n2, hn2⟩ : ∃ n, n = ys.length := ⟨_, rfl⟩
  have N1 : Hid (_ = _) := hn1
  have N2 : Hid (_ = _) := hn2
  have CA : Hid (∀ i, i < xs.length → w.cell? ⟨ba, oa + i, none⟩ = some (.int .u64 (xs[i]?.getD 0))) := a4
  have CB : Hid (∀ i, i < ys.length → w.cell? ⟨bb, ob + i, none⟩ = some (.int .u64 (ys[i]?.getD 0))) := b4
  have a0 : 0 < xs.length := List.length_pos_iff.2 nx
  have b0 : 0 < ys.length := List.length_pos_iff.2 ny
  rw [← hn1] at lx a2 a0 ⊢
  rw [← hn2] at ly b2 b0 ⊢
  clear hn1 hn2 a4 b4 nx ny
  unfold maxLen at a3 b3
  go_enter Try.func67, Try.ntmps67
  go_wp2_with fail
  refine (dAlign _ _ _ _ _ _ _ _ _ _ _ (by omega) (by omega) (by omega) (by omega) (by omega) (by omega)).mono ?_
  rintro e w1 ⟨bot, i, k, N, rfl, g1, g2, g3, g4, hb1⟩
  have G1 : Hid (_ = _) := g1
  have G2 : Hid (_ = _) := g2
  have hN : N ≤ 500000 := by omega
  have hiN : i + n1 ≤ N := by omega
  have hkN : k + n2 ≤ N := by omega
  have bo0 : -200000 ≤ bot := by omega
  have bo1 : bot ≤ 200000 := by omega
  have G3 : Hid (i = 0 ∨ k = 0) := g3
  have hNm : Hid (N = max (i + n1) (k + n2)) := g4
  clear g1 g2 g3 g4
  have mk := mk_run (N + 1) (by omega)
  obtain ⟨Z, hZ⟩ : ∃ Z, Z = (List.replicate (N + 1) (0 : Int)).map (Value.int .u64) := ⟨_, rfl⟩
  have HZ : Hid (_ = _) := hZ
  rw [← hZ] at mk
  clear hZ
  rw [show (((N + 1 : Nat) : Int)) = (N : Int) + 1 by omega] at mk
  obtain ⟨hc1, hf1⟩ := bcell hb1
  have hz1 : w.heap.size + 1 + 1 < w1.heap.size := by have := hb1.size; simp at this; omega
  have hy1 : w.heap.size + 1 < w1.heap.size := by omega
  have hw1 : w.heap.size < w1.heap.size := by omega
  have hx1 : Below w.heap.size w w1 := Below.trans (by repeat (first | (refine Below.drew ?_) | (refine Below.alloc ?_ (by first | omega | (simp <;> omega)) _) | (refine Below.setCell ?_ (by first | omega | (simp <;> omega)) _) | exact Below.refl _ _)) (hb1.mono (by first | omega | (simp <;> omega)))
  have i1 : (0 : Int) ≤ (i : Int) := by omega
  have i2 : (i : Int) ≤ (N : Int) + 1 := by omega
  have i3 : ¬ N + 1 = i := by omega
  clear hb1
  go_wp2_with fail
  have hxW : Below w.heap.size w ((w1.alloc (.cells #[.int .i64 bot, .slice none 0 0] 42)).alloc (.cells Z.toArray 26)) := (by repeat (first | exact hx1 | (refine Below.drew ?_) | (refine Below.alloc ?_ (by first | omega | (simp <;> omega)) _) | (refine Below.setCell ?_ (by first | omega | (simp <;> omega)) _) | exact Below.refl _ _))
  have HXW : Hid (Below _ _ _) := hxW
  have l1 : (xs.map (Value.int .u64)).length = n1 := by rw [List.length_map]; exact N1.out.symm
  have L1 : Hid (_ = _) := l1
  obtain ⟨X1, hX1⟩ : ∃ X1, X1 = xs.map (Value.int .u64) := ⟨_, rfl⟩
  have HX1 : Hid (_ = _) := hX1
  rw [← hX1] at L1
  have ZL : Hid (Z.length = N + 1) := by show _ = _; rw [HZ.out]; simp
  clear hxW l1 hX1
  go_region_held3 (fun w' => w'.cell? ⟨w.heap.size, 1, none⟩ = some (.slice (some ⟨ba, oa, none⟩) n1 ca)) (simp [go_sem, *]) (first | (refine step_copy_splice rfl _ _ 23 23 rfl 26 Try.underlying23 u64_size _ _ _ _ _ _ rfl rfl (w1.heap.size + 1) i Z 26 (by exact (alloc_row' _ _ _ _ (by simp))) X1 (by rw [L1.out]; exact (Nat.min_eq_left (by omega)).symm) (fun _ => ⟨rfl, _, rfl, by rw [HX1.out]; exact row_src CA.out a1 HXW.out.drew⟩) (by rw [L1.out, ZL.out]; omega) (by rw [HX1.out]; exact one_cells xs) (w1.heap.size + 1) _ (Below.refl _ _) (Nat.le_refl _) ?_; intro w2 R2 hb2; obtain ⟨hc2, hf2⟩ := bcellB hb2; have hz2 : w1.heap.size + 1 < w2.heap.size := (by have := hb2.size; simp at this; omega); have hy2 : w.heap.size < w1.heap.size + 1 := (by omega); have hv2 : w.heap.size + 1 < w1.heap.size + 1 := (by omega); have hu2 : w.heap.size + 1 + 1 < w1.heap.size + 1 := (by omega); have hx2 : Below w.heap.size w w2 := HXW.out.drew.trans (hb2.mono (by omega))))
  have e0 : w2.cell? ⟨w.heap.size, 0, none⟩ = some (.bool na) := by simp [go_sem, *]
  have e1 : w2.cell? ⟨w.heap.size + 1, 1, none⟩ = some (.slice (some ⟨bb, ob, none⟩) n2 cb) := by simp [go_sem, *]
  have e2 : w2.cell? ⟨w1.heap.size, 0, none⟩ = some (.int .i64 bot) := by simp [go_sem, *]
  have e3 : w2.cell? ⟨w1.heap.size, 1, none⟩ = some (.slice none 0 0) := by simp [go_sem, *]
  have r0 : w2.cell? ⟨w.heap.size + 1 + 1, 0, none⟩ = some (.bool false) := by simp [go_sem, *]
  have r1 : w2.cell? ⟨w.heap.size + 1 + 1, 1, none⟩ = some (.slice none 0 0) := by simp [go_sem, *]
  have r2 : w2.cell? ⟨w.heap.size + 1 + 1, 2, none⟩ = some (.int .i64 0) := by simp [go_sem, *]
  have r3 : w2.cell? ⟨w.heap.size + 1 + 1, 3, none⟩ = some (.slice none 0 0) := by simp [go_sem, *]
  have f0 : w2.frozen? ⟨w.heap.size + 1 + 1, 0, none⟩ = false := by simp [go_sem, *]
  have f1 : w2.frozen? ⟨w.heap.size + 1 + 1, 1, none⟩ = false := by simp [go_sem, *]
  have f2 : w2.frozen? ⟨w.heap.size + 1 + 1, 2, none⟩ = false := by simp [go_sem, *]
  have f3 : w2.frozen? ⟨w.heap.size + 1 + 1, 3, none⟩ = false := by simp [go_sem, *]
  obtain ⟨zs, hzs⟩ : ∃ zs, zs = List.replicate i (0 : Int) ++ (xs ++ List.replicate (N + 1 - (i + xs.length)) 0) := ⟨_, rfl⟩
  have fit : i + xs.length ≤ N + 1 := by have := N1.out; omega
  have RZ : Hid (RowU w2 (w1.heap.size + 1) zs) := by
    show _ = _
    rw [hzs, ← splice_row (N + 1) i xs fit, ← HZ.out, ← HX1.out]
    exact R2.out
  have DZ : Hid (dv zs = pw i * dv xs) := by rw [hzs]; exact (dv_lay (N + 1) i xs fit).1
  have LZ : Hid (zs.length = N + 1) := by rw [hzs]; exact (dv_lay (N + 1) i xs fit).2
  have IZ : Hid (InW zs) := by rw [hzs]; exact (InW.zeros _).append (hx.append (InW.zeros _))
  have j1 : (0 : Int) ≤ (k : Int) := by omega
  have j2 : (k : Int) ≤ (N : Int) + 1 := by omega
  have j3 : ¬ N + 1 = k := by omega
  have hbg : bb ≠ w1.heap.size + 1 := by omega
  have CB2 : Hid (∀ i, i < ys.length → w2.cell? ⟨bb, ob + i, none⟩ = some (.int .u64 (ys[i]?.getD 0))) := fun i hi => (hx2.cell (p := ⟨bb, ob + i, none⟩) b1).trans (CB.out i hi)
  clear hc1 hf1 hc2 hf2 hb2 R2 hzs mk CA CB HXW HX1 HZ ZL L1
  go_wp2_with fail
  go_region_held3 (fun w' => w'.cell? ⟨w.heap.size + 1, 1, none⟩ = some (.slice (some ⟨bb, ob, none⟩) n2 cb)) (simp [go_sem, *]) (first | (go_at_call 96; rw [N2.out]; refine (dAddTo (w1.heap.size + 1) k (N + 1 - k) (N + 1 - k) bb ob cb zs ys _ RZ.out.drew IZ.out (by rw [LZ.out]; omega) (Nat.le_refl _) (by omega) hy (by have := N2.out; omega) hbg (by have := N2.out; omega) (by omega) CB2.out (by rw [DZ.out, LZ.out]; exact fit_sum i k n1 n2 N _ _ (dv_nonneg hx) (by rw [N1.out]; exact dv_lt hx) (dv_nonneg hy) (by rw [N2.out]; exact dv_lt hy) hiN hkN)).mono ?_; rintro e w3 ⟨rfl, us, R3, L3, I3, D3, O3⟩; rw [← N2.out]; have e0' := (O3.cell (p := ⟨w.heap.size, 0, none⟩) (by simp; omega)).trans e0; have e1' := (O3.cell (p := ⟨w.heap.size + 1, 1, none⟩) (by simp; omega)).trans e1; have e2' := (O3.cell (p := ⟨w1.heap.size, 0, none⟩) (by simp)).trans e2; have e3' := (O3.cell (p := ⟨w1.heap.size, 1, none⟩) (by simp)).trans e3; have r0' := (O3.cell (p := ⟨w.heap.size + 1 + 1, 0, none⟩) (by simp; omega)).trans r0; have r1' := (O3.cell (p := ⟨w.heap.size + 1 + 1, 1, none⟩) (by simp; omega)).trans r1; have r2' := (O3.cell (p := ⟨w.heap.size + 1 + 1, 2, none⟩) (by simp; omega)).trans r2; have r3' := (O3.cell (p := ⟨w.heap.size + 1 + 1, 3, none⟩) (by simp; omega)).trans r3; have f0' := (O3.frozen (p := ⟨w.heap.size + 1 + 1, 0, none⟩) (by simp; omega)).trans f0; have f1' := (O3.frozen (p := ⟨w.heap.size + 1 + 1, 1, none⟩) (by simp; omega)).trans f1; have f2' := (O3.frozen (p := ⟨w.heap.size + 1 + 1, 2, none⟩) (by simp; omega)).trans f2; have f3' := (O3.frozen (p := ⟨w.heap.size + 1 + 1, 3, none⟩) (by simp; omega)).trans f3; have hz3 : w1.heap.size + 1 < w3.heap.size := (by rw [O3.size]; exact hz2); have hx3 : Below w.heap.size w w3 := hx2.drew.trans (O3.below (by omega)); have RU : Hid (RowU _ _ _) := R3; have LU : Hid (_ = _) := L3.trans LZ.out; have IU : Hid (InW _) := I3; have DU : Hid (_ = _) := D3; clear R3 L3 I3 D3 O3 e0 e1 e2 e3 r0 r1 r2 r3 f0 f1 f2 f3))
  go_wp2_with fail
  rw [← LU.out]
  refine (dTrim na (w1.heap.size + 1) 0 us.length (w.heap.size + 3) us bot w3 (RU.out.sees_all _ (Nat.le_refl _) (by rw [LU.out]; unfold maxLen; omega)) IU.out (by rw [LU.out]; omega) (by omega) (by omega) (by omega)).mono ?_
  rintro e w4 ⟨r, rfl, ht, hb4⟩
  rw [LU.out]
  have T : Hid (∀ (K : Nat) (L : Int), -(K : Int) ≤ p → -(K : Int) ≤ q → p + (n1 : Int) ≤ L → q + (n2 : Int) ≤ L → 0 ≤ L → Tell w4 (w.heap.size + 3) r K (L + 1) (sg na * (dv xs * pw (p + K).toNat + dv ys * pw (q + K).toNat))) := by
    intro K L h1 h2 h3 h4 h5
    have u1 := G1.out
    have u2 := G2.out
    have u3 := G3.out
    have u4 := hNm.out
    have t := ht K (L + 1) (by omega) (by rw [LU.out]; omega) (by omega)
    rw [DU.out, DZ.out] at t
    exact t.eq (sum_math na _ _ p q bot i k K u1 u2 h1 h2 u3)
  obtain ⟨neg', a', n', c', p', rfl⟩ := (ht 300000 1000000 (by omega) (by rw [LU.out]; omega) (by omega)).form
  have E : Hid (∀ b, b < w3.heap.size → ∀ o, w4.cell? ⟨b, o, none⟩ = w3.cell? ⟨b, o, none⟩) := fun b h o => hb4.cell (p := ⟨b, o, none⟩) h
  have s0 := (hb4.cell (p := ⟨w.heap.size + 1 + 1, 0, none⟩) (by simp; omega)).trans r0'
  have s1 := (hb4.cell (p := ⟨w.heap.size + 1 + 1, 1, none⟩) (by simp; omega)).trans r1'
  have s2 := (hb4.cell (p := ⟨w.heap.size + 1 + 1, 2, none⟩) (by simp; omega)).trans r2'
  have s3 := (hb4.cell (p := ⟨w.heap.size + 1 + 1, 3, none⟩) (by simp; omega)).trans r3'
  have g0 := (hb4.frozen (p := ⟨w.heap.size + 1 + 1, 0, none⟩) (by simp; omega)).trans f0'
  have g1 := (hb4.frozen (p := ⟨w.heap.size + 1 + 1, 1, none⟩) (by simp; omega)).trans f1'
  have g2 := (hb4.frozen (p := ⟨w.heap.size + 1 + 1, 2, none⟩) (by simp; omega)).trans f2'
  have g3 := (hb4.frozen (p := ⟨w.heap.size + 1 + 1, 3, none⟩) (by simp; omega)).trans f3'
  have hx4 : Below w.heap.size w w4 := hx3.trans (hb4.mono (by omega))
  clear ht hb4 E
  go_wp2
  refine bodyPost_ret (v := .agg #[.bool neg', .slice a' n' c', .int .i64 p', .slice none 0 0]) (by simp [results, Try.results67, go_sem, s0, s1, s2, s3]) rfl ⟨_, rfl, ?_, (by repeat (first | exact hx4 | (refine Below.drew ?_) | (refine Below.alloc ?_ (by first | omega | (simp <;> omega)) _) | (refine Below.setCell ?_ (by first | omega | (simp <;> omega)) _) | exact Below.refl _ _))⟩
  intro K L h1 h2 h3 h4 h5
  have t := T.out K L h1 h2 h3 h4 h5
  refine Tell.base (b := w.heap.size + 3) ?_ (by omega)
  repeat (first | exact t | (refine Tell.set ?_ (by simp) _))
set_option maxHeartbeats 4000000 in
theorem dSubSize (na nb : Bool) (sa sb : Value) (xs ys : List Int) (p q : Int) (w : World) (ha : SeesW w 0 sa xs) (hb : SeesW w 0 sb ys) (nx : xs ≠ []) (ny : ys ≠ []) (hx : InW xs) (hy : InW ys) (lx : xs.length ≤ 200000) (ly : ys.length ≤ 200000) (p0 : -100000 ≤ p) (p1 : p ≤ 100000) (q0 : -100000 ≤ q) (q1 : q ≤ 100000) (K0 : Nat) (kp : -(K0 : Int) ≤ p) (kq : -(K0 : Int) ≤ q) (hle : dv ys * pw (q + K0).toNat ≤ dv xs * pw (p + K0).toNat) :
    Calls Try.prog 69 #[.agg #[.bool na, sa, .int .i64 p, .slice none 0 0], .agg #[.bool nb, sb, .int .i64 q, .slice none 0 0]] w fun e w' => ∃ r, e = .returned r ∧ (∀ (k : Nat) (L : Int), -(k : Int) ≤ p → -(k : Int) ≤ q → p + (xs.length : Int) ≤ L → q + (ys.length : Int) ≤ L → 0 ≤ L → Tell w' w.heap.size r k (L + 1) (sg na * (dv xs * pw (p + k).toNat - dv ys * pw (q + k).toNat))) ∧ Below w.heap.size w w' := by
  rcases ha with ⟨_, rfl⟩ | ⟨⟨ba, oa, ca, rfl, a1, a2, a3, a4⟩, _⟩
  · exact absurd rfl nx
  rcases hb with ⟨_, rfl⟩ | ⟨⟨bb, ob, cb, rfl, b1, b2, b3, b4⟩, _⟩
  · exact absurd rfl ny
  obtain ⟨n1, hn1⟩ : ∃ n, n = xs.length := ⟨_, rfl⟩
  obtain ⟨n2, hn2⟩ : ∃ n, n = ys.length := ⟨_, rfl⟩
  have N1 : Hid (_ = _) := hn1
  have N2 : Hid (_ = _) := hn2
  have CA : Hid (∀ i, i < xs.length → w.cell? ⟨ba, oa + i, none⟩ = some (.int .u64 (xs[i]?.getD 0))) := a4
  have CB : Hid (∀ i, i < ys.length → w.cell? ⟨bb, ob + i, none⟩ = some (.int .u64 (ys[i]?.getD 0))) := b4
  have a0 : 0 < xs.length := List.length_pos_iff.2 nx
  have b0 : 0 < ys.length := List.length_pos_iff.2 ny
  rw [← hn1] at lx a2 a0 ⊢
  rw [← hn2] at ly b2 b0 ⊢
  have HLE : Hid (_ ≤ _) := hle
  clear hn1 hn2 a4 b4 nx ny hle
  unfold maxLen at a3 b3
  go_enter Try.func69, Try.ntmps69
  go_wp2_with fail
  refine (dAlign _ _ _ _ _ _ _ _ _ _ _ (by omega) (by omega) (by omega) (by omega) (by omega) (by omega)).mono ?_
  rintro e w1 ⟨bot, i, k, N, rfl, g1, g2, g3, g4, hb1⟩
  have G1 : Hid (_ = _) := g1
  have G2 : Hid (_ = _) := g2
  have hN : N ≤ 500000 := by omega
  have hiN : i + n1 ≤ N := by omega
  have hkN : k + n2 ≤ N := by omega
  have bo0 : -200000 ≤ bot := by omega
  have bo1 : bot ≤ 200000 := by omega
  have G3 : Hid (i = 0 ∨ k = 0) := g3
  have hNm : Hid (N = max (i + n1) (k + n2)) := g4
  clear g1 g2 g3 g4
  have mk := mk_run (N) (by omega)
  obtain ⟨Z, hZ⟩ : ∃ Z, Z = (List.replicate (N) (0 : Int)).map (Value.int .u64) := ⟨_, rfl⟩
  have HZ : Hid (_ = _) := hZ
  rw [← hZ] at mk
  clear hZ
  obtain ⟨hc1, hf1⟩ := bcell hb1
  have hz1 : w.heap.size + 1 + 1 < w1.heap.size := by have := hb1.size; simp at this; omega
  have hy1 : w.heap.size + 1 < w1.heap.size := by omega
  have hw1 : w.heap.size < w1.heap.size := by omega
  have hx1 : Below w.heap.size w w1 := Below.trans (by repeat (first | (refine Below.drew ?_) | (refine Below.alloc ?_ (by first | omega | (simp <;> omega)) _) | (refine Below.setCell ?_ (by first | omega | (simp <;> omega)) _) | exact Below.refl _ _)) (hb1.mono (by first | omega | (simp <;> omega)))
  have i1 : (0 : Int) ≤ (i : Int) := by omega
  have i2 : (i : Int) ≤ (N : Int) := by omega
  have i3 : ¬ N = i := by omega
  clear hb1
  go_wp2_with fail
  have hxW : Below w.heap.size w ((w1.alloc (.cells #[.int .i64 bot, .slice none 0 0] 42)).alloc (.cells Z.toArray 26)) := (by repeat (first | exact hx1 | (refine Below.drew ?_) | (refine Below.alloc ?_ (by first | omega | (simp <;> omega)) _) | (refine Below.setCell ?_ (by first | omega | (simp <;> omega)) _) | exact Below.refl _ _))
  have HXW : Hid (Below _ _ _) := hxW
  have l1 : (xs.map (Value.int .u64)).length = n1 := by rw [List.length_map]; exact N1.out.symm
  have L1 : Hid (_ = _) := l1
  obtain ⟨X1, hX1⟩ : ∃ X1, X1 = xs.map (Value.int .u64) := ⟨_, rfl⟩
  have HX1 : Hid (_ = _) := hX1
  rw [← hX1] at L1
  have ZL : Hid (Z.length = N) := by show _ = _; rw [HZ.out]; simp
  clear hxW l1 hX1
  go_region_held3 (fun w' => w'.cell? ⟨w.heap.size, 1, none⟩ = some (.slice (some ⟨ba, oa, none⟩) n1 ca)) (simp [go_sem, *]) (first | (refine step_copy_splice rfl _ _ 23 23 rfl 26 Try.underlying23 u64_size _ _ _ _ _ _ rfl rfl (w1.heap.size + 1) i Z 26 (by exact (alloc_row' _ _ _ _ (by simp))) X1 (by rw [L1.out]; exact (Nat.min_eq_left (by omega)).symm) (fun _ => ⟨rfl, _, rfl, by rw [HX1.out]; exact row_src CA.out a1 HXW.out.drew⟩) (by rw [L1.out, ZL.out]; omega) (by rw [HX1.out]; exact one_cells xs) (w1.heap.size + 1) _ (Below.refl _ _) (Nat.le_refl _) ?_; intro w2 R2 hb2; obtain ⟨hc2, hf2⟩ := bcellB hb2; have hz2 : w1.heap.size + 1 < w2.heap.size := (by have := hb2.size; simp at this; omega); have hy2 : w.heap.size < w1.heap.size + 1 := (by omega); have hv2 : w.heap.size + 1 < w1.heap.size + 1 := (by omega); have hu2 : w.heap.size + 1 + 1 < w1.heap.size + 1 := (by omega); have hx2 : Below w.heap.size w w2 := HXW.out.drew.trans (hb2.mono (by omega))))
  have e0 : w2.cell? ⟨w.heap.size, 0, none⟩ = some (.bool na) := by simp [go_sem, *]
  have e1 : w2.cell? ⟨w.heap.size + 1, 1, none⟩ = some (.slice (some ⟨bb, ob, none⟩) n2 cb) := by simp [go_sem, *]
  have e2 : w2.cell? ⟨w1.heap.size, 0, none⟩ = some (.int .i64 bot) := by simp [go_sem, *]
  have e3 : w2.cell? ⟨w1.heap.size, 1, none⟩ = some (.slice none 0 0) := by simp [go_sem, *]
  have r0 : w2.cell? ⟨w.heap.size + 1 + 1, 0, none⟩ = some (.bool false) := by simp [go_sem, *]
  have r1 : w2.cell? ⟨w.heap.size + 1 + 1, 1, none⟩ = some (.slice none 0 0) := by simp [go_sem, *]
  have r2 : w2.cell? ⟨w.heap.size + 1 + 1, 2, none⟩ = some (.int .i64 0) := by simp [go_sem, *]
  have r3 : w2.cell? ⟨w.heap.size + 1 + 1, 3, none⟩ = some (.slice none 0 0) := by simp [go_sem, *]
  have f0 : w2.frozen? ⟨w.heap.size + 1 + 1, 0, none⟩ = false := by simp [go_sem, *]
  have f1 : w2.frozen? ⟨w.heap.size + 1 + 1, 1, none⟩ = false := by simp [go_sem, *]
  have f2 : w2.frozen? ⟨w.heap.size + 1 + 1, 2, none⟩ = false := by simp [go_sem, *]
  have f3 : w2.frozen? ⟨w.heap.size + 1 + 1, 3, none⟩ = false := by simp [go_sem, *]
  obtain ⟨zs, hzs⟩ : ∃ zs, zs = List.replicate i (0 : Int) ++ (xs ++ List.replicate (N - (i + xs.length)) 0) := ⟨_, rfl⟩
  have fit : i + xs.length ≤ N := by have := N1.out; omega
  have RZ : Hid (RowU w2 (w1.heap.size + 1) zs) := by
    show _ = _
    rw [hzs, ← splice_row (N) i xs fit, ← HZ.out, ← HX1.out]
    exact R2.out
  have DZ : Hid (dv zs = pw i * dv xs) := by rw [hzs]; exact (dv_lay (N) i xs fit).1
  have LZ : Hid (zs.length = N) := by rw [hzs]; exact (dv_lay (N) i xs fit).2
  have IZ : Hid (InW zs) := by rw [hzs]; exact (InW.zeros _).append (hx.append (InW.zeros _))
  have j1 : (0 : Int) ≤ (k : Int) := by omega
  have j2 : (k : Int) ≤ (N : Int) := by omega
  have j3 : ¬ N = k := by omega
  have hbg : bb ≠ w1.heap.size + 1 := by omega
  have CB2 : Hid (∀ i, i < ys.length → w2.cell? ⟨bb, ob + i, none⟩ = some (.int .u64 (ys[i]?.getD 0))) := fun i hi => (hx2.cell (p := ⟨bb, ob + i, none⟩) b1).trans (CB.out i hi)
  clear hc1 hf1 hc2 hf2 hb2 R2 hzs mk CA CB HXW HX1 HZ ZL L1
  go_wp2_with fail
  go_region_held3 (fun w' => w'.cell? ⟨w.heap.size + 1, 1, none⟩ = some (.slice (some ⟨bb, ob, none⟩) n2 cb)) (simp [go_sem, *]) (first | (go_at_call 101; rw [N2.out]; refine (dSubFrom (w1.heap.size + 1) k (N - k) (N - k) bb ob cb zs ys _ RZ.out.drew IZ.out (by rw [LZ.out]; omega) (Nat.le_refl _) (by omega) hy (by have := N2.out; omega) hbg (by have := N2.out; omega) (by omega) CB2.out (by rw [DZ.out]; exact sub_fit _ _ p q bot i k K0 G1.out G2.out kp kq G3.out HLE.out)).mono ?_; rintro e w3 ⟨rfl, us, R3, L3, I3, D3, O3⟩; rw [← N2.out]; have e0' := (O3.cell (p := ⟨w.heap.size, 0, none⟩) (by simp; omega)).trans e0; have e1' := (O3.cell (p := ⟨w.heap.size + 1, 1, none⟩) (by simp; omega)).trans e1; have e2' := (O3.cell (p := ⟨w1.heap.size, 0, none⟩) (by simp)).trans e2; have e3' := (O3.cell (p := ⟨w1.heap.size, 1, none⟩) (by simp)).trans e3; have r0' := (O3.cell (p := ⟨w.heap.size + 1 + 1, 0, none⟩) (by simp; omega)).trans r0; have r1' := (O3.cell (p := ⟨w.heap.size + 1 + 1, 1, none⟩) (by simp; omega)).trans r1; have r2' := (O3.cell (p := ⟨w.heap.size + 1 + 1, 2, none⟩) (by simp; omega)).trans r2; have r3' := (O3.cell (p := ⟨w.heap.size + 1 + 1, 3, none⟩) (by simp; omega)).trans r3; have f0' := (O3.frozen (p := ⟨w.heap.size + 1 + 1, 0, none⟩) (by simp; omega)).trans f0; have f1' := (O3.frozen (p := ⟨w.heap.size + 1 + 1, 1, none⟩) (by simp; omega)).trans f1; have f2' := (O3.frozen (p := ⟨w.heap.size + 1 + 1, 2, none⟩) (by simp; omega)).trans f2; have f3' := (O3.frozen (p := ⟨w.heap.size + 1 + 1, 3, none⟩) (by simp; omega)).trans f3; have hz3 : w1.heap.size + 1 < w3.heap.size := (by rw [O3.size]; exact hz2); have hx3 : Below w.heap.size w w3 := hx2.drew.trans (O3.below (by omega)); have RU : Hid (RowU _ _ _) := R3; have LU : Hid (_ = _) := L3.trans LZ.out; have IU : Hid (InW _) := I3; have DU : Hid (_ = _) := D3; clear R3 L3 I3 D3 O3 e0 e1 e2 e3 r0 r1 r2 r3 f0 f1 f2 f3))
  go_wp2_with fail
  rw [← LU.out]
  refine (dTrim na (w1.heap.size + 1) 0 us.length (w.heap.size + 3) us bot w3 (RU.out.sees_all _ (Nat.le_refl _) (by rw [LU.out]; unfold maxLen; omega)) IU.out (by rw [LU.out]; omega) (by omega) (by omega) (by omega)).mono ?_
  rintro e w4 ⟨r, rfl, ht, hb4⟩
  rw [LU.out]
  have T : Hid (∀ (K : Nat) (L : Int), -(K : Int) ≤ p → -(K : Int) ≤ q → p + (n1 : Int) ≤ L → q + (n2 : Int) ≤ L → 0 ≤ L → Tell w4 (w.heap.size + 3) r K (L + 1) (sg na * (dv xs * pw (p + K).toNat - dv ys * pw (q + K).toNat))) := by
    intro K L h1 h2 h3 h4 h5
    have u1 := G1.out
    have u2 := G2.out
    have u3 := G3.out
    have u4 := hNm.out
    have t := ht K (L + 1) (by omega) (by rw [LU.out]; omega) (by omega)
    rw [DU.out, DZ.out] at t
    exact t.eq (diff_math na _ _ p q bot i k K u1 u2 h1 h2 u3)
  obtain ⟨neg', a', n', c', p', rfl⟩ := (ht 300000 1000000 (by omega) (by rw [LU.out]; omega) (by omega)).form
  have E : Hid (∀ b, b < w3.heap.size → ∀ o, w4.cell? ⟨b, o, none⟩ = w3.cell? ⟨b, o, none⟩) := fun b h o => hb4.cell (p := ⟨b, o, none⟩) h
  have s0 := (hb4.cell (p := ⟨w.heap.size + 1 + 1, 0, none⟩) (by simp; omega)).trans r0'
  have s1 := (hb4.cell (p := ⟨w.heap.size + 1 + 1, 1, none⟩) (by simp; omega)).trans r1'
  have s2 := (hb4.cell (p := ⟨w.heap.size + 1 + 1, 2, none⟩) (by simp; omega)).trans r2'
  have s3 := (hb4.cell (p := ⟨w.heap.size + 1 + 1, 3, none⟩) (by simp; omega)).trans r3'
  have g0 := (hb4.frozen (p := ⟨w.heap.size + 1 + 1, 0, none⟩) (by simp; omega)).trans f0'
  have g1 := (hb4.frozen (p := ⟨w.heap.size + 1 + 1, 1, none⟩) (by simp; omega)).trans f1'
  have g2 := (hb4.frozen (p := ⟨w.heap.size + 1 + 1, 2, none⟩) (by simp; omega)).trans f2'
  have g3 := (hb4.frozen (p := ⟨w.heap.size + 1 + 1, 3, none⟩) (by simp; omega)).trans f3'
  have hx4 : Below w.heap.size w w4 := hx3.trans (hb4.mono (by omega))
  clear ht hb4 E
  go_wp2
  refine bodyPost_ret (v := .agg #[.bool neg', .slice a' n' c', .int .i64 p', .slice none 0 0]) (by simp [results, Try.results69, go_sem, s0, s1, s2, s3]) rfl ⟨_, rfl, ?_, (by repeat (first | exact hx4 | (refine Below.drew ?_) | (refine Below.alloc ?_ (by first | omega | (simp <;> omega)) _) | (refine Below.setCell ?_ (by first | omega | (simp <;> omega)) _) | exact Below.refl _ _))⟩
  intro K L h1 h2 h3 h4 h5
  have t := T.out K L h1 h2 h3 h4 h5
  refine Tell.base (b := w.heap.size + 3) ?_ (by omega)
  repeat (first | exact t | (refine Tell.set ?_ (by simp) _))
end Go.Proofs.Ytokgfeeaoioegaa
