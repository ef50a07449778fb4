/-
  Texts put together: MulC MulD MulE LeadC NearC DHeadC BoxM.
-/
import Derived.Test.YtpakpgjbgehhjaaGreatProg
import Derived.Test.YtpakpgjbgehhjaaGreatGrE
import Derived.Test.YtpakpgjbgehhjaaGreatGrC
import Derived.Test.YtpakpgjbgehhjaaGreatGrG
import Derived.Test.YtpakpgjbgehhjaaGreatGrF
import Derived.Test.YtpakpgjbgehhjaaGreatGrA
/-
  What addTimes and product of package dyad do: some words times a word, added to others; the words of a product. Conditions: lists are short.
-/
namespace Go.Proofs.YtpakpgjbgehhjaaGreat
open Go.RowKit
set_option linter.unusedVariables false
set_option linter.unusedSimpArgs false

theorem wid3 (y t z c h1 l1 h2 l2 h3 l3 : Int) (y0 : 0 ≤ y) (y1 : y < 18446744073709551616) (t0 : 0 ≤ t) (t1 : t < 18446744073709551616) (z0 : 0 ≤ z) (z1 : z < 18446744073709551616) (c0 : 0 ≤ c) (c1 : c < 18446744073709551616)
    (hh1 : 0 ≤ h1) (hl1 : 0 ≤ l1) (hh2 : 0 ≤ h2) (hl2 : 0 ≤ l2) (hh3 : 0 ≤ h3) (hl3 : 0 ≤ l3) (e1 : wid h1 l1 = y.toNat * t.toNat) (e2 : wid h2 l2 = (wid h1 l1 + wid 0 z) % 2 ^ 128) (e3 : wid h3 l3 = (wid h2 l2 + wid 0 c) % 2 ^ 128) : l3 + 18446744073709551616 * h3 = y * t + z + c := by
  obtain ⟨Y, rfl⟩ := Int.eq_ofNat_of_zero_le y0
  obtain ⟨T, rfl⟩ := Int.eq_ofNat_of_zero_le t0
  rw [Int.toNat_natCast, Int.toNat_natCast] at e1
  have b : Y * T ≤ 18446744073709551615 * 18446744073709551615 := Nat.mul_le_mul (by omega) (by omega)
  rw [e1] at e2
  have f : wid 0 z = z.toNat := by unfold wid; omega
  have g : wid 0 c = c.toNat := by unfold wid; omega
  rw [f, Nat.mod_eq_of_lt (by omega)] at e2
  rw [e2, g, Nat.mod_eq_of_lt (by omega)] at e3
  unfold wid at e3
  rw [← Int.natCast_mul]
  omega
theorem times_word (T z y t c s c' p : Int) (d d' : Int) (hs : s + 18446744073709551616 * c' = y * t + z + c) (hd : d' = d + (s - z) * p) (hT : d + c * p = T) : d' + c' * (p * 18446744073709551616) = T + t * y * p := by
  subst hd; subst hT
  have : s - z = y * t + c - 18446744073709551616 * c' := by omega
  rw [this]
  grind
/-- Nothing that was there has turned but block g. -/
structure Beside (g : Nat) (w w' : World) : Prop where
  os : w'.os = w.os
  tape : w'.tape = w.tape
  output : w'.output = w.output
  size : w.heap.size ≤ w'.heap.size
  block : ∀ k, k ≠ g → k < w.heap.size → w'.heap[k]? = w.heap[k]?
theorem Beside.refl (g : Nat) (w : World) : Beside g w w := ⟨rfl, rfl, rfl, Nat.le_refl _, fun _ _ _ => rfl⟩
theorem Beside.trans {g : Nat} {a b c : World} (h : Beside g a b) (k : Beside g b c) : Beside g a c :=
  ⟨k.os.trans h.os, k.tape.trans h.tape, k.output.trans h.output, Nat.le_trans h.size k.size, fun i hi hl => (k.block i hi (Nat.lt_of_lt_of_le hl h.size)).trans (h.block i hi hl)⟩
theorem Beside.ofBelow {g : Nat} {a w w' : World} (h : Beside g a w) (hb : Below w.heap.size w w') : Beside g a w' := h.trans ⟨hb.os, hb.tape, hb.output, hb.size, fun i _ hl => hb.block i hl⟩
theorem Beside.alloc {g : Nat} {a w : World} (h : Beside g a w) (o : Obj) : Beside g a (w.alloc o) := h.ofBelow ((Below.refl _ _).alloc (Nat.le_refl _) _)
theorem Beside.drew {g : Nat} {a w : World} (h : Beside g a w) : Beside g a w.drew := ⟨h.os, h.tape, h.output, h.size, h.block⟩
theorem Beside.setG {g : Nat} {a w : World} (h : Beside g a w) (i : Nat) (u : Value) : Beside g a (w.setCell ⟨g, i, none⟩ u) :=
  h.trans ⟨rfl, rfl, rfl, by simp [World.setCell], fun k hk _ => Below.heap_setCell _ _ _ _ hk⟩
theorem Beside.setN {g : Nat} {a w : World} (h : Beside g a w) {p : Addr} (hp : a.heap.size ≤ p.block) (u : Value) : Beside g a (w.setCell p u) :=
  ⟨h.os, h.tape, h.output, by simpa [World.setCell] using h.size, fun k hk hl => (Below.heap_setCell _ _ _ _ (by omega)).trans (h.block k hk hl)⟩
theorem Beside.cell {g : Nat} {w w' : World} (h : Beside g w w') {p : Addr} (hp : p.block ≠ g) (hl : p.block < w.heap.size) : w'.cell? p = w.cell? p := World.cell?_of_block (w := w) (h.block p.block hp hl)
theorem Beside.frozen {g : Nat} {w w' : World} (h : Beside g w w') {p : Addr} (hp : p.block ≠ g) (hl : p.block < w.heap.size) : w'.frozen? p = w.frozen? p := World.frozen?_of_block (w := w) (h.block p.block hp hl)
theorem Beside.below {g B : Nat} {w w' : World} (h : Beside g w w') (hB : B ≤ g) (hw : B ≤ w.heap.size) : Below B w w' := ⟨h.os, h.tape, h.output, h.size, fun k hk => h.block k (by omega) (by omega)⟩
theorem RowU.setN {w : World} {g : Nat} {xs : List Int} (h : RowU w g xs) {p : Addr} (hp : p.block ≠ g) (u : Value) : RowU (w.setCell p u) g xs := by
  unfold RowU
  rw [Below.heap_setCell _ _ _ _ (Ne.symm hp)]
  exact h
theorem keep_alloc {w : World} {q : Addr} {v : Value} {o : Obj} (h : w.cell? q = some v) : (w.alloc o).cell? q = some v :=
  ((Below.refl w.heap.size w).alloc (Nat.le_refl _) o).cell (World.block_lt_of_cell? _ _ h) |>.trans h
theorem keep_other {w : World} {p q : Addr} {u v : Value} (hne : p.block ≠ q.block) (h : w.cell? q = some v) : (w.setCell p u).cell? q = some v := (World.cell?_setCell_far w p q u hne).trans h
theorem drew_heap (w : World) : w.drew.heap = w.heap := rfl
set_option maxHeartbeats 4000000 in
theorem dAddTimes (g k c b o c2 : Nat) (xs ys : List Int) (t : Int) (w : World) (hr : RowU w g xs) (hx : InW xs) (hm : k + ys.length ≤ xs.length) (hl : xs.length ≤ 1000000) (hmc : ys.length ≤ c) (hcm : c ≤ 1000000) (hy : InW ys) (hbg : b ≠ g) (hbw : b < w.heap.size) (hc2 : ys.length ≤ c2) (hcm2 : c2 ≤ 9223372036854775807) (t0 : 0 ≤ t) (t1 : t < 18446744073709551616)
    (hcell : ∀ i, i < ys.length → w.cell? ⟨b, o + i, none⟩ = some (.int .u64 (ys[i]?.getD 0))) :
    Calls Tryz.prog 67 #[.slice (some ⟨g, k, none⟩) ys.length c, .slice (some ⟨b, o, none⟩) ys.length c2, .int .u64 t] w fun e w' => ∃ (zs : List Int) (cy : Int), e = .returned (.int .u64 cy) ∧ 0 ≤ cy ∧ cy < 18446744073709551616 ∧ RowU w' g zs ∧ zs.length = xs.length ∧ InW zs ∧ dv zs + cy * pw (k + ys.length) = dv xs + pw k * (t * dv ys) ∧ (∀ j, k + ys.length ≤ j → zs[j]?.getD 0 = xs[j]?.getD 0) ∧ Beside g w w' := by
  obtain ⟨n, hn⟩ : ∃ n, n = ys.length := ⟨_, rfl⟩
  have HC : Hid (∀ i, i < ys.length → w.cell? ⟨b, o + i, none⟩ = some (.int .u64 (ys[i]?.getD 0))) := hcell
  have HR : Hid (RowU w g xs) := hr
  have hgw := hr.lt
  clear hcell hr
  rw [← hn] at hm hmc hc2 ⊢
  have HN : Hid (n = ys.length) := hn
  have hn0 : n ≤ 1000000 := by omega
  have HM : Hid (k + n ≤ xs.length) := hm
  clear hn hm
  go_enter Tryz.func67, Tryz.ntmps67
  go_wp2
  go_loopw [7, 14] (fun cv iv wr => ∃ (cy : Int) (i : Nat) (zs : List Int), cv = .int .u64 cy ∧ iv = .int .i64 (i : Int) ∧ i ≤ n ∧ 0 ≤ cy ∧ cy < 18446744073709551616 ∧ Hid (RowU wr g zs) ∧ Hid (zs.length = xs.length) ∧ Hid (InW zs) ∧ Hid (dv zs + cy * pw (k + i) = dv xs + pw k * (t * dv (ys.take i))) ∧ Hid (∀ j, k + n ≤ j → zs[j]?.getD 0 = xs[j]?.getD 0) ∧ Hid (Beside g w wr)) (fun _ iv _ => n - (intOf iv).toNat)
  case atStart => exact ⟨0, 0, xs, rfl, rfl, Nat.zero_le _, by omega, by omega, HR.out, rfl, hx, by show _ = _; rw [List.take_zero, dv_nil, Int.mul_zero, Int.mul_zero, Int.zero_mul], fun _ _ => rfl, Beside.refl _ _⟩
  case round =>
    obtain ⟨cy, i, zs, rfl, rfl, hi, hc0, hc1, A, B, C, D, G, E⟩ := hrel
    by_cases hlt : i < n
    · have q1 := A.out.cell (k + i) (by have := B.out; have := HM.out; omega)
      have q2 : wr.cell? ⟨b, o + i, none⟩ = some (.int .u64 (ys[i]?.getD 0)) := (E.out.cell (p := ⟨b, o + i, none⟩) hbg hbw).trans (HC.out i (by have := HN.out; omega))
      have q3 := A.out.frozen (k + i)
      have hgr := A.out.lt
      have hsz := E.out.size
      have z0 := (C.out.get (k + i)).1
      have z1 := (C.out.get (k + i)).2
      have y0 := (InW.get hy i).1
      have y1 := (InW.get hy i).2
      obtain ⟨z, hz⟩ : ∃ z, z = zs[k + i]?.getD 0 := ⟨_, rfl⟩
      obtain ⟨y, hy'⟩ : ∃ y, y = ys[i]?.getD 0 := ⟨_, rfl⟩
      rw [← hz] at q1 z0 z1
      rw [← hy'] at q2 y0 y1
      have HZ : Hid (_ = _) := hz
      have HY : Hid (_ = _) := hy'
      clear hz hy'
      go_wp2_with fail
      have dh : ∀ w : World, w.drew.heap = w.heap := fun _ => rfl
      have hgr' : g < wr.heap.size + 1 := by omega
      have hgn : ¬ g = wr.heap.size := by omega
      have hgn' : ¬ wr.heap.size = g := by omega
      go_region_held3 (fun w' => w'.cell? ⟨g, k + i, none⟩ = some (.int .u64 z)) (repeat (first | exact q1 | exact (B2.out.cell (p := ⟨g, k + i, none⟩) hgr).trans q1 | exact (B1.out.cell (p := ⟨g, k + i, none⟩) hgr).trans q1 | (refine keep_drew ?_) | (refine keep_alloc ?_) | (refine keep_other (by simp; omega) ?_))) (first | (go_at_call 94; refine (wMul _ _ _ y0 y1 t0 t1).mono ?_; rintro e w1 ⟨h1, l1, rfl, a1, a2, a3, a4, a5, hb1⟩; have B1 : Hid (Below wr.heap.size wr w1) := (Below.trans (by repeat (first | (refine Below.drew ?_) | (refine Below.alloc ?_ (by first | omega | (simp <;> omega)) _) | (refine Below.setCell ?_ (by first | omega | (simp <;> omega)) _) | exact Below.refl _ _)) (hb1.mono (by first | omega | (simp <;> omega)))); obtain ⟨pc1, pf1⟩ := bcell hb1; have hr1 : ∀ b, b < _ → b < w1.heap.size := (fun b h => Nat.lt_of_lt_of_le h hb1.size); have hq1 := hb1.size; (try simp [drew_heap] at hq1); have hs1 : wr.heap.size ≤ w1.heap.size := B1.out.size; have hg1 : g < w1.heap.size := (by omega); have hg1' : g < w1.heap.size + 1 := (by omega); have hn1 : ¬ g = w1.heap.size := (by omega); have hn1' : ¬ w1.heap.size = g := (by omega); clear hb1; have A5 : Hid (_ = _) := a5; clear a5) | (go_at_call 95; refine (wAdd _ _ _ _ _ a1 a2 a3 a4 (by omega) (by omega) z0 z1).mono ?_; rintro e w2 ⟨h2, l2, rfl, b1, b2, b3, b4, b5, hb2⟩; have B2 : Hid (Below wr.heap.size wr w2) := (Below.trans (by repeat (first | exact B1.out | (refine Below.drew ?_) | (refine Below.alloc ?_ (by first | omega | (simp <;> omega)) _) | (refine Below.setCell ?_ (by first | omega | (simp <;> omega)) _) | exact Below.refl _ _)) (hb2.mono (by first | omega | (simp <;> omega)))); obtain ⟨pc2, pf2⟩ := bcell hb2; have hr2 : ∀ b, b < _ → b < w2.heap.size := (fun b h => Nat.lt_of_lt_of_le h hb2.size); have hq2 := hb2.size; (try simp [drew_heap] at hq2); have hs2 : wr.heap.size ≤ w2.heap.size := B2.out.size; have hg2 : g < w2.heap.size := (by omega); have hg2' : g < w2.heap.size + 1 := (by omega); have hn2 : ¬ g = w2.heap.size := (by omega); have hn2' : ¬ w2.heap.size = g := (by omega); clear hb2; have B5 : Hid (_ = _) := b5; clear b5))
      -- THREE ways: the new variable is made behind Add, between Mul and Add, ahead of Mul
      · have s0 : (w2.alloc (.cells #[.int .u64 h2, .int .u64 l2] 104)).cell? ⟨w2.heap.size, 0, none⟩ = some (.int .u64 h2) := by simp [go_sem, cell_some, cell_if, *]
        have s1 : (w2.alloc (.cells #[.int .u64 h2, .int .u64 l2] 104)).cell? ⟨w2.heap.size, 1, none⟩ = some (.int .u64 l2) := by simp [go_sem, cell_some, cell_if, *]
        have f0 : (w2.alloc (.cells #[.int .u64 h2, .int .u64 l2] 104)).frozen? ⟨w2.heap.size, 0, none⟩ = false := by simp [go_sem, *]
        have f1 : (w2.alloc (.cells #[.int .u64 h2, .int .u64 l2] 104)).frozen? ⟨w2.heap.size, 1, none⟩ = false := by simp [go_sem, *]
        have BW : Hid (Below wr.heap.size wr (w2.alloc (.cells #[.int .u64 h2, .int .u64 l2] 104))) := (by repeat (first | exact B2.out | (refine Below.drew ?_) | (refine Below.alloc ?_ (by first | omega | (simp <;> omega)) _) | (refine Below.setCell ?_ (by first | omega | (simp <;> omega)) _) | exact Below.refl _ _))
        have hsW : wr.heap.size ≤ (w2.alloc (.cells #[.int .u64 h2, .int .u64 l2] 104)).heap.size := BW.out.size
        have hTW : w2.heap.size < (w2.alloc (.cells #[.int .u64 h2, .int .u64 l2] 104)).heap.size := by first | (simp; done) | (simp [World.setCell]; omega) | (simp; omega)
        have hTr : w.heap.size ≤ w2.heap.size := by omega
        have hTg : w2.heap.size ≠ g := by omega
        have hgT : g ≠ w2.heap.size := by omega
        clear pc1 pf1 pc2 pf2 hr1 hr2
        try clear hn1
        try clear hn1'
        try clear hn2
        try clear hn2'
        try clear hg1'
        try clear hg2'
        try clear hgr'
        try clear hgn
        try clear hgn'
        try clear dh
        generalize w2.alloc (.cells #[.int .u64 h2, .int .u64 l2] 104) = W at s0 s1 f0 f1 BW hsW hTW ⊢
        generalize w2.heap.size = T at s0 s1 f0 f1 hTW hTr hTg hgT ⊢
        go_wp2_with fail
        refine (wAdd _ _ _ _ _ b1 b2 b3 b4 (by omega) (by omega) hc0 hc1).mono ?_
        rintro e w3 ⟨h3, l3, rfl, d1, d2, d3, d4, d5, hb3⟩
        have B3 : Hid (Below wr.heap.size wr w3) := BW.out.trans (hb3.mono hsW)

        have F : Hid (l3 + 18446744073709551616 * h3 = y * t + z + cy) := wid3 y t z cy h1 l1 h2 l2 h3 l3 y0 y1 t0 t1 z0 z1 hc0 hc1 a1 a3 b1 b3 d1 d3 A5.out B5.out d5
        have u0 : w3.cell? ⟨T, 0, none⟩ = some (.int .u64 h2) := (hb3.cell (p := ⟨T, 0, none⟩) hTW).trans s0
        have u1 : w3.cell? ⟨T, 1, none⟩ = some (.int .u64 l2) := (hb3.cell (p := ⟨T, 1, none⟩) hTW).trans s1
        have v0 : w3.frozen? ⟨T, 0, none⟩ = false := (hb3.frozen (p := ⟨T, 0, none⟩) hTW).trans f0
        have v1 : w3.frozen? ⟨T, 1, none⟩ = false := (hb3.frozen (p := ⟨T, 1, none⟩) hTW).trans f1
        have R3 : Hid (RowU w3 g zs) := A.out.below B3.out
        have q4 : w3.cell? ⟨g, k + i, none⟩ = some (.int .u64 z) := (B3.out.cell (p := ⟨g, k + i, none⟩) hgr).trans q1
        have q5 : w3.frozen? ⟨g, k + i, none⟩ = false := (B3.out.frozen (p := ⟨g, k + i, none⟩) hgr).trans q3
        have hs3 := B3.out.size
        clear s0 s1 f0 f1 hb3 d5 BW hTW hsW
        go_wp2_with fail
        have x0 : ((w3.setCell ⟨T, 0, none⟩ (.int .u64 h3)).setCell ⟨T, 1, none⟩ (.int .u64 l3)).cell? ⟨T, 0, none⟩ = some (.int .u64 h3) := by simp [cell_some, cell_if, u0, u1]
        have x1 : ((w3.setCell ⟨T, 0, none⟩ (.int .u64 h3)).setCell ⟨T, 1, none⟩ (.int .u64 l3)).cell? ⟨T, 1, none⟩ = some (.int .u64 l3) := by simp [cell_some, cell_if, u0, u1]
        have x2 : ((w3.setCell ⟨T, 0, none⟩ (.int .u64 h3)).setCell ⟨T, 1, none⟩ (.int .u64 l3)).cell? ⟨g, k + i, none⟩ = some (.int .u64 z) := keep_other hTg (keep_other hTg q4)
        have x3 : ((w3.setCell ⟨T, 0, none⟩ (.int .u64 h3)).setCell ⟨T, 1, none⟩ (.int .u64 l3)).frozen? ⟨g, k + i, none⟩ = false := by simp [go_sem, q5]
        have x4 : Hid (RowU ((w3.setCell ⟨T, 0, none⟩ (.int .u64 h3)).setCell ⟨T, 1, none⟩ (.int .u64 l3)) g zs) := (R3.out.setN hTg _).setN hTg _
        have x5 : Hid (Beside g w ((w3.setCell ⟨T, 0, none⟩ (.int .u64 h3)).setCell ⟨T, 1, none⟩ (.int .u64 l3))) := ((E.out.ofBelow B3.out).setN (by simp; omega) _).setN (by simp; omega) _
        generalize (w3.setCell ⟨T, 0, none⟩ (.int .u64 h3)).setCell ⟨T, 1, none⟩ (.int .u64 l3) = w5 at x0 x1 x2 x3 x4 x5 ⊢
        clear u0 u1 v0 v1 R3 q4 q5 A E
        go_region_held3 (fun w' => w'.cell? ⟨T, 0, none⟩ = some (.int .u64 h3) ∧ w'.cell? ⟨T, 1, none⟩ = some (.int .u64 l3)) (refine ⟨?_, ?_⟩ <;> (repeat (first | exact x0 | exact x1 | (refine keep_drew ?_) | (refine keep_other hgT ?_)))) (fail)
        all_goals
          go_wp2
          go_roundw
          case rel =>
            refine ⟨h3, i + 1, zs.set (k + i) l3, rfl, by go_num, by omega, d1, d2, x4.out.set _ _, ?_, C.out.set _ _ d3 d4, ?_, ?_, ?_⟩
            · show _ = _
              rw [List.length_set]; exact B.out
            · show _ = _
              have e1 := dv_set zs (k + i) l3 (by have := B.out; have := HM.out; omega)
              rw [← HZ.out] at e1
              have e2 := times_word _ z y t cy l3 h3 (pw (k + i)) _ _ F.out e1 D.out
              rw [← Nat.add_assoc, pw_succ, e2, dv_take_succ ys i (by have := HN.out; omega), ← HY.out, pw_add]
              grind
            · intro j hj
              rw [List.getElem?_set_ne (by omega)]
              exact G.out j hj
            · first | exact (x5.out.drew).setG _ _ | exact (x5.out.setG _ _).drew | exact x5.out.setG _ _
          case measure => simp [intOf]; omega
      · have k0 : w2.cell? ⟨w1.heap.size, 0, none⟩ = some (.int .u64 0) := by simp [go_sem, *]
        have k1 : w2.cell? ⟨w1.heap.size, 1, none⟩ = some (.int .u64 0) := by simp [go_sem, *]
        have s0 : ((w2.setCell ⟨w1.heap.size, 0, none⟩ (.int .u64 h2)).setCell ⟨w1.heap.size, 1, none⟩ (.int .u64 l2)).cell? ⟨w1.heap.size, 0, none⟩ = some (.int .u64 h2) := by simp [cell_some, cell_if, k0, k1]
        have s1 : ((w2.setCell ⟨w1.heap.size, 0, none⟩ (.int .u64 h2)).setCell ⟨w1.heap.size, 1, none⟩ (.int .u64 l2)).cell? ⟨w1.heap.size, 1, none⟩ = some (.int .u64 l2) := by simp [cell_some, cell_if, k0, k1]
        have f0 : ((w2.setCell ⟨w1.heap.size, 0, none⟩ (.int .u64 h2)).setCell ⟨w1.heap.size, 1, none⟩ (.int .u64 l2)).frozen? ⟨w1.heap.size, 0, none⟩ = false := by simp [go_sem, *]
        have f1 : ((w2.setCell ⟨w1.heap.size, 0, none⟩ (.int .u64 h2)).setCell ⟨w1.heap.size, 1, none⟩ (.int .u64 l2)).frozen? ⟨w1.heap.size, 1, none⟩ = false := by simp [go_sem, *]
        have BW : Hid (Below wr.heap.size wr ((w2.setCell ⟨w1.heap.size, 0, none⟩ (.int .u64 h2)).setCell ⟨w1.heap.size, 1, none⟩ (.int .u64 l2))) := (by repeat (first | exact B2.out | (refine Below.drew ?_) | (refine Below.alloc ?_ (by first | omega | (simp <;> omega)) _) | (refine Below.setCell ?_ (by first | omega | (simp <;> omega)) _) | exact Below.refl _ _))
        have hsW : wr.heap.size ≤ ((w2.setCell ⟨w1.heap.size, 0, none⟩ (.int .u64 h2)).setCell ⟨w1.heap.size, 1, none⟩ (.int .u64 l2)).heap.size := BW.out.size
        have hTW : w1.heap.size < ((w2.setCell ⟨w1.heap.size, 0, none⟩ (.int .u64 h2)).setCell ⟨w1.heap.size, 1, none⟩ (.int .u64 l2)).heap.size := by first | (simp; done) | (simp [World.setCell]; omega) | (simp; omega)
        have hTr : w.heap.size ≤ w1.heap.size := by omega
        have hTg : w1.heap.size ≠ g := by omega
        have hgT : g ≠ w1.heap.size := by omega
        clear pc1 pf1 pc2 pf2 hr1 hr2
        try clear hn1
        try clear hn1'
        try clear hn2
        try clear hn2'
        try clear hg1'
        try clear hg2'
        try clear hgr'
        try clear hgn
        try clear hgn'
        try clear dh
        try clear k0
        try clear k1
        generalize (w2.setCell ⟨w1.heap.size, 0, none⟩ (.int .u64 h2)).setCell ⟨w1.heap.size, 1, none⟩ (.int .u64 l2) = W at s0 s1 f0 f1 BW hsW hTW ⊢
        generalize w1.heap.size = T at s0 s1 f0 f1 hTW hTr hTg hgT ⊢
        go_wp2_with fail
        refine (wAdd _ _ _ _ _ b1 b2 b3 b4 (by omega) (by omega) hc0 hc1).mono ?_
        rintro e w3 ⟨h3, l3, rfl, d1, d2, d3, d4, d5, hb3⟩
        have B3 : Hid (Below wr.heap.size wr w3) := BW.out.trans (hb3.mono hsW)
        have F : Hid (l3 + 18446744073709551616 * h3 = y * t + z + cy) := wid3 y t z cy h1 l1 h2 l2 h3 l3 y0 y1 t0 t1 z0 z1 hc0 hc1 a1 a3 b1 b3 d1 d3 A5.out B5.out d5
        have u0 : w3.cell? ⟨T, 0, none⟩ = some (.int .u64 h2) := (hb3.cell (p := ⟨T, 0, none⟩) hTW).trans s0
        have u1 : w3.cell? ⟨T, 1, none⟩ = some (.int .u64 l2) := (hb3.cell (p := ⟨T, 1, none⟩) hTW).trans s1
        have v0 : w3.frozen? ⟨T, 0, none⟩ = false := (hb3.frozen (p := ⟨T, 0, none⟩) hTW).trans f0
        have v1 : w3.frozen? ⟨T, 1, none⟩ = false := (hb3.frozen (p := ⟨T, 1, none⟩) hTW).trans f1
        have R3 : Hid (RowU w3 g zs) := A.out.below B3.out
        have q4 : w3.cell? ⟨g, k + i, none⟩ = some (.int .u64 z) := (B3.out.cell (p := ⟨g, k + i, none⟩) hgr).trans q1
        have q5 : w3.frozen? ⟨g, k + i, none⟩ = false := (B3.out.frozen (p := ⟨g, k + i, none⟩) hgr).trans q3
        have hs3 := B3.out.size
        clear s0 s1 f0 f1 hb3 d5 BW hTW hsW
        go_wp2_with fail
        have x0 : ((w3.setCell ⟨T, 0, none⟩ (.int .u64 h3)).setCell ⟨T, 1, none⟩ (.int .u64 l3)).cell? ⟨T, 0, none⟩ = some (.int .u64 h3) := by simp [cell_some, cell_if, u0, u1]
        have x1 : ((w3.setCell ⟨T, 0, none⟩ (.int .u64 h3)).setCell ⟨T, 1, none⟩ (.int .u64 l3)).cell? ⟨T, 1, none⟩ = some (.int .u64 l3) := by simp [cell_some, cell_if, u0, u1]
        have x2 : ((w3.setCell ⟨T, 0, none⟩ (.int .u64 h3)).setCell ⟨T, 1, none⟩ (.int .u64 l3)).cell? ⟨g, k + i, none⟩ = some (.int .u64 z) := keep_other hTg (keep_other hTg q4)
        have x3 : ((w3.setCell ⟨T, 0, none⟩ (.int .u64 h3)).setCell ⟨T, 1, none⟩ (.int .u64 l3)).frozen? ⟨g, k + i, none⟩ = false := by simp [go_sem, q5]
        have x4 : Hid (RowU ((w3.setCell ⟨T, 0, none⟩ (.int .u64 h3)).setCell ⟨T, 1, none⟩ (.int .u64 l3)) g zs) := (R3.out.setN hTg _).setN hTg _
        have x5 : Hid (Beside g w ((w3.setCell ⟨T, 0, none⟩ (.int .u64 h3)).setCell ⟨T, 1, none⟩ (.int .u64 l3))) := ((E.out.ofBelow B3.out).setN (by simp; omega) _).setN (by simp; omega) _
        generalize (w3.setCell ⟨T, 0, none⟩ (.int .u64 h3)).setCell ⟨T, 1, none⟩ (.int .u64 l3) = w5 at x0 x1 x2 x3 x4 x5 ⊢
        clear u0 u1 v0 v1 R3 q4 q5 A E
        go_region_held3 (fun w' => w'.cell? ⟨T, 0, none⟩ = some (.int .u64 h3) ∧ w'.cell? ⟨T, 1, none⟩ = some (.int .u64 l3)) (refine ⟨?_, ?_⟩ <;> (repeat (first | exact x0 | exact x1 | (refine keep_drew ?_) | (refine keep_other hgT ?_)))) (fail)
        all_goals
          go_wp2
          go_roundw
          case rel =>
            refine ⟨h3, i + 1, zs.set (k + i) l3, rfl, by go_num, by omega, d1, d2, x4.out.set _ _, ?_, C.out.set _ _ d3 d4, ?_, ?_, ?_⟩
            · show _ = _
              rw [List.length_set]; exact B.out
            · show _ = _
              have e1 := dv_set zs (k + i) l3 (by have := B.out; have := HM.out; omega)
              rw [← HZ.out] at e1
              have e2 := times_word _ z y t cy l3 h3 (pw (k + i)) _ _ F.out e1 D.out
              rw [← Nat.add_assoc, pw_succ, e2, dv_take_succ ys i (by have := HN.out; omega), ← HY.out, pw_add]
              grind
            · intro j hj
              rw [List.getElem?_set_ne (by omega)]
              exact G.out j hj
            · first | exact (x5.out.drew).setG _ _ | exact (x5.out.setG _ _).drew | exact x5.out.setG _ _
          case measure => simp [intOf]; omega
      · have k0 : w2.cell? ⟨wr.heap.size, 0, none⟩ = some (.int .u64 0) := by simp [go_sem, *]
        have k1 : w2.cell? ⟨wr.heap.size, 1, none⟩ = some (.int .u64 0) := by simp [go_sem, *]
        have s0 : ((w2.setCell ⟨wr.heap.size, 0, none⟩ (.int .u64 h2)).setCell ⟨wr.heap.size, 1, none⟩ (.int .u64 l2)).cell? ⟨wr.heap.size, 0, none⟩ = some (.int .u64 h2) := by simp [cell_some, cell_if, k0, k1]
        have s1 : ((w2.setCell ⟨wr.heap.size, 0, none⟩ (.int .u64 h2)).setCell ⟨wr.heap.size, 1, none⟩ (.int .u64 l2)).cell? ⟨wr.heap.size, 1, none⟩ = some (.int .u64 l2) := by simp [cell_some, cell_if, k0, k1]
        have f0 : ((w2.setCell ⟨wr.heap.size, 0, none⟩ (.int .u64 h2)).setCell ⟨wr.heap.size, 1, none⟩ (.int .u64 l2)).frozen? ⟨wr.heap.size, 0, none⟩ = false := by simp [go_sem, *]
        have f1 : ((w2.setCell ⟨wr.heap.size, 0, none⟩ (.int .u64 h2)).setCell ⟨wr.heap.size, 1, none⟩ (.int .u64 l2)).frozen? ⟨wr.heap.size, 1, none⟩ = false := by simp [go_sem, *]
        have BW : Hid (Below wr.heap.size wr ((w2.setCell ⟨wr.heap.size, 0, none⟩ (.int .u64 h2)).setCell ⟨wr.heap.size, 1, none⟩ (.int .u64 l2))) := (by repeat (first | exact B2.out | (refine Below.drew ?_) | (refine Below.alloc ?_ (by first | omega | (simp <;> omega)) _) | (refine Below.setCell ?_ (by first | omega | (simp <;> omega)) _) | exact Below.refl _ _))
        have hsW : wr.heap.size ≤ ((w2.setCell ⟨wr.heap.size, 0, none⟩ (.int .u64 h2)).setCell ⟨wr.heap.size, 1, none⟩ (.int .u64 l2)).heap.size := BW.out.size
        have hTW : wr.heap.size < ((w2.setCell ⟨wr.heap.size, 0, none⟩ (.int .u64 h2)).setCell ⟨wr.heap.size, 1, none⟩ (.int .u64 l2)).heap.size := by first | (simp; done) | (simp [World.setCell]; omega) | (simp; omega)
        have hTr : w.heap.size ≤ wr.heap.size := by omega
        have hTg : wr.heap.size ≠ g := by omega
        have hgT : g ≠ wr.heap.size := by omega
        clear pc1 pf1 pc2 pf2 hr1 hr2
        try clear hn1
        try clear hn1'
        try clear hn2
        try clear hn2'
        try clear hg1'
        try clear hg2'
        try clear hgr'
        try clear hgn
        try clear hgn'
        try clear dh
        try clear k0
        try clear k1
        generalize (w2.setCell ⟨wr.heap.size, 0, none⟩ (.int .u64 h2)).setCell ⟨wr.heap.size, 1, none⟩ (.int .u64 l2) = W at s0 s1 f0 f1 BW hsW hTW ⊢
        generalize wr.heap.size = T at s0 s1 f0 f1 hTW hTr hTg hgT ⊢
        go_wp2_with fail
        refine (wAdd _ _ _ _ _ b1 b2 b3 b4 (by omega) (by omega) hc0 hc1).mono ?_
        rintro e w3 ⟨h3, l3, rfl, d1, d2, d3, d4, d5, hb3⟩
        have B3 : Hid (Below wr.heap.size wr w3) := BW.out.trans (hb3.mono hsW)
        have F : Hid (l3 + 18446744073709551616 * h3 = y * t + z + cy) := wid3 y t z cy h1 l1 h2 l2 h3 l3 y0 y1 t0 t1 z0 z1 hc0 hc1 a1 a3 b1 b3 d1 d3 A5.out B5.out d5
        have u0 : w3.cell? ⟨T, 0, none⟩ = some (.int .u64 h2) := (hb3.cell (p := ⟨T, 0, none⟩) hTW).trans s0
        have u1 : w3.cell? ⟨T, 1, none⟩ = some (.int .u64 l2) := (hb3.cell (p := ⟨T, 1, none⟩) hTW).trans s1
        have v0 : w3.frozen? ⟨T, 0, none⟩ = false := (hb3.frozen (p := ⟨T, 0, none⟩) hTW).trans f0
        have v1 : w3.frozen? ⟨T, 1, none⟩ = false := (hb3.frozen (p := ⟨T, 1, none⟩) hTW).trans f1
        have R3 : Hid (RowU w3 g zs) := A.out.below B3.out
        have q4 : w3.cell? ⟨g, k + i, none⟩ = some (.int .u64 z) := (B3.out.cell (p := ⟨g, k + i, none⟩) hgr).trans q1
        have q5 : w3.frozen? ⟨g, k + i, none⟩ = false := (B3.out.frozen (p := ⟨g, k + i, none⟩) hgr).trans q3
        have hs3 := B3.out.size
        clear s0 s1 f0 f1 hb3 d5 BW hTW hsW
        go_wp2_with fail
        have x0 : ((w3.setCell ⟨T, 0, none⟩ (.int .u64 h3)).setCell ⟨T, 1, none⟩ (.int .u64 l3)).cell? ⟨T, 0, none⟩ = some (.int .u64 h3) := by simp [cell_some, cell_if, u0, u1]
        have x1 : ((w3.setCell ⟨T, 0, none⟩ (.int .u64 h3)).setCell ⟨T, 1, none⟩ (.int .u64 l3)).cell? ⟨T, 1, none⟩ = some (.int .u64 l3) := by simp [cell_some, cell_if, u0, u1]
        have x2 : ((w3.setCell ⟨T, 0, none⟩ (.int .u64 h3)).setCell ⟨T, 1, none⟩ (.int .u64 l3)).cell? ⟨g, k + i, none⟩ = some (.int .u64 z) := keep_other hTg (keep_other hTg q4)
        have x3 : ((w3.setCell ⟨T, 0, none⟩ (.int .u64 h3)).setCell ⟨T, 1, none⟩ (.int .u64 l3)).frozen? ⟨g, k + i, none⟩ = false := by simp [go_sem, q5]
        have x4 : Hid (RowU ((w3.setCell ⟨T, 0, none⟩ (.int .u64 h3)).setCell ⟨T, 1, none⟩ (.int .u64 l3)) g zs) := (R3.out.setN hTg _).setN hTg _
        have x5 : Hid (Beside g w ((w3.setCell ⟨T, 0, none⟩ (.int .u64 h3)).setCell ⟨T, 1, none⟩ (.int .u64 l3))) := ((E.out.ofBelow B3.out).setN (by simp; omega) _).setN (by simp; omega) _
        generalize (w3.setCell ⟨T, 0, none⟩ (.int .u64 h3)).setCell ⟨T, 1, none⟩ (.int .u64 l3) = w5 at x0 x1 x2 x3 x4 x5 ⊢
        clear u0 u1 v0 v1 R3 q4 q5 A E
        go_region_held3 (fun w' => w'.cell? ⟨T, 0, none⟩ = some (.int .u64 h3) ∧ w'.cell? ⟨T, 1, none⟩ = some (.int .u64 l3)) (refine ⟨?_, ?_⟩ <;> (repeat (first | exact x0 | exact x1 | (refine keep_drew ?_) | (refine keep_other hgT ?_)))) (fail)
        all_goals
          go_wp2
          go_roundw
          case rel =>
            refine ⟨h3, i + 1, zs.set (k + i) l3, rfl, by go_num, by omega, d1, d2, x4.out.set _ _, ?_, C.out.set _ _ d3 d4, ?_, ?_, ?_⟩
            · show _ = _
              rw [List.length_set]; exact B.out
            · show _ = _
              have e1 := dv_set zs (k + i) l3 (by have := B.out; have := HM.out; omega)
              rw [← HZ.out] at e1
              have e2 := times_word _ z y t cy l3 h3 (pw (k + i)) _ _ F.out e1 D.out
              rw [← Nat.add_assoc, pw_succ, e2, dv_take_succ ys i (by have := HN.out; omega), ← HY.out, pw_add]
              grind
            · intro j hj
              rw [List.getElem?_set_ne (by omega)]
              exact G.out j hj
            · first | exact (x5.out.drew).setG _ _ | exact (x5.out.setG _ _).drew | exact x5.out.setG _ _
          case measure => simp [intOf]; omega
    · obtain rfl : i = n := by omega
      go_wp2
      go_ret
      refine ⟨zs, cy, rfl, hc0, hc1, A.out, B.out, C.out, ?_, G.out, E.out⟩
      have := D.out
      rw [HN.out, List.take_length] at this
      rw [HN.out]
      exact this
end Go.Proofs.YtpakpgjbgehhjaaGreat

/-
  What product and Mul of package dyad return. Conditions: lists are short, places small.
-/
namespace Go.Proofs.YtpakpgjbgehhjaaGreat
open Go.RowKit
set_option linter.unusedVariables false
set_option linter.unusedSimpArgs false

theorem dAddTimes0 (v : Value) (t : Int) (n : Nat) (w : World) (hn : n = 0) : Calls Tryz.prog 67 #[v, .slice none n 0, .int .u64 t] w fun e w' => e = .returned (.int .u64 0) ∧ w' = w := by
  subst hn
  go_enter Tryz.func67, Tryz.ntmps67
  go_wp2
  go_loop [7, 14] (fun cv iv => cv = .int .u64 0 ∧ iv = .int .i64 0) (fun _ _ => 0)
  case atStart => exact ⟨rfl, rfl⟩
  case round =>
    obtain ⟨rfl, rfl⟩ := hrel
    go_wp2
    go_ret
    exact ⟨rfl, rfl⟩
theorem prod_word (D d d' x Y cy p P : Int) (h1 : d + cy * P = D + p * (x * Y)) (h2 : d' = d + (cy - 0) * P) : d' = D + p * (x * Y) := by
  rw [h2, ← h1]
  grind
theorem prod_lt (i n : Nat) (xs ys : List Int) (hx : InW xs) (hy : InW ys) (hi : i ≤ xs.length) (hn : n = ys.length) : dv (xs.take i) * dv ys < pw (i + n) := by
  have a := dv_lt (hx.take i)
  rw [List.length_take, Nat.min_eq_left hi] at a
  have b := dv_lt hy
  rw [← hn] at b
  have c := dv_nonneg (hx.take i)
  have d := dv_nonneg hy
  rw [pw_add]
  rcases Int.lt_or_le 0 (dv ys) with h | h
  · exact Int.lt_trans (Int.mul_lt_mul_of_pos_right a h) (Int.mul_lt_mul_of_pos_left b (pw_pos i))
  · rw [show dv ys = 0 by omega, Int.mul_zero]
    exact Int.mul_pos (pw_pos i) (pw_pos n)
set_option maxHeartbeats 4000000 in
theorem dProduct (sa sb : Value) (xs ys : List Int) (w : World) (B : Nat) (ha : SeesW w B sa xs) (hb : SeesW w B sb ys) (hx : InW xs) (hy : InW ys) (lx : xs.length ≤ 200000) (ly : ys.length ≤ 200000) :
    Calls Tryz.prog 39 #[sa, sb] w fun e w' => ∃ zs, e = .returned (.slice (some ⟨w.heap.size, 0, none⟩) zs.length zs.length) ∧ zs.length = xs.length + ys.length ∧ RowU w' w.heap.size zs ∧ InW zs ∧ dv zs = dv xs * dv ys ∧ Below w.heap.size w w' := by
  have S1 : Hid (SeesW w B sa xs) := ha
  have S2 : Hid (SeesW w B sb ys) := hb
  obtain ⟨A1, c1, rfl⟩ := ha.len
  obtain ⟨A2, c2, rfl⟩ := hb.len
  obtain ⟨n1, hn1⟩ : ∃ n, n = xs.length := ⟨_, rfl⟩
  obtain ⟨n2, hn2⟩ : ∃ n, n = ys.length := ⟨_, rfl⟩
  have N1 : Hid (_ = _) := hn1
  have N2 : Hid (_ = _) := hn2
  have mk := mk_run (n1 + n2) (by omega)
  rw [show (((n1 + n2 : Nat) : Int)) = (n1 : Int) + (n2 : Int) by omega] at mk
  rw [← hn1] at S1 lx ⊢
  rw [← hn2] at S2 ly ⊢
  clear hn1 hn2 ha hb
  obtain ⟨Z, hZ⟩ : ∃ Z, Z = (List.replicate (n1 + n2) (0 : Int)).map (Value.int .u64) := ⟨_, rfl⟩
  have HZ : Hid (_ = _) := hZ
  rw [← hZ] at mk
  clear hZ
  go_enter Tryz.func39, Tryz.ntmps39
  go_wp2
  go_loopw [16] (fun iv wr => ∃ (i : Nat) (zs : List Int), iv = .int .i64 (i : Int) ∧ i ≤ n1 ∧ Hid (RowU wr w.heap.size zs) ∧ Hid (zs.length = n1 + n2) ∧ Hid (InW zs) ∧ Hid (dv zs = dv (xs.take i) * dv ys) ∧ Hid (Below w.heap.size w wr)) (fun iv _ => n1 - (intOf iv).toNat)
  case atStart =>
    refine ⟨0, List.replicate (n1 + n2) 0, rfl, Nat.zero_le _, ?_, by show _ = _; simp, InW.zeros _, by show _ = _; rw [dv_zeros, List.take_zero, dv_nil, Int.zero_mul], (Below.refl _ _).alloc (Nat.le_refl _) _⟩
    show _ = _
    rw [← HZ.out]
    exact heap_alloc_new w _
  case round =>
    obtain ⟨i, zs, rfl, hi, R, L, I, D, E⟩ := hrel
    by_cases hlt : i < n1
    · rcases S1.out with ⟨_, hnil⟩ | ⟨⟨ba, oa, ca, eA, a1, a2, a3, a4⟩, _⟩
      · exact absurd hlt (by rw [N1.out, hnil]; simp)
      simp at eA
      obtain ⟨rfl, eL, rfl⟩ := eA
      clear eL
      unfold maxLen at a3
      have qa := (E.out.cell (p := ⟨ba, oa + i, none⟩) a1).trans (a4 i (by have := N1.out; omega))
      rw [← N1.out] at a2
      have x0 := (InW.get hx i).1
      have x1 := (InW.get hx i).2
      have DT : Hid (dv (xs.take (i + 1)) = dv (xs.take i) + xs[i]?.getD 0 * pw i) := dv_take_succ xs i (by have := N1.out; omega)
      obtain ⟨x, hxx⟩ : ∃ x, x = xs[i]?.getD 0 := ⟨_, rfl⟩
      rw [← hxx] at qa x0 x1 DT
      clear hxx a4
      by_cases hx0 : x = 0
      · subst hx0
        go_wp2
        go_roundw
        case rel => exact ⟨i + 1, zs, by go_num, by omega, R, L, I, by show _ = _; rw [DT.out, Int.zero_mul, Int.add_zero]; exact D.out, E⟩
        case measure => simp [intOf]; omega
      · have i1 : (0 : Int) ≤ (i : Int) := by omega
        have i2 : (i : Int) + (n2 : Int) ≤ (n1 : Int) + (n2 : Int) := by omega
        have i3 : ¬ n1 + n2 = i := by omega
        have i4 : (i : Int) ≤ (i : Int) + (n2 : Int) := by omega
        rcases S2.out with ⟨eB, hnil⟩ | ⟨⟨bb, ob, cb, eB, b1, b2, b3, b4⟩, _⟩
        · simp at eB
          obtain ⟨rfl, hn20, rfl⟩ := eB
          have z0 : Hid (n2 = 0) := hn20
          have DY : Hid (dv ys = 0) := by rw [hnil]; rfl
          have hc := R.out.cell (i + n2) (by rw [L.out]; omega)
          have hf := R.out.frozen (i + n2)
          clear hnil hn20
          go_wp2_with (go_at_call 67; refine (dAddTimes0 _ _ _ _ z0.out).mono ?_; rintro e w' ⟨rfl, rfl⟩)
          go_roundw
          case rel =>
            refine ⟨i + 1, zs.set (i + n2) 0, by go_num, by omega, R.out.set _ _, by show _ = _; rw [List.length_set]; exact L.out, I.out.set _ _ (by omega) (by omega), ?_, E.out.setCell (by simp) _⟩
            show _ = _
            have d := D.out
            rw [DY.out, Int.mul_zero] at d
            have z := dv_high zs I.out 0 (i + n2) (by rw [d, pw_zero]; omega) (Nat.zero_le _)
            rw [dv_set zs (i + n2) 0 (by rw [L.out]; omega), z, d, DY.out, Int.mul_zero]
            omega
          case measure => simp [intOf]; omega
        · simp at eB
          obtain ⟨rfl, eL, rfl⟩ := eB
          clear eL
          unfold maxLen at b3
          rw [← N2.out] at b2
          have CB : Hid (∀ i, i < ys.length → wr.cell? ⟨bb, ob + i, none⟩ = some (.int .u64 (ys[i]?.getD 0))) := fun j hj => (E.out.cell (p := ⟨bb, ob + j, none⟩) b1).trans (b4 j hj)
          have hsz := E.out.size
          have hbne : bb ≠ w.heap.size := by omega
          clear b4
          go_wp2_with fail
          rw [N2.out]
          refine (dAddTimes w.heap.size i (n1 + ys.length - i) bb ob c2 zs ys x wr R.out I.out (by rw [L.out, ← N2.out]; omega) (by rw [L.out]; omega) (by rw [← N2.out]; omega) (by rw [← N2.out]; omega) hy hbne (by omega) (by rw [← N2.out]; omega) (by omega) x0 x1 CB.out).mono ?_
          rintro e w1 ⟨us, cy, rfl, cy0, cy1, R1, L1, I1, D1, G1, E1⟩
          rw [← N2.out] at D1 G1 ⊢
          rw [L.out] at L1
          have hc := R1.cell (i + n2) (by rw [L1]; omega)
          have hf := R1.frozen (i + n2)
          have RU : Hid (RowU _ _ _) := R1
          have LU : Hid (_ = _) := L1
          have IU : Hid (InW _) := I1
          have DU : Hid (_ = _) := D1
          have GU : Hid (us[i + n2]?.getD 0 = 0) := by
            show _ = _
            rw [G1 (i + n2) (Nat.le_refl _)]
            exact dv_high zs I.out (i + n2) (i + n2) (by rw [D.out]; exact prod_lt i n2 xs ys hx hy (by have := N1.out; omega) N2.out) (Nat.le_refl _)
          have EU : Hid (Below w.heap.size w w1) := E.out.trans (E1.below (Nat.le_refl _) hsz)
          clear R1 L1 I1 D1 G1 E1
          go_wp2
          go_roundw
          case rel =>
            refine ⟨i + 1, us.set (i + n2) cy, by go_num, by omega, RU.out.set _ _, by show _ = _; rw [List.length_set]; exact LU.out, IU.out.set _ _ cy0 cy1, ?_, EU.out.setCell (by simp) _⟩
            show _ = _
            have e1 := dv_set us (i + n2) cy (by rw [LU.out]; omega)
            rw [GU.out] at e1
            rw [prod_word _ _ _ _ _ _ _ _ DU.out e1, DT.out, D.out]
            grind
          case measure => simp [intOf]; omega
    · obtain rfl : i = n1 := by omega
      go_wp2
      go_ret
      refine ⟨zs, ret_eq (by rw [L.out]; rfl), L.out, R.out, I.out, ?_, E.out⟩
      have := D.out
      rw [N1.out, List.take_length] at this
      exact this
end Go.Proofs.YtpakpgjbgehhjaaGreat

/-
  What Mul of package dyad returns: a product. Conditions: lists are short, places small.
-/
namespace Go.Proofs.YtpakpgjbgehhjaaGreat
open Go.RowKit
set_option linter.unusedVariables false
set_option linter.unusedSimpArgs false

theorem mul_math (na nb : Bool) (P Q p q : Int) (K1 K2 : Nat) (h1 : -(K1 : Int) ≤ p) (h2 : -(K2 : Int) ≤ q) :
    sg (na != nb) * (P * Q * pw (p + q + (K1 + K2 : Nat)).toNat) = sg na * (P * pw (p + K1).toNat) * (sg nb * (Q * pw (q + K2).toNat)) := by
  rw [sg_mul, show (p + q + ((K1 + K2 : Nat) : Int)).toNat = (p + K1).toNat + (q + K2).toNat by omega, pw_add]
  grind
set_option maxHeartbeats 4000000 in
theorem dMul (a b : Value) (w : World) (B K1 K2 : Nat) (L1 L2 X Y : Int) (ha : Tell w B a K1 L1 X) (hb : Tell w B b K2 L2 Y) (hk1 : K1 ≤ 90000) (hL1 : L1 ≤ 90000) (hk2 : K2 ≤ 90000) (hL2 : L2 ≤ 90000) (h01 : 0 ≤ L1) (h02 : 0 ≤ L2) :
    Calls Tryz.prog 12 #[a, b] w fun e w' => ∃ r, e = .returned r ∧ Tell w' w.heap.size r (K1 + K2) (L1 + L2) (X * Y) ∧ Below w.heap.size w w' := by
  obtain ⟨na, xs, p, ⟨sa, rfl, a1, a9⟩, a2, a3, a4, a5⟩ := ha
  obtain ⟨nb, ys, q, ⟨sb, rfl, b1, b9⟩, b2, b3, b4, b5⟩ := hb
  have la := tell_len a3 a4 (by omega) (by omega)
  have lb := tell_len b3 b4 (by omega) (by omega)
  have S1 : Hid (SeesW w B sa xs) := a1
  have S2 : Hid (SeesW w B sb ys) := b1
  obtain ⟨A1, c1, rfl⟩ := a1.len
  obtain ⟨A2, c2, rfl⟩ := b1.len
  have I1 : Hid (InW xs) := a2.1
  have I2 : Hid (InW ys) := b2.1
  have MM : Hid (sg (na != nb) * (dv xs * dv ys * pw (p + q + (K1 + K2 : Nat)).toNat) = X * Y) := by rw [a5, b5]; exact mul_math na nb _ _ p q K1 K2 a3 b3
  obtain ⟨l1, l2, l3⟩ := la
  obtain ⟨m1, m2, m3⟩ := lb
  have LX : Hid (_ ≤ _) := l1
  have LY : Hid (_ ≤ _) := m1
  obtain ⟨n1, hn1⟩ : ∃ n, n = xs.length := ⟨_, rfl⟩
  obtain ⟨n2, hn2⟩ : ∃ n, n = ys.length := ⟨_, rfl⟩
  have N1 : Hid (_ = _) := hn1
  have N2 : Hid (_ = _) := hn2
  rw [← hn1] at S1 l1 a4 ⊢
  rw [← hn2] at S2 m1 b4 ⊢
  have A4 : Hid (_ ≤ _) := a4
  have B4 : Hid (_ ≤ _) := b4
  have P3 : Hid (_ ≤ _) := a3
  have Q3 : Hid (_ ≤ _) := b3
  obtain ⟨nn, hnn⟩ : ∃ x, x = (na != nb) := ⟨_, rfl⟩
  have hnn' : (!(na == nb)) = nn := hnn.symm
  rw [← hnn] at MM
  clear a1 a2 a4 a5 b1 b2 b4 b5 a9 b9 hn1 hn2 a3 b3 hnn
  go_enter Tryz.func12, Tryz.ntmps12
  go_wp2_with fail
  go_region_held3 (fun w' => w'.cell? ⟨w.heap.size, 0, none⟩ = some (.bool na) ∧ w'.cell? ⟨w.heap.size, 1, none⟩ = some (.slice A1 n1 c1) ∧ w'.cell? ⟨w.heap.size, 2, none⟩ = some (.int .i64 p) ∧ w'.cell? ⟨w.heap.size, 3, none⟩ = some (.slice none 0 0) ∧ w'.cell? ⟨w.heap.size + 1, 0, none⟩ = some (.bool nb) ∧ w'.cell? ⟨w.heap.size + 1, 1, none⟩ = some (.slice A2 n2 c2) ∧ w'.cell? ⟨w.heap.size + 1, 2, none⟩ = some (.int .i64 q) ∧ w'.cell? ⟨w.heap.size + 1, 3, none⟩ = some (.slice none 0 0)) (simp [go_sem, *]) (first | (go_at_call 39; refine (dProduct _ _ xs ys _ B (S1.out.below (by repeat (first | (refine Below.drew ?_) | (refine Below.alloc ?_ (by first | omega | (simp <;> omega)) _) | (refine Below.setCell ?_ (by first | omega | (simp <;> omega)) _) | exact Below.refl _ _))) (S2.out.below (by repeat (first | (refine Below.drew ?_) | (refine Below.alloc ?_ (by first | omega | (simp <;> omega)) _) | (refine Below.setCell ?_ (by first | omega | (simp <;> omega)) _) | exact Below.refl _ _))) I1.out I2.out LX.out LY.out).mono ?_; rintro e w1 ⟨zs, rfl, Lz, Rz, Iz, Dz, hb1⟩; obtain ⟨hc1, hf1⟩ := bcell hb1; have hz1 : w.heap.size + 1 + 1 < w1.heap.size := (by have := hb1.size; simp at this; omega); have hy1 : w.heap.size + 1 < w1.heap.size := (by omega); have hv1 : w.heap.size < w1.heap.size := (by omega); have hx1 : Below w.heap.size w w1 := (Below.trans (by repeat (first | (refine Below.drew ?_) | (refine Below.alloc ?_ (by first | omega | (simp <;> omega)) _) | (refine Below.setCell ?_ (by first | omega | (simp <;> omega)) _) | exact Below.refl _ _)) (hb1.mono (by first | omega | (simp <;> omega)))); have LZ : Hid (zs.length = xs.length + ys.length) := Lz; have IZ : Hid (InW _) := Iz; have DZ : Hid (_ = _) := Dz; simp at Rz; have RZ : Hid (RowU _ _ _) := Rz; clear hb1 Lz Iz Dz Rz) | (go_at_call 40; refine (dPlus _ _ _ (by omega) (by omega) (by omega) (by omega)).mono ?_; rintro e w2 ⟨rfl, hb2⟩; obtain ⟨hc2, hf2⟩ := bcell hb2; have hz2 : w.heap.size + 1 + 1 < w2.heap.size := (by have := hb2.size; omega); have hy2 : w.heap.size + 1 < w2.heap.size := (by omega); have hv2 : w.heap.size < w2.heap.size := (by omega); have hx2 : Below w.heap.size w w2 := (hx1.trans (hb2.mono (by omega))); have RZ2 : Hid (RowU w2 _ _) := RZ.out.below hb2; clear hb2) | (go_at_call 38; refine (dTrim _ _ 0 _ (w.heap.size + 3) zs _ _ (RZ2.out.sees_all _ (Nat.le_refl _) (by have := LX.out; have := LY.out; have := LZ.out; unfold maxLen; omega)) IZ.out (by have := LX.out; have := LY.out; have := LZ.out; omega) (by omega) (by omega) (by omega)).mono ?_; rintro e w3 ⟨r, rfl, ht, hb3⟩; obtain ⟨neg', a', n', c', p', rfl⟩ := (ht 300000 1000000 (by omega) (by have := LX.out; have := LY.out; have := LZ.out; omega) (by omega)).form; have T := (ht (K1 + K2) (L1 + L2) (by have := P3.out; have := Q3.out; omega) (by rw [LZ.out, ← N1.out, ← N2.out]; have := A4.out; have := B4.out; omega) (by omega)).eq (show _ = X * Y by rw [DZ.out]; exact MM.out); have TT : Hid (Tell _ _ _ _ _ _) := T; obtain ⟨hc3, hf3⟩ := bcell hb3; have hz3 : w.heap.size + 1 + 1 < w3.heap.size := (by have := hb3.size; omega); have hy3 : w.heap.size + 1 < w3.heap.size := (by omega); have hv3 : w.heap.size < w3.heap.size := (by omega); have hx3 : Below w.heap.size w w3 := (hx2.trans (hb3.mono (by omega))); clear hb3 ht T))
  go_wp2
  refine bodyPost_ret (v := .agg #[.bool neg', .slice a' n' c', .int .i64 p', .slice none 0 0]) (by simp [results, Tryz.results12, go_sem, *]) rfl ⟨_, rfl, ?_, (by repeat (first | exact hx3 | (refine Below.drew ?_) | (refine Below.alloc ?_ (by first | omega | (simp <;> omega)) _) | (refine Below.setCell ?_ (by first | omega | (simp <;> omega)) _) | exact Below.refl _ _))⟩
  refine Tell.base (b := w.heap.size + 3) ?_ (by omega)
  repeat (first | exact TT.out | (refine Tell.set ?_ (by simp) _))
end Go.Proofs.YtpakpgjbgehhjaaGreat

/-
  What lead of package dyad returns: the highest bits of a number, their power, and whether there is more. Conditions: lists are short, places small.
-/
namespace Go.Proofs.YtpakpgjbgehhjaaGreat
open Go.RowKit
set_option linter.unusedVariables false
set_option linter.unusedSimpArgs false

end Go.Proofs.YtpakpgjbgehhjaaGreat

/-
  What Near and Up of package dyad return: the nearest pattern and its flags; the least one that isn't beneath. Conditions: places are small.
-/
namespace Go.Proofs.YtpakpgjbgehhjaaGreat
open Go.RowKit
set_option linter.unusedVariables false
set_option linter.unusedSimpArgs false

end Go.Proofs.YtpakpgjbgehhjaaGreat

/-
  What Up of package dyad returns where the nearest pattern is beneath; what of and head of the statements of layer 7 return. Conditions: places are small.
-/
namespace Go.Proofs.YtpakpgjbgehhjaaGreat
open Go.RowKit
set_option linter.unusedVariables false
set_option linter.unusedSimpArgs false

theorem box_keep {Wa W : World} (h : Below Wa.heap.size Wa W) {b : Nat} {v0 v1 v2 v3 : Value} (lb : b < Wa.heap.size) (K : Wa.cell? ⟨b, 0, none⟩ = some v0 ∧ Wa.cell? ⟨b, 1, none⟩ = some v1 ∧ Wa.cell? ⟨b, 2, none⟩ = some v2 ∧ Wa.cell? ⟨b, 3, none⟩ = some v3) : W.cell? ⟨b, 0, none⟩ = some v0 ∧ W.cell? ⟨b, 1, none⟩ = some v1 ∧ W.cell? ⟨b, 2, none⟩ = some v2 ∧ W.cell? ⟨b, 3, none⟩ = some v3 :=
  ⟨(h.cell (p := ⟨b, 0, none⟩) lb).trans K.1, (h.cell (p := ⟨b, 1, none⟩) lb).trans K.2.1, (h.cell (p := ⟨b, 2, none⟩) lb).trans K.2.2.1, (h.cell (p := ⟨b, 3, none⟩) lb).trans K.2.2.2⟩
theorem tell_base {w : World} {B : Nat} {v : Value} {k : Nat} {L X : Int} (h : Tell w B v k L X) : ∃ B', B' = B ∧ Tell w B' v k L X := ⟨B, rfl, h⟩
theorem cell4 {w : World} {b : Nat} {u0 u1 u2 u3 : Value} (h0 : (w.cell? ⟨b, 0, none⟩).isSome = true) (h1 : (w.cell? ⟨b, 1, none⟩).isSome = true) (h2 : (w.cell? ⟨b, 2, none⟩).isSome = true) (h3 : (w.cell? ⟨b, 3, none⟩).isSome = true) :
    let W := (((w.setCell ⟨b, 0, none⟩ u0).setCell ⟨b, 1, none⟩ u1).setCell ⟨b, 2, none⟩ u2).setCell ⟨b, 3, none⟩ u3
    W.cell? ⟨b, 0, none⟩ = some u0 ∧ W.cell? ⟨b, 1, none⟩ = some u1 ∧ W.cell? ⟨b, 2, none⟩ = some u2 ∧ W.cell? ⟨b, 3, none⟩ = some u3 := by
  refine ⟨?_, ?_, ?_, ?_⟩ <;> simp [cell_some, cell_if, h0, h1, h2, h3]
/-- A count of calls. -/
def Cnt (n : Nat) : Prop := n = n
theorem Cnt.mk (n : Nat) : Cnt n := rfl
end Go.Proofs.YtpakpgjbgehhjaaGreat

/-
  A variable that holds a number of package dyad, written again and again: its four cells. No conditions.
-/
namespace Go.Proofs.YtpakpgjbgehhjaaGreat
open Go.RowKit
set_option linter.unusedVariables false
set_option linter.unusedSimpArgs false

/-- Block b holds these four cells, and may be written. -/
def BoxF (w : World) (b : Nat) (v0 v1 v2 v3 : Value) : Prop :=
  (w.cell? ⟨b, 0, none⟩ = some v0 ∧ w.cell? ⟨b, 1, none⟩ = some v1 ∧ w.cell? ⟨b, 2, none⟩ = some v2 ∧ w.cell? ⟨b, 3, none⟩ = some v3) ∧ (w.frozen? ⟨b, 0, none⟩ = false ∧ w.frozen? ⟨b, 1, none⟩ = false ∧ w.frozen? ⟨b, 2, none⟩ = false ∧ w.frozen? ⟨b, 3, none⟩ = false) ∧ b < w.heap.size
theorem BoxF.below {w w' : World} {b : Nat} {v0 v1 v2 v3 : Value} (h : BoxF w b v0 v1 v2 v3) (hb : Below w.heap.size w w') : BoxF w' b v0 v1 v2 v3 := by
  obtain ⟨K, ⟨f0, f1, f2, f3⟩, l⟩ := h
  exact ⟨box_keep hb l K, ⟨(hb.frozen (p := ⟨b, 0, none⟩) l).trans f0, (hb.frozen (p := ⟨b, 1, none⟩) l).trans f1, (hb.frozen (p := ⟨b, 2, none⟩) l).trans f2, (hb.frozen (p := ⟨b, 3, none⟩) l).trans f3⟩, Nat.lt_of_lt_of_le l hb.size⟩
theorem BoxF.put {w : World} {b : Nat} {v0 v1 v2 v3 : Value} (h : BoxF w b v0 v1 v2 v3) (u0 u1 u2 u3 : Value) : BoxF ((((w.setCell ⟨b, 0, none⟩ u0).setCell ⟨b, 1, none⟩ u1).setCell ⟨b, 2, none⟩ u2).setCell ⟨b, 3, none⟩ u3) b u0 u1 u2 u3 := by
  obtain ⟨⟨k0, k1, k2, k3⟩, ⟨f0, f1, f2, f3⟩, l⟩ := h
  refine ⟨cell4 (by rw [k0]; rfl) (by rw [k1]; rfl) (by rw [k2]; rfl) (by rw [k3]; rfl), ⟨?_, ?_, ?_, ?_⟩, by simp [World.setCell]; exact l⟩
  · simp [go_sem, f0]
  · simp [go_sem, f1]
  · simp [go_sem, f2]
  · simp [go_sem, f3]
theorem BoxF.made (w : World) (v0 v1 v2 v3 : Value) (t : TypeId) : BoxF (w.alloc (.cells #[v0, v1, v2, v3] t)) w.heap.size v0 v1 v2 v3 := by
  refine ⟨⟨?_, ?_, ?_, ?_⟩, ⟨?_, ?_, ?_, ?_⟩, by simp⟩ <;> simp [go_sem]
theorem BoxF.other {w : World} {b : Nat} {v0 v1 v2 v3 : Value} (h : BoxF w b v0 v1 v2 v3) {p : Addr} (hp : p.block ≠ b) (u : Value) : BoxF (w.setCell p u) b v0 v1 v2 v3 := by
  obtain ⟨⟨k0, k1, k2, k3⟩, ⟨f0, f1, f2, f3⟩, l⟩ := h
  refine ⟨⟨keep_other hp k0, keep_other hp k1, keep_other hp k2, keep_other hp k3⟩, ⟨?_, ?_, ?_, ?_⟩, by simp [World.setCell]; exact l⟩
  · simp [go_sem, f0]
  · simp [go_sem, f1]
  · simp [go_sem, f2]
  · simp [go_sem, f3]
theorem Tell.put {w : World} {B b : Nat} {v : Value} {k : Nat} {L X : Int} (h : Tell w B v k L X) (hb : b < B) (u0 u1 u2 u3 : Value) : Tell ((((w.setCell ⟨b, 0, none⟩ u0).setCell ⟨b, 1, none⟩ u1).setCell ⟨b, 2, none⟩ u2).setCell ⟨b, 3, none⟩ u3) B v k L X :=
  (((h.set (p := ⟨b, 0, none⟩) hb u0).set (p := ⟨b, 1, none⟩) hb u1).set (p := ⟨b, 2, none⟩) hb u2).set (p := ⟨b, 3, none⟩) hb u3
end Go.Proofs.YtpakpgjbgehhjaaGreat
