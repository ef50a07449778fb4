/-
  What addTimes and product of package dyad do: some words times a word, added to others; the words of a product. Conditions: lists are short.
-/
import Derived.Test.YtgpgmnmifhkmbaaNumM
import Derived.Test.YtgpgmnmifhkmbaaWideC
import Derived.Test.YtgpgmnmifhkmbaaAddC
namespace Go.Proofs.Ytgpgmnmifhkmbaa
open Go.RowKit
set_option linter.unusedVariables false
set_option linter.unusedSimpArgs false

theorem wid3 (y t z c h1 l1 h2 l2 h3 l3 : Int) (y0 : 0 ≤ y) (y1 : y < 18446744073709551616) (t0 : 0 ≤ t) (t1 : t < 18446744073709551616) (z0 : 0 ≤ z) (z1 : z < 18446744073709551616) (c0 : 0 ≤ c) (c1 : c < 18446744073709551616)
    (hh1 : 0 ≤ h1) (hl1 : 0 ≤ l1) (hh2 : 0 ≤ h2) (hl2 : 0 ≤ l2) (hh3 : 0 ≤ h3) (hl3 : 0 ≤ l3) (e1 : wid h1 l1 = y.toNat * t.toNat) (e2 : wid h2 l2 = (wid h1 l1 + wid 0 z) % 2 ^ 128) (e3 : wid h3 l3 = (wid h2 l2 + wid 0 c) % 2 ^ 128) : l3 + 18446744073709551616 * h3 = y * t + z + c := by
  obtain ⟨Y, rfl⟩ := Int.eq_ofNat_of_zero_le y0
  obtain ⟨T, rfl⟩ := Int.eq_ofNat_of_zero_le t0
  rw [Int.toNat_natCast, Int.toNat_natCast] at e1
  have b : Y * T ≤ 18446744073709551615 * 18446744073709551615 := Nat.mul_le_mul (by omega) (by omega)
  rw [e1] at e2
  have f : wid 0 z = z.toNat := by unfold wid; omega
  have g : wid 0 c = c.toNat := by unfold wid; omega
  rw [f, Nat.mod_eq_of_lt (by omega)] at e2
  rw [e2, g, Nat.mod_eq_of_lt (by omega)] at e3
  unfold wid at e3
  rw [← Int.natCast_mul]
  omega
theorem times_word (T z y t c s c' p : Int) (d d' : Int) (hs : s + 18446744073709551616 * c' = y * t + z + c) (hd : d' = d + (s - z) * p) (hT : d + c * p = T) : d' + c' * (p * 18446744073709551616) = T + t * y * p := by
  subst hd; subst hT
  have : s - z = y * t + c - 18446744073709551616 * c' := by omega
  rw [this]
  grind
/-- Nothing that was there has turned but block g. -/
structure Beside (g : Nat) (w w' : World) : Prop where
  os : w'.os = w.os
  tape : w'.tape = w.tape
  output : w'.output = w.output
  size : w.heap.size ≤ w'.heap.size
  block : ∀ k, k ≠ g → k < w.heap.size → w'.heap[k]? = w.heap[k]?
theorem Beside.refl (g : Nat) (w : World) : Beside g w w := ⟨rfl, rfl, rfl, Nat.le_refl _, fun _ _ _ => rfl⟩
theorem Beside.trans {g : Nat} {a b c : World} (h : Beside g a b) (k : Beside g b c) : Beside g a c :=
  ⟨k.os.trans h.os, k.tape.trans h.tape, k.output.trans h.output, Nat.le_trans h.size k.size, fun i hi hl => (k.block i hi (Nat.lt_of_lt_of_le hl h.size)).trans (h.block i hi hl)⟩
theorem Beside.ofBelow {g : Nat} {a w w' : World} (h : Beside g a w) (hb : Below w.heap.size w w') : Beside g a w' := h.trans ⟨hb.os, hb.tape, hb.output, hb.size, fun i _ hl => hb.block i hl⟩
theorem Beside.alloc {g : Nat} {a w : World} (h : Beside g a w) (o : Obj) : Beside g a (w.alloc o) := h.ofBelow ((Below.refl _ _).alloc (Nat.le_refl _) _)
theorem Beside.drew {g : Nat} {a w : World} (h : Beside g a w) : Beside g a w.drew := ⟨h.os, h.tape, h.output, h.size, h.block⟩
theorem Beside.setG {g : Nat} {a w : World} (h : Beside g a w) (i : Nat) (u : Value) : Beside g a (w.setCell ⟨g, i, none⟩ u) :=
  h.trans ⟨rfl, rfl, rfl, by simp [World.setCell], fun k hk _ => Below.heap_setCell _ _ _ _ hk⟩
theorem Beside.setN {g : Nat} {a w : World} (h : Beside g a w) {p : Addr} (hp : a.heap.size ≤ p.block) (u : Value) : Beside g a (w.setCell p u) :=
  ⟨h.os, h.tape, h.output, by simpa [World.setCell] using h.size, fun k hk hl => (Below.heap_setCell _ _ _ _ (by omega)).trans (h.block k hk hl)⟩
theorem Beside.cell {g : Nat} {w w' : World} (h : Beside g w w') {p : Addr} (hp : p.block ≠ g) (hl : p.block < w.heap.size) : w'.cell? p = w.cell? p := World.cell?_of_block (w := w) (h.block p.block hp hl)
theorem Beside.frozen {g : Nat} {w w' : World} (h : Beside g w w') {p : Addr} (hp : p.block ≠ g) (hl : p.block < w.heap.size) : w'.frozen? p = w.frozen? p := World.frozen?_of_block (w := w) (h.block p.block hp hl)
theorem Beside.below {g B : Nat} {w w' : World} (h : Beside g w w') (hB : B ≤ g) (hw : B ≤ w.heap.size) : Below B w w' := ⟨h.os, h.tape, h.output, h.size, fun k hk => h.block k (by omega) (by omega)⟩
theorem RowU.setN {w : World} {g : Nat} {xs : List Int} (h : RowU w g xs) {p : Addr} (hp : p.block ≠ g) (u : Value) : RowU (w.setCell p u) g xs := by
  unfold RowU
  rw [Below.heap_setCell _ _ _ _ (Ne.symm hp)]
  exact h
theorem keep_alloc {w : World} {q : Addr} {v : Value} {o : Obj} (h : w.cell? q = some v) : (w.alloc o).cell? q = some v :=
  ((Below.refl w.heap.size w).alloc (Nat.le_refl _) o).cell (World.block_lt_of_cell? _ _ h) |>.trans h
theorem keep_other {w : World} {p q : Addr} {u v : Value} (hne : p.block ≠ q.block) (h : w.cell? q = some v) : (w.setCell p u).cell? q = some v := (World.cell?_setCell_far w p q u hne).trans h
theorem drew_heap (w : World) : w.drew.heap = w.heap := rfl
set_option maxHeartbeats 4000000 in
theorem dAddTimes (g k c b o c2 : Nat) (xs ys : List Int) (t : Int) (w : World) (hr : RowU w g xs) (hx : InW xs) (hm : k + ys.length ≤ xs.length) (hl : xs.length ≤ 1000000) (hmc : ys.length ≤ c) (hcm : c ≤ 1000000) (hy : InW ys) (hbg : b ≠ g) (hbw : b < w.heap.size) (hc2 : ys.length ≤ c2) (hcm2 : c2 ≤ 9223372036854775807) (t0 : 0 ≤ t) (t1 : t < 18446744073709551616)
    (hcell : ∀ i, i < ys.length → w.cell? ⟨b, o + i, none⟩ = some (.int .u64 (ys[i]?.getD 0))) :
    Calls Try.prog 71 #[.slice (some ⟨g, k, none⟩) ys.length c, .slice (some ⟨b, o, none⟩) ys.length c2, .int .u64 t] w fun e w' => ∃ (zs : List Int) (cy : Int), e = .returned (.int .u64 cy) ∧ 0 ≤ cy ∧ cy < 18446744073709551616 ∧ RowU w' g zs ∧ zs.length = xs.length ∧ InW zs ∧ dv zs + cy * pw (k + ys.length) = dv xs + pw k * (t * dv ys) ∧ (∀ j, k + ys.length ≤ j → zs[j]?.getD 0 = xs[j]?.getD 0) ∧ Beside g w w' := by
  obtain ⟨n, hn⟩ : ∃ n, n = ys.length := ⟨_, rfl⟩
  have HC : Hid (∀ i, i < ys.length → w.cell? ⟨b, o + i, none⟩ = some (.int .u64 (ys[i]?.getD 0))) := hcell
  have HR : Hid (RowU w g xs) := hr
  have hgw := hr.lt
  clear hcell hr
  rw [← hn] at hm hmc hc2 ⊢
  have HN : Hid (n = ys.length) := hn
  have hn0 : n ≤ 1000000 := by omega
  have HM : Hid (k + n ≤ xs.length) := hm
  clear hn hm
  go_enter Try.func71, Try.ntmps71
  go_wp2
  go_loopw [7, 14] (fun cv iv wr => ∃ (cy : Int) (i : Nat) (zs : List Int), cv = .int .u64 cy ∧ iv = .int .i64 (i : Int) ∧ i ≤ n ∧ 0 ≤ cy ∧ cy < 18446744073709551616 ∧ Hid (RowU wr g zs) ∧ Hid (zs.length = xs.length) ∧ Hid (InW zs) ∧ Hid (dv zs + cy * pw (k + i) = dv xs + pw k * (t * dv (ys.take i))) ∧ Hid (∀ j, k + n ≤ j → zs[j]?.getD 0 = xs[j]?.getD 0) ∧ Hid (Beside g w wr)) (fun _ iv _ => n - (intOf iv).toNat)
  case atStart => exact ⟨0, 0, xs, rfl, rfl, Nat.zero_le _, by omega, by omega, HR.out, rfl, hx, by show _ = _; rw [List.take_zero, dv_nil, Int.mul_zero, Int.mul_zero, Int.zero_mul], fun _ _ => rfl, Beside.refl _ _⟩
  case round =>
    obtain ⟨cy, i, zs, rfl, rfl, hi, hc0, hc1, A, B, C, D, G, E⟩ := hrel
    by_cases hlt : i < n
    · have q1 := A.out.cell (k + i) (by have := B.out; have := HM.out; omega)
      have q2 : wr.cell? ⟨b, o + i, none⟩ = some (.int .u64 (ys[i]?.getD 0)) := (E.out.cell (p := ⟨b, o + i, none⟩) hbg hbw).trans (HC.out i (by have := HN.out; omega))
      have q3 := A.out.frozen (k + i)
      have hgr := A.out.lt
      have hsz := E.out.size
      have z0 := (C.out.get (k + i)).1
      have z1 := (C.out.get (k + i)).2
      have y0 := (InW.get hy i).1
      have y1 := (InW.get hy i).2
      obtain ⟨z, hz⟩ : ∃ z, z = zs[k + i]?.getD 0 := ⟨_, rfl⟩
      obtain ⟨y, hy'⟩ : ∃ y, y = ys[i]?.getD 0 := ⟨_, rfl⟩
      rw [← hz] at q1 z0 z1
      rw [← hy'] at q2 y0 y1
      have HZ : Hid (_ = _) := hz
      have HY : Hid (_ = _) := hy'
      clear hz hy'
      go_wp2_with fail
      have dh : ∀ w : World, w.drew.heap = w.heap := fun _ => rfl
      have hgr' : g < wr.heap.size + 1 := by omega
      have hgn : ¬ g = wr.heap.size := by omega
      have hgn' : ¬ wr.heap.size = g := by omega
      go_region_held3 (fun w' => w'.cell? ⟨g, k + i, none⟩ = some (.int .u64 z)) (repeat (first | exact q1 | exact (B2.out.cell (p := ⟨g, k + i, none⟩) hgr).trans q1 | exact (B1.out.cell (p := ⟨g, k + i, none⟩) hgr).trans q1 | (refine keep_drew ?_) | (refine keep_alloc ?_) | (refine keep_other (by simp; omega) ?_))) (first | (go_at_call 89; refine (wMul _ _ _ y0 y1 t0 t1).mono ?_; rintro e w1 ⟨h1, l1, rfl, a1, a2, a3, a4, a5, hb1⟩; have B1 : Hid (Below wr.heap.size wr w1) := (Below.trans (by repeat (first | (refine Below.drew ?_) | (refine Below.alloc ?_ (by first | omega | (simp <;> omega)) _) | (refine Below.setCell ?_ (by first | omega | (simp <;> omega)) _) | exact Below.refl _ _)) (hb1.mono (by first | omega | (simp <;> omega)))); obtain ⟨pc1, pf1⟩ := bcell hb1; have hr1 : ∀ b, b < _ → b < w1.heap.size := (fun b h => Nat.lt_of_lt_of_le h hb1.size); have hq1 := hb1.size; (try simp [drew_heap] at hq1); have hs1 : wr.heap.size ≤ w1.heap.size := B1.out.size; have hg1 : g < w1.heap.size := (by omega); have hg1' : g < w1.heap.size + 1 := (by omega); have hn1 : ¬ g = w1.heap.size := (by omega); have hn1' : ¬ w1.heap.size = g := (by omega); clear hb1; have A5 : Hid (_ = _) := a5; clear a5) | (go_at_call 90; refine (wAdd _ _ _ _ _ a1 a2 a3 a4 (by omega) (by omega) z0 z1).mono ?_; rintro e w2 ⟨h2, l2, rfl, b1, b2, b3, b4, b5, hb2⟩; have B2 : Hid (Below wr.heap.size wr w2) := (Below.trans (by repeat (first | exact B1.out | (refine Below.drew ?_) | (refine Below.alloc ?_ (by first | omega | (simp <;> omega)) _) | (refine Below.setCell ?_ (by first | omega | (simp <;> omega)) _) | exact Below.refl _ _)) (hb2.mono (by first | omega | (simp <;> omega)))); obtain ⟨pc2, pf2⟩ := bcell hb2; have hr2 : ∀ b, b < _ → b < w2.heap.size := (fun b h => Nat.lt_of_lt_of_le h hb2.size); have hq2 := hb2.size; (try simp [drew_heap] at hq2); have hs2 : wr.heap.size ≤ w2.heap.size := B2.out.size; have hg2 : g < w2.heap.size := (by omega); have hg2' : g < w2.heap.size + 1 := (by omega); have hn2 : ¬ g = w2.heap.size := (by omega); have hn2' : ¬ w2.heap.size = g := (by omega); clear hb2; have B5 : Hid (_ = _) := b5; clear b5))
      -- THREE ways: the new variable is made behind Add, between Mul and Add, ahead of Mul
      · have s0 : (w2.alloc (.cells #[.int .u64 h2, .int .u64 l2] 68)).cell? ⟨w2.heap.size, 0, none⟩ = some (.int .u64 h2) := by simp [go_sem, cell_some, cell_if, *]
        have s1 : (w2.alloc (.cells #[.int .u64 h2, .int .u64 l2] 68)).cell? ⟨w2.heap.size, 1, none⟩ = some (.int .u64 l2) := by simp [go_sem, cell_some, cell_if, *]
        have f0 : (w2.alloc (.cells #[.int .u64 h2, .int .u64 l2] 68)).frozen? ⟨w2.heap.size, 0, none⟩ = false := by simp [go_sem, *]
        have f1 : (w2.alloc (.cells #[.int .u64 h2, .int .u64 l2] 68)).frozen? ⟨w2.heap.size, 1, none⟩ = false := by simp [go_sem, *]
        have BW : Hid (Below wr.heap.size wr (w2.alloc (.cells #[.int .u64 h2, .int .u64 l2] 68))) := (by repeat (first | exact B2.out | (refine Below.drew ?_) | (refine Below.alloc ?_ (by first | omega | (simp <;> omega)) _) | (refine Below.setCell ?_ (by first | omega | (simp <;> omega)) _) | exact Below.refl _ _))
        have hsW : wr.heap.size ≤ (w2.alloc (.cells #[.int .u64 h2, .int .u64 l2] 68)).heap.size := BW.out.size
        have hTW : w2.heap.size < (w2.alloc (.cells #[.int .u64 h2, .int .u64 l2] 68)).heap.size := by first | (simp; done) | (simp [World.setCell]; omega) | (simp; omega)
        have hTr : w.heap.size ≤ w2.heap.size := by omega
        have hTg : w2.heap.size ≠ g := by omega
        have hgT : g ≠ w2.heap.size := by omega
        clear pc1 pf1 pc2 pf2 hr1 hr2
        try clear hn1
        try clear hn1'
        try clear hn2
        try clear hn2'
        try clear hg1'
        try clear hg2'
        try clear hgr'
        try clear hgn
        try clear hgn'
        try clear dh
        generalize w2.alloc (.cells #[.int .u64 h2, .int .u64 l2] 68) = W at s0 s1 f0 f1 BW hsW hTW ⊢
        generalize w2.heap.size = T at s0 s1 f0 f1 hTW hTr hTg hgT ⊢
        go_wp2_with fail
        refine (wAdd _ _ _ _ _ b1 b2 b3 b4 (by omega) (by omega) hc0 hc1).mono ?_
        rintro e w3 ⟨h3, l3, rfl, d1, d2, d3, d4, d5, hb3⟩
        have B3 : Hid (Below wr.heap.size wr w3) := BW.out.trans (hb3.mono hsW)

        have F : Hid (l3 + 18446744073709551616 * h3 = y * t + z + cy) := wid3 y t z cy h1 l1 h2 l2 h3 l3 y0 y1 t0 t1 z0 z1 hc0 hc1 a1 a3 b1 b3 d1 d3 A5.out B5.out d5
        have u0 : w3.cell? ⟨T, 0, none⟩ = some (.int .u64 h2) := (hb3.cell (p := ⟨T, 0, none⟩) hTW).trans s0
        have u1 : w3.cell? ⟨T, 1, none⟩ = some (.int .u64 l2) := (hb3.cell (p := ⟨T, 1, none⟩) hTW).trans s1
        have v0 : w3.frozen? ⟨T, 0, none⟩ = false := (hb3.frozen (p := ⟨T, 0, none⟩) hTW).trans f0
        have v1 : w3.frozen? ⟨T, 1, none⟩ = false := (hb3.frozen (p := ⟨T, 1, none⟩) hTW).trans f1
        have R3 : Hid (RowU w3 g zs) := A.out.below B3.out
        have q4 : w3.cell? ⟨g, k + i, none⟩ = some (.int .u64 z) := (B3.out.cell (p := ⟨g, k + i, none⟩) hgr).trans q1
        have q5 : w3.frozen? ⟨g, k + i, none⟩ = false := (B3.out.frozen (p := ⟨g, k + i, none⟩) hgr).trans q3
        have hs3 := B3.out.size
        clear s0 s1 f0 f1 hb3 d5 BW hTW hsW
        go_wp2_with fail
        have x0 : ((w3.setCell ⟨T, 0, none⟩ (.int .u64 h3)).setCell ⟨T, 1, none⟩ (.int .u64 l3)).cell? ⟨T, 0, none⟩ = some (.int .u64 h3) := by simp [cell_some, cell_if, u0, u1]
        have x1 : ((w3.setCell ⟨T, 0, none⟩ (.int .u64 h3)).setCell ⟨T, 1, none⟩ (.int .u64 l3)).cell? ⟨T, 1, none⟩ = some (.int .u64 l3) := by simp [cell_some, cell_if, u0, u1]
        have x2 : ((w3.setCell ⟨T, 0, none⟩ (.int .u64 h3)).setCell ⟨T, 1, none⟩ (.int .u64 l3)).cell? ⟨g, k + i, none⟩ = some (.int .u64 z) := keep_other hTg (keep_other hTg q4)
        have x3 : ((w3.setCell ⟨T, 0, none⟩ (.int .u64 h3)).setCell ⟨T, 1, none⟩ (.int .u64 l3)).frozen? ⟨g, k + i, none⟩ = false := by simp [go_sem, q5]
        have x4 : Hid (RowU ((w3.setCell ⟨T, 0, none⟩ (.int .u64 h3)).setCell ⟨T, 1, none⟩ (.int .u64 l3)) g zs) := (R3.out.setN hTg _).setN hTg _
        have x5 : Hid (Beside g w ((w3.setCell ⟨T, 0, none⟩ (.int .u64 h3)).setCell ⟨T, 1, none⟩ (.int .u64 l3))) := ((E.out.ofBelow B3.out).setN (by simp; omega) _).setN (by simp; omega) _
        generalize (w3.setCell ⟨T, 0, none⟩ (.int .u64 h3)).setCell ⟨T, 1, none⟩ (.int .u64 l3) = w5 at x0 x1 x2 x3 x4 x5 ⊢
        clear u0 u1 v0 v1 R3 q4 q5 A E
        go_region_held3 (fun w' => w'.cell? ⟨T, 0, none⟩ = some (.int .u64 h3) ∧ w'.cell? ⟨T, 1, none⟩ = some (.int .u64 l3)) (refine ⟨?_, ?_⟩ <;> (repeat (first | exact x0 | exact x1 | (refine keep_drew ?_) | (refine keep_other hgT ?_)))) (fail)
        all_goals
          go_wp2
          go_roundw
          case rel =>
            refine ⟨h3, i + 1, zs.set (k + i) l3, rfl, by go_num, by omega, d1, d2, x4.out.set _ _, ?_, C.out.set _ _ d3 d4, ?_, ?_, ?_⟩
            · show _ = _
              rw [List.length_set]; exact B.out
            · show _ = _
              have e1 := dv_set zs (k + i) l3 (by have := B.out; have := HM.out; omega)
              rw [← HZ.out] at e1
              have e2 := times_word _ z y t cy l3 h3 (pw (k + i)) _ _ F.out e1 D.out
              rw [← Nat.add_assoc, pw_succ, e2, dv_take_succ ys i (by have := HN.out; omega), ← HY.out, pw_add]
              grind
            · intro j hj
              rw [List.getElem?_set_ne (by omega)]
              exact G.out j hj
            · first | exact (x5.out.drew).setG _ _ | exact (x5.out.setG _ _).drew | exact x5.out.setG _ _
          case measure => simp [intOf]; omega
      · have k0 : w2.cell? ⟨w1.heap.size, 0, none⟩ = some (.int .u64 0) := by simp [go_sem, *]
        have k1 : w2.cell? ⟨w1.heap.size, 1, none⟩ = some (.int .u64 0) := by simp [go_sem, *]
        have s0 : ((w2.setCell ⟨w1.heap.size, 0, none⟩ (.int .u64 h2)).setCell ⟨w1.heap.size, 1, none⟩ (.int .u64 l2)).cell? ⟨w1.heap.size, 0, none⟩ = some (.int .u64 h2) := by simp [cell_some, cell_if, k0, k1]
        have s1 : ((w2.setCell ⟨w1.heap.size, 0, none⟩ (.int .u64 h2)).setCell ⟨w1.heap.size, 1, none⟩ (.int .u64 l2)).cell? ⟨w1.heap.size, 1, none⟩ = some (.int .u64 l2) := by simp [cell_some, cell_if, k0, k1]
        have f0 : ((w2.setCell ⟨w1.heap.size, 0, none⟩ (.int .u64 h2)).setCell ⟨w1.heap.size, 1, none⟩ (.int .u64 l2)).frozen? ⟨w1.heap.size, 0, none⟩ = false := by simp [go_sem, *]
        have f1 : ((w2.setCell ⟨w1.heap.size, 0, none⟩ (.int .u64 h2)).setCell ⟨w1.heap.size, 1, none⟩ (.int .u64 l2)).frozen? ⟨w1.heap.size, 1, none⟩ = false := by simp [go_sem, *]
        have BW : Hid (Below wr.heap.size wr ((w2.setCell ⟨w1.heap.size, 0, none⟩ (.int .u64 h2)).setCell ⟨w1.heap.size, 1, none⟩ (.int .u64 l2))) := (by repeat (first | exact B2.out | (refine Below.drew ?_) | (refine Below.alloc ?_ (by first | omega | (simp <;> omega)) _) | (refine Below.setCell ?_ (by first | omega | (simp <;> omega)) _) | exact Below.refl _ _))
        have hsW : wr.heap.size ≤ ((w2.setCell ⟨w1.heap.size, 0, none⟩ (.int .u64 h2)).setCell ⟨w1.heap.size, 1, none⟩ (.int .u64 l2)).heap.size := BW.out.size
        have hTW : w1.heap.size < ((w2.setCell ⟨w1.heap.size, 0, none⟩ (.int .u64 h2)).setCell ⟨w1.heap.size, 1, none⟩ (.int .u64 l2)).heap.size := by first | (simp; done) | (simp [World.setCell]; omega) | (simp; omega)
        have hTr : w.heap.size ≤ w1.heap.size := by omega
        have hTg : w1.heap.size ≠ g := by omega
        have hgT : g ≠ w1.heap.size := by omega
        clear pc1 pf1 pc2 pf2 hr1 hr2
        try clear hn1
        try clear hn1'
        try clear hn2
        try clear hn2'
        try clear hg1'
        try clear hg2'
        try clear hgr'
        try clear hgn
        try clear hgn'
        try clear dh
        try clear k0
        try clear k1
        generalize (w2.setCell ⟨w1.heap.size, 0, none⟩ (.int .u64 h2)).setCell ⟨w1.heap.size, 1, none⟩ (.int .u64 l2) = W at s0 s1 f0 f1 BW hsW hTW ⊢
        generalize w1.heap.size = T at s0 s1 f0 f1 hTW hTr hTg hgT ⊢
        go_wp2_with fail
        refine (wAdd _ _ _ _ _ b1 b2 b3 b4 (by omega) (by omega) hc0 hc1).mono ?_
        rintro e w3 ⟨h3, l3, rfl, d1, d2, d3, d4, d5, hb3⟩
        have B3 : Hid (Below wr.heap.size wr w3) := BW.out.trans (hb3.mono hsW)
        have F : Hid (l3 + 18446744073709551616 * h3 = y * t + z + cy) := wid3 y t z cy h1 l1 h2 l2 h3 l3 y0 y1 t0 t1 z0 z1 hc0 hc1 a1 a3 b1 b3 d1 d3 A5.out B5.out d5
        have u0 : w3.cell? ⟨T, 0, none⟩ = some (.int .u64 h2) := (hb3.cell (p := ⟨T, 0, none⟩) hTW).trans s0
        have u1 : w3.cell? ⟨T, 1, none⟩ = some (.int .u64 l2) := (hb3.cell (p := ⟨T, 1, none⟩) hTW).trans s1
        have v0 : w3.frozen? ⟨T, 0, none⟩ = false := (hb3.frozen (p := ⟨T, 0, none⟩) hTW).trans f0
        have v1 : w3.frozen? ⟨T, 1, none⟩ = false := (hb3.frozen (p := ⟨T, 1, none⟩) hTW).trans f1
        have R3 : Hid (RowU w3 g zs) := A.out.below B3.out
        have q4 : w3.cell? ⟨g, k + i, none⟩ = some (.int .u64 z) := (B3.out.cell (p := ⟨g, k + i, none⟩) hgr).trans q1
        have q5 : w3.frozen? ⟨g, k + i, none⟩ = false := (B3.out.frozen (p := ⟨g, k + i, none⟩) hgr).trans q3
        have hs3 := B3.out.size
        clear s0 s1 f0 f1 hb3 d5 BW hTW hsW
        go_wp2_with fail
        have x0 : ((w3.setCell ⟨T, 0, none⟩ (.int .u64 h3)).setCell ⟨T, 1, none⟩ (.int .u64 l3)).cell? ⟨T, 0, none⟩ = some (.int .u64 h3) := by simp [cell_some, cell_if, u0, u1]
        have x1 : ((w3.setCell ⟨T, 0, none⟩ (.int .u64 h3)).setCell ⟨T, 1, none⟩ (.int .u64 l3)).cell? ⟨T, 1, none⟩ = some (.int .u64 l3) := by simp [cell_some, cell_if, u0, u1]
        have x2 : ((w3.setCell ⟨T, 0, none⟩ (.int .u64 h3)).setCell ⟨T, 1, none⟩ (.int .u64 l3)).cell? ⟨g, k + i, none⟩ = some (.int .u64 z) := keep_other hTg (keep_other hTg q4)
        have x3 : ((w3.setCell ⟨T, 0, none⟩ (.int .u64 h3)).setCell ⟨T, 1, none⟩ (.int .u64 l3)).frozen? ⟨g, k + i, none⟩ = false := by simp [go_sem, q5]
        have x4 : Hid (RowU ((w3.setCell ⟨T, 0, none⟩ (.int .u64 h3)).setCell ⟨T, 1, none⟩ (.int .u64 l3)) g zs) := (R3.out.setN hTg _).setN hTg _
        have x5 : Hid (Beside g w ((w3.setCell ⟨T, 0, none⟩ (.int .u64 h3)).setCell ⟨T, 1, none⟩ (.int .u64 l3))) := ((E.out.ofBelow B3.out).setN (by simp; omega) _).setN (by simp; omega) _
        generalize (w3.setCell ⟨T, 0, none⟩ (.int .u64 h3)).setCell ⟨T, 1, none⟩ (.int .u64 l3) = w5 at x0 x1 x2 x3 x4 x5 ⊢
        clear u0 u1 v0 v1 R3 q4 q5 A E
        go_region_held3 (fun w' => w'.cell? ⟨T, 0, none⟩ = some (.int .u64 h3) ∧ w'.cell? ⟨T, 1, none⟩ = some (.int .u64 l3)) (refine ⟨?_, ?_⟩ <;> (repeat (first | exact x0 | exact x1 | (refine keep_drew ?_) | (refine keep_other hgT ?_)))) (fail)
        all_goals
          go_wp2
          go_roundw
          case rel =>
            refine ⟨h3, i + 1, zs.set (k + i) l3, rfl, by go_num, by omega, d1, d2, x4.out.set _ _, ?_, C.out.set _ _ d3 d4, ?_, ?_, ?_⟩
            · show _ = _
              rw [List.length_set]; exact B.out
            · show _ = _
              have e1 := dv_set zs (k + i) l3 (by have := B.out; have := HM.out; omega)
              rw [← HZ.out] at e1
              have e2 := times_word _ z y t cy l3 h3 (pw (k + i)) _ _ F.out e1 D.out
              rw [← Nat.add_assoc, pw_succ, e2, dv_take_succ ys i (by have := HN.out; omega), ← HY.out, pw_add]
              grind
            · intro j hj
              rw [List.getElem?_set_ne (by omega)]
              exact G.out j hj
            · first | exact (x5.out.drew).setG _ _ | exact (x5.out.setG _ _).drew | exact x5.out.setG _ _
          case measure => simp [intOf]; omega
      · have k0 : w2.cell? ⟨wr.heap.size, 0, none⟩ = some (.int .u64 0) := by simp [go_sem, *]
        have k1 : w2.cell? ⟨wr.heap.size, 1, none⟩ = some (.int .u64 0) := by simp [go_sem, *]
        have s0 : ((w2.setCell ⟨wr.heap.size, 0, none⟩ (.int .u64 h2)).setCell ⟨wr.heap.size, 1, none⟩ (.int .u64 l2)).cell? ⟨wr.heap.size, 0, none⟩ = some (.int .u64 h2) := by simp [cell_some, cell_if, k0, k1]
        have s1 : ((w2.setCell ⟨wr.heap.size, 0, none⟩ (.int .u64 h2)).setCell ⟨wr.heap.size, 1, none⟩ (.int .u64 l2)).cell? ⟨wr.heap.size, 1, none⟩ = some (.int .u64 l2) := by simp [cell_some, cell_if, k0, k1]
        have f0 : ((w2.setCell ⟨wr.heap.size, 0, none⟩ (.int .u64 h2)).setCell ⟨wr.heap.size, 1, none⟩ (.int .u64 l2)).frozen? ⟨wr.heap.size, 0, none⟩ = false := by simp [go_sem, *]
        have f1 : ((w2.setCell ⟨wr.heap.size, 0, none⟩ (.int .u64 h2)).setCell ⟨wr.heap.size, 1, none⟩ (.int .u64 l2)).frozen? ⟨wr.heap.size, 1, none⟩ = false := by simp [go_sem, *]
        have BW : Hid (Below wr.heap.size wr ((w2.setCell ⟨wr.heap.size, 0, none⟩ (.int .u64 h2)).setCell ⟨wr.heap.size, 1, none⟩ (.int .u64 l2))) := (by repeat (first | exact B2.out | (refine Below.drew ?_) | (refine Below.alloc ?_ (by first | omega | (simp <;> omega)) _) | (refine Below.setCell ?_ (by first | omega | (simp <;> omega)) _) | exact Below.refl _ _))
        have hsW : wr.heap.size ≤ ((w2.setCell ⟨wr.heap.size, 0, none⟩ (.int .u64 h2)).setCell ⟨wr.heap.size, 1, none⟩ (.int .u64 l2)).heap.size := BW.out.size
        have hTW : wr.heap.size < ((w2.setCell ⟨wr.heap.size, 0, none⟩ (.int .u64 h2)).setCell ⟨wr.heap.size, 1, none⟩ (.int .u64 l2)).heap.size := by first | (simp; done) | (simp [World.setCell]; omega) | (simp; omega)
        have hTr : w.heap.size ≤ wr.heap.size := by omega
        have hTg : wr.heap.size ≠ g := by omega
        have hgT : g ≠ wr.heap.size := by omega
        clear pc1 pf1 pc2 pf2 hr1 hr2
        try clear hn1
        try clear hn1'
        try clear hn2
        try clear hn2'
        try clear hg1'
        try clear hg2'
        try clear hgr'
        try clear hgn
        try clear hgn'
        try clear dh
        try clear k0
        try clear k1
        generalize (w2.setCell ⟨wr.heap.size, 0, none⟩ (.int .u64 h2)).setCell ⟨wr.heap.size, 1, none⟩ (.int .u64 l2) = W at s0 s1 f0 f1 BW hsW hTW ⊢
        generalize wr.heap.size = T at s0 s1 f0 f1 hTW hTr hTg hgT ⊢
        go_wp2_with fail
        refine (wAdd _ _ _ _ _ b1 b2 b3 b4 (by omega) (by omega) hc0 hc1).mono ?_
        rintro e w3 ⟨h3, l3, rfl, d1, d2, d3, d4, d5, hb3⟩
        have B3 : Hid (Below wr.heap.size wr w3) := BW.out.trans (hb3.mono hsW)
        have F : Hid (l3 + 18446744073709551616 * h3 = y * t + z + cy) := wid3 y t z cy h1 l1 h2 l2 h3 l3 y0 y1 t0 t1 z0 z1 hc0 hc1 a1 a3 b1 b3 d1 d3 A5.out B5.out d5
        have u0 : w3.cell? ⟨T, 0, none⟩ = some (.int .u64 h2) := (hb3.cell (p := ⟨T, 0, none⟩) hTW).trans s0
        have u1 : w3.cell? ⟨T, 1, none⟩ = some (.int .u64 l2) := (hb3.cell (p := ⟨T, 1, none⟩) hTW).trans s1
        have v0 : w3.frozen? ⟨T, 0, none⟩ = false := (hb3.frozen (p := ⟨T, 0, none⟩) hTW).trans f0
        have v1 : w3.frozen? ⟨T, 1, none⟩ = false := (hb3.frozen (p := ⟨T, 1, none⟩) hTW).trans f1
        have R3 : Hid (RowU w3 g zs) := A.out.below B3.out
        have q4 : w3.cell? ⟨g, k + i, none⟩ = some (.int .u64 z) := (B3.out.cell (p := ⟨g, k + i, none⟩) hgr).trans q1
        have q5 : w3.frozen? ⟨g, k + i, none⟩ = false := (B3.out.frozen (p := ⟨g, k + i, none⟩) hgr).trans q3
        have hs3 := B3.out.size
        clear s0 s1 f0 f1 hb3 d5 BW hTW hsW
        go_wp2_with fail
        have x0 : ((w3.setCell ⟨T, 0, none⟩ (.int .u64 h3)).setCell ⟨T, 1, none⟩ (.int .u64 l3)).cell? ⟨T, 0, none⟩ = some (.int .u64 h3) := by simp [cell_some, cell_if, u0, u1]
        have x1 : ((w3.setCell ⟨T, 0, none⟩ (.int .u64 h3)).setCell ⟨T, 1, none⟩ (.int .u64 l3)).cell? ⟨T, 1, none⟩ = some (.int .u64 l3) := by simp [cell_some, cell_if, u0, u1]
        have x2 : ((w3.setCell ⟨T, 0, none⟩ (.int .u64 h3)).setCell ⟨T, 1, none⟩ (.int .u64 l3)).cell? ⟨g, k + i, none⟩ = some (.int .u64 z) := keep_other hTg (keep_other hTg q4)
        have x3 : ((w3.setCell ⟨T, 0, none⟩ (.int .u64 h3)).setCell ⟨T, 1, none⟩ (.int .u64 l3)).frozen? ⟨g, k + i, none⟩ = false := by simp [go_sem, q5]
        have x4 : Hid (RowU ((w3.setCell ⟨T, 0, none⟩ (.int .u64 h3)).setCell ⟨T, 1, none⟩ (.int .u64 l3)) g zs) := (R3.out.setN hTg _).setN hTg _
        have x5 : Hid (Beside g w ((w3.setCell ⟨T, 0, none⟩ (.int .u64 h3)).setCell ⟨T, 1, none⟩ (.int .u64 l3))) := ((E.out.ofBelow B3.out).setN (by simp; omega) _).setN (by simp; omega) _
        generalize (w3.setCell ⟨T, 0, none⟩ (.int .u64 h3)).setCell ⟨T, 1, none⟩ (.int .u64 l3) = w5 at x0 x1 x2 x3 x4 x5 ⊢
        clear u0 u1 v0 v1 R3 q4 q5 A E
        go_region_held3 (fun w' => w'.cell? ⟨T, 0, none⟩ = some (.int .u64 h3) ∧ w'.cell? ⟨T, 1, none⟩ = some (.int .u64 l3)) (refine ⟨?_, ?_⟩ <;> (repeat (first | exact x0 | exact x1 | (refine keep_drew ?_) | (refine keep_other hgT ?_)))) (fail)
        all_goals
          go_wp2
          go_roundw
          case rel =>
            refine ⟨h3, i + 1, zs.set (k + i) l3, rfl, by go_num, by omega, d1, d2, x4.out.set _ _, ?_, C.out.set _ _ d3 d4, ?_, ?_, ?_⟩
            · show _ = _
              rw [List.length_set]; exact B.out
            · show _ = _
              have e1 := dv_set zs (k + i) l3 (by have := B.out; have := HM.out; omega)
              rw [← HZ.out] at e1
              have e2 := times_word _ z y t cy l3 h3 (pw (k + i)) _ _ F.out e1 D.out
              rw [← Nat.add_assoc, pw_succ, e2, dv_take_succ ys i (by have := HN.out; omega), ← HY.out, pw_add]
              grind
            · intro j hj
              rw [List.getElem?_set_ne (by omega)]
              exact G.out j hj
            · first | exact (x5.out.drew).setG _ _ | exact (x5.out.setG _ _).drew | exact x5.out.setG _ _
          case measure => simp [intOf]; omega
    · obtain rfl : i = n := by omega
      go_wp2
      go_ret
      refine ⟨zs, cy, rfl, hc0, hc1, A.out, B.out, C.out, ?_, G.out, E.out⟩
      have := D.out
      rw [HN.out, List.take_length] at this
      rw [HN.out]
      exact this
end Go.Proofs.Ytgpgmnmifhkmbaa
