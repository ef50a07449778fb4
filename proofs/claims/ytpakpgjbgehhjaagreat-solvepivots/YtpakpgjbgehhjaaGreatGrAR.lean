/-
  Texts put together: SysF SysR.
-/
import Derived.Test.YtpakpgjbgehhjaaGreatProg
import Derived.Test.YtpakpgjbgehhjaaGreatGrAN
import Derived.Test.YtpakpgjbgehhjaaGreatGrL
import Derived.Test.YtpakpgjbgehhjaaGreatGrAQ
import Derived.Test.YtpakpgjbgehhjaaGreatGrAP
/-
  What solve's own systemOf returns: the matrix in new memory, and each row and column at its own place. Condition: a square matrix that is right, of at most a thousand rows.
-/
namespace Go.Proofs.YtpakpgjbgehhjaaGreat
open Go.RowKit
set_option linter.unusedVariables false
set_option linter.unusedSimpArgs false

theorem Tryz.intInfoS : (Tryz.prog.info? 3).map (fun i => (i.zero, i.size, i.bytes)) = some (some (.int .i64 0), 1, 8) := by kernel_rfl
theorem made_int (m : Nat) : madeCells (Value.int .i64 0).cells (m * 1) = (List.replicate m (Value.int .i64 0)).toArray := by
  unfold madeCells
  apply Array.ext
  · simp
  · intro i h1 h2
    simp [Value.cells, Nat.mod_one]
theorem mk_runN (m : Nat) (hm : m ≤ 1000000) (w : World) : (Instr.makeSlice 80 (.int .i64 (m : Int)) (.int .i64 (m : Int))).run Tryz.prog w = .ok (.slice (some ⟨w.heap.size, 0, none⟩) m m) (w.alloc (.cells (List.replicate m (Value.int .i64 0)).toArray 3)) := by
  obtain ⟨i, hi, hz, hsz, hby⟩ := info_parts Tryz.intInfoS
  have := run_make (P := Tryz.prog) w 80 3 i (.int .i64 0) Tryz.underlying80 hi hz .i64 .i64 (m : Int) (m : Int) (by omega) (Int.le_refl _) (by rw [hby]; omega) (by omega)
  rw [hsz, Int.toNat_natCast, made_int] at this
  exact this
theorem RowN.new (w : World) (C b : Nat) (hb : b = w.heap.size) : RowN (w.alloc (.cells (List.replicate C (Value.int .i64 0)).toArray 3)) b C (fun _ => 0) := by
  subst hb
  refine ⟨_, heap_alloc_new w _, by simp, fun i hi => ?_⟩
  simp [hi]
theorem RowN.drewK {w : World} {g n : Nat} {f : Nat → Nat} (h : RowN w g n f) : RowN w.drew g n f := h
theorem RowN.setK {w : World} {g n : Nat} {f : Nat → Nat} (h : RowN w g n f) {p : Addr} (hp : p.block ≠ g) (u : Value) : RowN (w.setCell p u) g n f := h.bes (c := some p.block) ((Bes.refl _ w).set (.inr rfl) u) (ne_some hp)
theorem RowU.drewK {w : World} {g : Nat} {xs : List Int} (h : RowU w g xs) : RowU w.drew g xs := h
theorem RowU.setK {w : World} {g : Nat} {xs : List Int} (h : RowU w g xs) {p : Addr} (hp : p.block ≠ g) (u : Value) : RowU (w.setCell p u) g xs := h.bes (c := some p.block) ((Bes.refl _ w).set (.inr rfl) u) (ne_some hp)
/-- A place of six cells, zeros, that may be stored into. -/
def WT (w : World) (b : Nat) : Prop := TBox w b 0 0 (.slice none 0 0) (.slice none 0 0) (.slice none 0 0) ∧ ∀ j, w.frozen? ⟨b, j, none⟩ = false
theorem WT.below {w w' : World} {b : Nat} (h : WT w b) (hb : Below w.heap.size w w') : WT w' b := ⟨h.1.below hb, fun j => (hb.frozen (p := ⟨b, j, none⟩) h.1.2.2.2.2.2.2).trans (h.2 j)⟩
theorem WT.bes {w w' : World} {b : Nat} {c : Option Nat} (h : WT w b) (hb : Bes c w w') (hc : c ≠ some b) : WT w' b := ⟨h.1.bes hb hc, fun j => (hb.frozen (p := ⟨b, j, none⟩) h.1.2.2.2.2.2.2 hc).trans (h.2 j)⟩
theorem TBox.six (w : World) (b : Nat) (C S : Int) (s u v : Value) (h0 : (w.cell? ⟨b, 0, none⟩).isSome = true) (h1 : (w.cell? ⟨b, 1, none⟩).isSome = true) (h2 : (w.cell? ⟨b, 2, none⟩).isSome = true) (h3 : (w.cell? ⟨b, 3, none⟩).isSome = true) (h4 : (w.cell? ⟨b, 4, none⟩).isSome = true) (h5 : (w.cell? ⟨b, 5, none⟩).isSome = true) (hl : b < w.heap.size) :
    TBox ((((((w.setCell ⟨b, 0, none⟩ (.int .i64 C)).setCell ⟨b, 1, none⟩ (.int .i64 C)).setCell ⟨b, 2, none⟩ (.int .i64 S)).setCell ⟨b, 3, none⟩ s).setCell ⟨b, 4, none⟩ u).setCell ⟨b, 5, none⟩ v) b C S s u v := by
  obtain ⟨u0, e0⟩ := Option.isSome_iff_exists.1 h0
  obtain ⟨u1, e1⟩ := Option.isSome_iff_exists.1 h1
  obtain ⟨u2, e2⟩ := Option.isSome_iff_exists.1 h2
  obtain ⟨u3, e3⟩ := Option.isSome_iff_exists.1 h3
  obtain ⟨u4, e4⟩ := Option.isSome_iff_exists.1 h4
  obtain ⟨u5, e5⟩ := Option.isSome_iff_exists.1 h5
  refine ⟨?_, ?_, ?_, ?_, ?_, ?_, by simpa [World.setCell] using hl⟩ <;> simp [go_sem, e0, e1, e2, e3, e4, e5]
theorem build_sys (ts : Array Value) (ds : List Deferred) (C gm gr gc : Nat) (w : World) (ty : TypeId) (ps : String) (af : Array Edge) (h6 : ts.getD 6 undef = .agg #[.int .i64 (C : Int), .int .i64 (C : Int), .int .i64 (C : Int), .slice (some ⟨gm, 0, none⟩) (C * C) (C * C)]) (h9 : ts.getD 9 undef = .slice (some ⟨gr, 0, none⟩) C C) (h12 : ts.getD 12 undef = .slice (some ⟨gc, 0, none⟩) C C) :
    Sem.run Tryz.prog (execOp ({ tmps := ts, defers := ds } : Act).eval ({ dst := some 13, op := Op.build 82 #[(0, Operand.tmp 6), (1, Operand.tmp 9), (2, Operand.tmp 12)], type := ty, pos := ps, after := af, guard := none } : Oper)) w = Result.ok (Next.value (.agg #[.int .i64 (C : Int), .int .i64 (C : Int), .int .i64 (C : Int), .slice (some ⟨gm, 0, none⟩) (C * C) (C * C), .slice (some ⟨gr, 0, none⟩) C C, .slice (some ⟨gc, 0, none⟩) C C])) w := by
  have e6 : ({ tmps := ts, defers := ds } : Act).eval (.tmp 6) = .agg #[.int .i64 (C : Int), .int .i64 (C : Int), .int .i64 (C : Int), .slice (some ⟨gm, 0, none⟩) (C * C) (C * C)] := h6
  have e9 : ({ tmps := ts, defers := ds } : Act).eval (.tmp 9) = .slice (some ⟨gr, 0, none⟩) C C := h9
  have e12 : ({ tmps := ts, defers := ds } : Act).eval (.tmp 12) = .slice (some ⟨gc, 0, none⟩) C C := h12
  generalize ({ tmps := ts, defers := ds } : Act).eval = ev at e6 e9 e12 ⊢
  go_simp
theorem store_sys (a : Act) (C gm gr gc kS : Nat) (w : World) (ty : TypeId) (ps : String) (af : Array Edge) (K : Act → World → Prop) (Q : Exit → Act → World → Prop) (h3 : a.tmps[3]?.getD undef = .pointer (some ⟨kS, 0, none⟩)) (h13 : a.tmps[13]?.getD undef = .agg #[.int .i64 (C : Int), .int .i64 (C : Int), .int .i64 (C : Int), .slice (some ⟨gm, 0, none⟩) (C * C) (C * C), .slice (some ⟨gr, 0, none⟩) C C, .slice (some ⟨gc, 0, none⟩) C C])
    (z0 : (w.cell? ⟨kS, 0, none⟩).isSome = true) (z1 : (w.cell? ⟨kS, 1, none⟩).isSome = true) (z2 : (w.cell? ⟨kS, 2, none⟩).isSome = true) (z3 : (w.cell? ⟨kS, 3, none⟩).isSome = true) (z4 : (w.cell? ⟨kS, 4, none⟩).isSome = true) (z5 : (w.cell? ⟨kS, 5, none⟩).isSome = true) (y0 : w.frozen? ⟨kS, 0, none⟩ = false) (y1 : w.frozen? ⟨kS, 1, none⟩ = false) (y2 : w.frozen? ⟨kS, 2, none⟩ = false) (y3 : w.frozen? ⟨kS, 3, none⟩ = false) (y4 : w.frozen? ⟨kS, 4, none⟩ = false) (y5 : w.frozen? ⟨kS, 5, none⟩ = false)
    (hK : K a ((((((w.setCell ⟨kS, 0, none⟩ (.int .i64 (C : Int))).setCell ⟨kS, 1, none⟩ (.int .i64 (C : Int))).setCell ⟨kS, 2, none⟩ (.int .i64 (C : Int))).setCell ⟨kS, 3, none⟩ (.slice (some ⟨gm, 0, none⟩) (C * C) (C * C))).setCell ⟨kS, 4, none⟩ (.slice (some ⟨gr, 0, none⟩) C C)).setCell ⟨kS, 5, none⟩ (.slice (some ⟨gc, 0, none⟩) C C))) :
    Oper.wp Tryz.prog ({ dst := none, op := Op.store 82 (Operand.tmp 3) (Operand.tmp 13), type := ty, pos := ps, after := af, guard := none } : Oper) a w K Q := by
  obtain ⟨u0, e0⟩ := Option.isSome_iff_exists.1 z0
  obtain ⟨u1, e1⟩ := Option.isSome_iff_exists.1 z1
  obtain ⟨u2, e2⟩ := Option.isSome_iff_exists.1 z2
  obtain ⟨u3, e3⟩ := Option.isSome_iff_exists.1 z3
  obtain ⟨u4, e4⟩ := Option.isSome_iff_exists.1 z4
  obtain ⟨u5, e5⟩ := Option.isSome_iff_exists.1 z5
  clear z0 z1 z2 z3 z4 z5
  have HK : Hid (K a _) := hK
  clear hK
  go_simp
  exact HK.out
set_option maxHeartbeats 16000000 in
set_option maxRecDepth 100000 in
theorem ySystem (C S : Nat) (a : Option Addr) (len cap : Nat) (Z : Nat → Int) (w : World) (h : Rgt (C : Int) (C : Int) (S : Int) len) (hC : C ≤ 1000) (hx : URow w a len cap Z) :
    Calls Tryz.prog 50 #[.agg #[.int .i64 (C : Int), .int .i64 (C : Int), .int .i64 (S : Int), .slice a len cap]] w fun e w' => ∃ gm gr gc, e = .returned (.agg #[.int .i64 (C : Int), .int .i64 (C : Int), .int .i64 (C : Int), .slice (some ⟨gm, 0, none⟩) (C * C) (C * C), .slice (some ⟨gr, 0, none⟩) C C, .slice (some ⟨gc, 0, none⟩) C C]) ∧ (w.heap.size ≤ gm ∧ w.heap.size ≤ gr ∧ w.heap.size ≤ gc ∧ gm ≠ gr ∧ gm ≠ gc ∧ gr ≠ gc) ∧ (∃ xs, Sy w' C gm gr gc xs (fun k => k) (fun k => k) ∧ CutI xs Z S 0 0 C C C) ∧ Below w.heap.size w w' := by
  have HH : Hid (Rgt (C : Int) (C : Int) (S : Int) len) := h
  have UZ : Hid (URow w a len cap Z) := hx
  have hsq : C * C ≤ 1000000 := Nat.mul_le_mul hC hC
  clear h hx
  have mk := mk_runN C (by omega)
  obtain ⟨ON, hON⟩ : ∃ O, O = (List.replicate C (Value.int .i64 0)).toArray := ⟨_, rfl⟩
  have HON : Hid (∀ (W : World) (b : Nat), b = W.heap.size → RowN (W.alloc (.cells ON 3)) b C (fun _ => 0)) := by
    rw [hON]
    intro W b hb
    exact RowN.new W C b hb
  rw [← hON] at mk
  clear hON
  go_enter Tryz.func50, Tryz.ntmps50
  go_upto_region 1 with fail
  obtain ⟨o1, ho1⟩ : ∃ o, o = Obj.cells #[.int .i64 (C : Int), .int .i64 (C : Int), .int .i64 (S : Int), .slice a len cap] 25 := ⟨_, rfl⟩
  have bW : Below w.heap.size w ((w.alloc o1).alloc (.cells #[.int .i64 0, .int .i64 0, .int .i64 0, .slice none 0 0, .slice none 0 0, .slice none 0 0] 82)) := bmore (bmore (Below.refl _ _) _) _
  have mT : MBox ((w.alloc o1).alloc (.cells #[.int .i64 0, .int .i64 0, .int .i64 0, .slice none 0 0, .slice none 0 0, .slice none 0 0] 82)) w.heap.size (C : Int) (C : Int) (S : Int) (.slice a len cap) := by
    rw [ho1]
    exact (MBox.made w _ _ _ _).below ((Below.refl _ _).alloc (Nat.le_refl _) _)
  have wW : WT ((w.alloc o1).alloc (.cells #[.int .i64 0, .int .i64 0, .int .i64 0, .slice none 0 0, .slice none 0 0, .slice none 0 0] 82)) (w.heap.size + 1) := by
    refine ⟨?_, fun j => ?_⟩
    · refine ⟨?_, ?_, ?_, ?_, ?_, ?_, by simp⟩ <;> simp [go_sem]
    · simp [go_sem]
  rw [← ho1]
  clear ho1
  generalize ((w.alloc o1).alloc (.cells #[.int .i64 0, .int .i64 0, .int .i64 0, .slice none 0 0, .slice none 0 0, .slice none 0 0] 82)) = W0 at mT bW wW ⊢
  obtain ⟨b2, hb2⟩ : ∃ b, b = w.heap.size + 1 := ⟨_, rfl⟩
  obtain ⟨ka, hka⟩ : ∃ b, b = w.heap.size := ⟨_, rfl⟩
  rw [← hb2] at wW ⊢
  rw [← hka] at mT ⊢
  have HB2 : Hid (w.heap.size ≤ b2) := by show _ ≤ _; omega
  have MA : Hid (MBox W0 ka (C : Int) (C : Int) (S : Int) (.slice a len cap)) := mT
  have AW : Hid (WT W0 b2) := wW
  have BW : Hid (Below w.heap.size w W0) := bW
  clear mT wW bW hb2 hka
  go_cut [3, 9, 12] (fun t r c wx => ∃ (kS gm gr gc : Nat) (xs : List Int), t = .pointer (some ⟨kS, 0, none⟩) ∧ r = .slice (some ⟨gr, 0, none⟩) C C ∧ c = .slice (some ⟨gc, 0, none⟩) C C ∧ Hid (kS ≠ gm ∧ kS ≠ gr ∧ kS ≠ gc ∧ gm ≠ gr ∧ gm ≠ gc ∧ gr ≠ gc ∧ W0.heap.size ≤ gm ∧ W0.heap.size ≤ gr ∧ W0.heap.size ≤ gc ∧ W0.heap.size ≤ kS) ∧ Hid (TBox wx kS (C : Int) (C : Int) (.slice (some ⟨gm, 0, none⟩) (C * C) (C * C)) (.slice (some ⟨gr, 0, none⟩) C C) (.slice (some ⟨gc, 0, none⟩) C C)) ∧ Hid (RowU wx gm xs) ∧ Hid (CutI xs Z S 0 0 C C C) ∧ Hid (RowN wx gr C (fun _ => 0)) ∧ Hid (RowN wx gc C (fun _ => 0)) ∧ Hid (Below W0.heap.size W0 wx))
  case first =>
    as_aux_lemma =>
      have HKA : Hid (ka < W0.heap.size) := MA.out.2.2.2.2
      refine wp_region_noPanic ?_
      refine wp_region_held_drew (S := (fun w' => w'.cell? ⟨ka, 0, none⟩ = some (.int .i64 (C : Int)) ∧ w'.cell? ⟨ka, 1, none⟩ = some (.int .i64 (C : Int)) ∧ w'.cell? ⟨ka, 2, none⟩ = some (.int .i64 (S : Int)) ∧ w'.cell? ⟨ka, 3, none⟩ = some (.slice a len cap))) (by kernel_rfl) (MA.out.below (Below.refl _ _).drew).cells (fun hHeld => ?_)
      have HBa : Hid (Below W0.heap.size W0 W0.drew) := (Below.refl _ _).drew
      replace MA : Hid (MBox _ _ _ _ _ _) := MA.out.below HBa.out
      generalize W0.drew = v0 at MA HBa hHeld ⊢
      refine wpAnyH_take (i := 0) (oi := ({ dst := some 5, op := Op.load _ (Operand.tmp 1), type := _, pos := _, after := _, guard := none } : Oper)) (v := ?_) rfl (by kernel_rfl) (by kernel_rfl) (by kernel_rfl) (fun _ _ _ h => h) (Or.inl ⟨by rfl, ?_⟩) (by assumption) ?_
      rotate_left
      · intro w' hSw; (try dsimp only at hSw); go_simp <;> (try with_reducible rfl)
      (try simp only [Act.put, List.setIfInBounds_toArray, List.set_cons_zero, List.set_cons_succ])
      refine wpAnyH_take (i := 2) (oi := ({ dst := some 7, op := Op.fieldAddr _ (Operand.tmp 1) 0, type := _, pos := _, after := _, guard := none } : Oper)) (v := ?_) rfl (by kernel_rfl) (by kernel_rfl) (by kernel_rfl) (fun _ _ _ h => h) (Or.inl ⟨by rfl, ?_⟩) (by assumption) ?_
      rotate_left
      · intro w' hSw; (try dsimp only at hSw); go_simp <;> (try with_reducible rfl)
      (try simp only [Act.put, List.setIfInBounds_toArray, List.set_cons_zero, List.set_cons_succ])
      refine wpAnyH_take (i := 3) (oi := ({ dst := some 8, op := Op.load _ (Operand.tmp 7), type := _, pos := _, after := _, guard := none } : Oper)) (v := ?_) rfl (by kernel_rfl) (by kernel_rfl) (by kernel_rfl) (fun _ _ _ h => h) (Or.inl ⟨by rfl, ?_⟩) (by assumption) ?_
      rotate_left
      · intro w' hSw; (try dsimp only at hSw); go_simp <;> (try with_reducible rfl)
      (try simp only [Act.put, List.setIfInBounds_toArray, List.set_cons_zero, List.set_cons_succ])
      refine wpAnyH_take (i := 5) (oi := ({ dst := some 10, op := Op.fieldAddr _ (Operand.tmp 1) 1, type := _, pos := _, after := _, guard := none } : Oper)) (v := ?_) rfl (by kernel_rfl) (by kernel_rfl) (by kernel_rfl) (fun _ _ _ h => h) (Or.inl ⟨by rfl, ?_⟩) (by assumption) ?_
      rotate_left
      · intro w' hSw; (try dsimp only at hSw); go_simp <;> (try with_reducible rfl)
      (try simp only [Act.put, List.setIfInBounds_toArray, List.set_cons_zero, List.set_cons_succ])
      refine wpAnyH_take (i := 6) (oi := ({ dst := some 11, op := Op.load _ (Operand.tmp 10), type := _, pos := _, after := _, guard := none } : Oper)) (v := ?_) rfl (by kernel_rfl) (by kernel_rfl) (by kernel_rfl) (fun _ _ _ h => h) (Or.inl ⟨by rfl, ?_⟩) (by assumption) ?_
      rotate_left
      · intro w' hSw; (try dsimp only at hSw); go_simp <;> (try with_reducible rfl)
      (try simp only [Act.put, List.setIfInBounds_toArray, List.set_cons_zero, List.set_cons_succ])
      refine wpAnyH_ready (rs := [1, 4, 7, 9]) (by kernel_rfl) (by simp) ?_
      refine (AllReadyH.cons (o := ({ dst := some 6, op := Op.call { callee := Callee.value (Operand.func _), args := #[Operand.tmp 5], argTypes := _ }, type := _, pos := _, after := _, guard := none } : Oper)) rfl (fun K hK => ?_) (AllReadyH.cons (o := ({ dst := some 9, op := Op.makeSlice _ (Operand.tmp 8) (Operand.tmp 8), type := _, pos := _, after := _, guard := none } : Oper)) rfl (fun K hK => ?_) (AllReadyH.cons (o := ({ dst := some 12, op := Op.makeSlice _ (Operand.tmp 11) (Operand.tmp 11), type := _, pos := _, after := _, guard := none } : Oper)) rfl (fun K hK => ?_) (AllReadyH.cons (o := ({ dst := some 3, op := Op.alloc _, type := _, pos := _, after := _, guard := none } : Oper)) rfl (fun K hK => ?_) AllReadyH.nil))))
      · go_simp
        go_at_call 21
        refine (mClone C C S a len cap Z _ HH.out ((UZ.out.below BW.out).below HBa.out) hsq).mono ?_
        rintro e v1 ⟨gm, xs, rfl, hg_, hR_, hC_, hb_⟩
        (try go_wp2_with fail)
        have L_gm : Hid (W0.heap.size ≤ gm) := by have := HBa.out.size; have := hg_; show _ ≤ _; omega
        replace MA : Hid (MBox _ _ _ _ _ _) := MA.out.below hb_
        replace HBa : Hid (Below _ _ _) := bstep HBa.out hb_
        have RU : Hid (RowU v1 gm xs) := hR_
        have HC_ : Hid (CutI xs Z S 0 0 C C C) := hC_
        refine hK.out _ _ ?_ (fun hHeld => ?_)
        · exact MA.out.cells
        clear hK K hb_ hg_ hR_ hC_
        (try simp only [Act.put, List.setIfInBounds_toArray, List.set_cons_zero, List.set_cons_succ])
        refine wpAnyH_ready (rs := [4, 7, 9]) (by kernel_rfl) (by simp) ?_
        refine (AllReadyH.cons (o := ({ dst := some 9, op := Op.makeSlice _ (Operand.tmp 8) (Operand.tmp 8), type := _, pos := _, after := _, guard := none } : Oper)) rfl (fun K hK => ?_) (AllReadyH.cons (o := ({ dst := some 12, op := Op.makeSlice _ (Operand.tmp 11) (Operand.tmp 11), type := _, pos := _, after := _, guard := none } : Oper)) rfl (fun K hK => ?_) (AllReadyH.cons (o := ({ dst := some 3, op := Op.alloc _, type := _, pos := _, after := _, guard := none } : Oper)) rfl (fun K hK => ?_) AllReadyH.nil)))
        · go_simp
          have b_ : Below v1.heap.size v1 (v1.alloc (.cells ON 3)) := bmore (Below.refl _ _) _
          refine hK.out _ _ ?_ (fun hHeld => ?_)
          · exact (MA.out.below b_).cells
          clear hK K
          (try simp only [Act.put, List.setIfInBounds_toArray, List.set_cons_zero, List.set_cons_succ])
          have n_ : RowN (v1.alloc (.cells ON 3)) v1.heap.size C (fun _ => 0) := HON.out v1 _ rfl
          obtain ⟨gr, h_⟩ : ∃ k, k = v1.heap.size := ⟨_, rfl⟩
          rw [← h_] at n_ ⊢
          have L_gr : Hid (W0.heap.size ≤ gr) := by have := HBa.out.size; have := h_; show _ ≤ _; omega
          have N_gmgr : Hid (gm ≠ gr) := by have := RU.out.lt; have := h_; show _ ≠ _; omega
          generalize (v1.alloc (.cells ON 3)) = v2 at n_ b_ hHeld ⊢
          replace MA : Hid (MBox _ _ _ _ _ _) := MA.out.below b_
          replace HBa : Hid (Below _ _ _) := bstep HBa.out b_
          replace RU : Hid (RowU _ _ _) := RU.out.below b_
          have RR : Hid (RowN v2 gr C (fun _ => 0)) := n_
          clear n_ b_ h_
          refine wpAnyH_ready (rs := [7, 9]) (by kernel_rfl) (by simp) ?_
          refine (AllReadyH.cons (o := ({ dst := some 12, op := Op.makeSlice _ (Operand.tmp 11) (Operand.tmp 11), type := _, pos := _, after := _, guard := none } : Oper)) rfl (fun K hK => ?_) (AllReadyH.cons (o := ({ dst := some 3, op := Op.alloc _, type := _, pos := _, after := _, guard := none } : Oper)) rfl (fun K hK => ?_) AllReadyH.nil))
          · go_simp
            have b_ : Below v2.heap.size v2 (v2.alloc (.cells ON 3)) := bmore (Below.refl _ _) _
            refine hK.out _ _ ?_ (fun hHeld => ?_)
            · exact (MA.out.below b_).cells
            clear hK K
            (try simp only [Act.put, List.setIfInBounds_toArray, List.set_cons_zero, List.set_cons_succ])
            have n_ : RowN (v2.alloc (.cells ON 3)) v2.heap.size C (fun _ => 0) := HON.out v2 _ rfl
            obtain ⟨gc, h_⟩ : ∃ k, k = v2.heap.size := ⟨_, rfl⟩
            rw [← h_] at n_ ⊢
            have L_gc : Hid (W0.heap.size ≤ gc) := by have := HBa.out.size; have := h_; show _ ≤ _; omega
            have N_gmgc : Hid (gm ≠ gc) := by have := RU.out.lt; have := h_; show _ ≠ _; omega
            have N_grgc : Hid (gr ≠ gc) := by have := RR.out.lt; have := h_; show _ ≠ _; omega
            generalize (v2.alloc (.cells ON 3)) = v3 at n_ b_ hHeld ⊢
            replace MA : Hid (MBox _ _ _ _ _ _) := MA.out.below b_
            replace HBa : Hid (Below _ _ _) := bstep HBa.out b_
            replace RU : Hid (RowU _ _ _) := RU.out.below b_
            replace RR : Hid (RowN _ _ _ _) := RR.out.below b_
            have RC : Hid (RowN v3 gc C (fun _ => 0)) := n_
            clear n_ b_ h_
            refine wpAnyH_take (i := 8) (oi := ({ dst := some 13, op := Op.build _ #[(0, Operand.tmp 6), (1, Operand.tmp 9), (2, Operand.tmp 12)], type := _, pos := _, after := _, guard := none } : Oper)) (v := (.agg #[.int .i64 (C : Int), .int .i64 (C : Int), .int .i64 (C : Int), .slice (some ⟨gm, 0, none⟩) (C * C) (C * C), .slice (some ⟨gr, 0, none⟩) C C, .slice (some ⟨gc, 0, none⟩) C C])) rfl (by kernel_rfl) (by kernel_rfl) (by kernel_rfl) (fun _ _ _ h => h) (Or.inl ⟨by rfl, ?_⟩) (by assumption) ?_
            · intro w2 hSw; exact build_sys _ _ C gm gr gc _ _ _ _ rfl rfl rfl
            (try simp only [Act.put, List.setIfInBounds_toArray, List.set_cons_zero, List.set_cons_succ])
            refine wpAnyH_ready (rs := [9]) (by kernel_rfl) (by simp) ?_
            refine (AllReadyH.cons (o := ({ dst := some 3, op := Op.alloc _, type := _, pos := _, after := _, guard := none } : Oper)) rfl (fun K hK => ?_) AllReadyH.nil)
            · go_simp
              have b_ : Below v3.heap.size v3 (v3.alloc (.cells #[.int .i64 0, .int .i64 0, .int .i64 0, .slice none 0 0, .slice none 0 0, .slice none 0 0] 82)) := bmore (Below.refl _ _) _
              refine hK.out _ _ ?_ (fun hHeld => ?_)
              · exact (MA.out.below b_).cells
              clear hK K
              (try simp only [Act.put, List.setIfInBounds_toArray, List.set_cons_zero, List.set_cons_succ])
              have n_ : WT (v3.alloc (.cells #[.int .i64 0, .int .i64 0, .int .i64 0, .slice none 0 0, .slice none 0 0, .slice none 0 0] 82)) v3.heap.size := by
                  refine ⟨?_, fun j => ?_⟩
                  · refine ⟨?_, ?_, ?_, ?_, ?_, ?_, by simp⟩ <;> simp [go_sem]
                  · simp [go_sem]
              obtain ⟨kS, h_⟩ : ∃ k, k = v3.heap.size := ⟨_, rfl⟩
              rw [← h_] at n_ ⊢
              have L_kS : Hid (W0.heap.size ≤ kS) := by have := HBa.out.size; have := h_; show _ ≤ _; omega
              have N_gmkS : Hid (gm ≠ kS) := by have := RU.out.lt; have := h_; show _ ≠ _; omega
              have N_grkS : Hid (gr ≠ kS) := by have := RR.out.lt; have := h_; show _ ≠ _; omega
              have N_gckS : Hid (gc ≠ kS) := by have := RC.out.lt; have := h_; show _ ≠ _; omega
              generalize (v3.alloc (.cells #[.int .i64 0, .int .i64 0, .int .i64 0, .slice none 0 0, .slice none 0 0, .slice none 0 0] 82)) = v4 at n_ b_ hHeld ⊢
              replace MA : Hid (MBox _ _ _ _ _ _) := MA.out.below b_
              replace HBa : Hid (Below _ _ _) := bstep HBa.out b_
              replace RU : Hid (RowU _ _ _) := RU.out.below b_
              replace RR : Hid (RowN _ _ _ _) := RR.out.below b_
              replace RC : Hid (RowN _ _ _ _) := RC.out.below b_
              have WK : Hid (WT v4 kS) := n_
              clear n_ b_ h_
              obtain ⟨⟨z0, z1, z2, z3, z4, z5, z6⟩, zf⟩ := WK.out
              have y0 := zf 0
              have y1 := zf 1
              have y2 := zf 2
              have y3 := zf 3
              have y4 := zf 4
              have y5 := zf 5
              clear zf
              have NKA : kS ≠ ka := by have := L_kS.out; have := HKA.out; omega
              have BP : Bes (some kS) v4 ((((((v4.setCell ⟨kS, 0, none⟩ (.int .i64 (C : Int))).setCell ⟨kS, 1, none⟩ (.int .i64 (C : Int))).setCell ⟨kS, 2, none⟩ (.int .i64 (C : Int))).setCell ⟨kS, 3, none⟩ (.slice (some ⟨gm, 0, none⟩) (C * C) (C * C))).setCell ⟨kS, 4, none⟩ (.slice (some ⟨gr, 0, none⟩) C C)).setCell ⟨kS, 5, none⟩ (.slice (some ⟨gc, 0, none⟩) C C)) := (((((Bes.put v4 kS 0 _).set (p := ⟨kS, 1, none⟩) (.inr rfl) _).set (p := ⟨kS, 2, none⟩) (.inr rfl) _).set (p := ⟨kS, 3, none⟩) (.inr rfl) _).set (p := ⟨kS, 4, none⟩) (.inr rfl) _).set (p := ⟨kS, 5, none⟩) (.inr rfl) _
              have TB_ : TBox ((((((v4.setCell ⟨kS, 0, none⟩ (.int .i64 (C : Int))).setCell ⟨kS, 1, none⟩ (.int .i64 (C : Int))).setCell ⟨kS, 2, none⟩ (.int .i64 (C : Int))).setCell ⟨kS, 3, none⟩ (.slice (some ⟨gm, 0, none⟩) (C * C) (C * C))).setCell ⟨kS, 4, none⟩ (.slice (some ⟨gr, 0, none⟩) C C)).setCell ⟨kS, 5, none⟩ (.slice (some ⟨gc, 0, none⟩) C C)) kS (C : Int) (C : Int) (.slice (some ⟨gm, 0, none⟩) (C * C) (C * C)) (.slice (some ⟨gr, 0, none⟩) C C) (.slice (some ⟨gc, 0, none⟩) C C) := TBox.six _ _ _ _ _ _ _ (by rw [z0]; rfl) (by rw [z1]; rfl) (by rw [z2]; rfl) (by rw [z3]; rfl) (by rw [z4]; rfl) (by rw [z5]; rfl) z6
              refine wpAnyH_ready (rs := [10]) (by kernel_rfl) (by simp) ?_
              refine AllReadyH.cons (o := ({ dst := none, op := Op.store _ (Operand.tmp 3) (Operand.tmp 13), type := _, pos := _, after := _, guard := none } : Oper)) rfl (fun K hK => ?_) AllReadyH.nil
              rw [if_pos (by rfl)]
              refine store_sys _ C gm gr gc kS _ _ _ _ K _ rfl rfl (by rw [z0]; rfl) (by rw [z1]; rfl) (by rw [z2]; rfl) (by rw [z3]; rfl) (by rw [z4]; rfl) (by rw [z5]; rfl) y0 y1 y2 y3 y4 y5 ?_
              refine hK.out _ _ ?_ (fun hHeld => ?_)
              · exact (MA.out.bes BP (ne_some NKA)).cells
              clear hK K hHeld
              (try simp only [Act.put, List.setIfInBounds_toArray, List.set_cons_zero, List.set_cons_succ])
              refine wpAnyH_done (by kernel_rfl) ?_ _
              refine NoPanic.normal ?_
              clear z0 z1 z2 z3 z4 z5 z6 y0 y1 y2 y3 y4 y5
              go_wp2
              go_meet
              exact ⟨kS, gm, gr, gc, xs, rfl, rfl, rfl, ⟨(Ne.symm N_gmkS.out), (Ne.symm N_grkS.out), (Ne.symm N_gckS.out), N_gmgr.out, N_gmgc.out, N_grgc.out, L_gm.out, L_gr.out, L_gc.out, L_kS.out⟩, TB_, RU.out.bes BP (ne_some (Ne.symm N_gmkS.out)), HC_, RR.out.bes BP (ne_some (Ne.symm N_grkS.out)), RC.out.bes BP (ne_some (Ne.symm N_gckS.out)), HBa.out.trans (BP.below _ HBa.out.size (fun k e => by injection e with e; have := L_kS.out; omega))⟩
          · go_simp
            have b_ : Below v2.heap.size v2 (v2.alloc (.cells #[.int .i64 0, .int .i64 0, .int .i64 0, .slice none 0 0, .slice none 0 0, .slice none 0 0] 82)) := bmore (Below.refl _ _) _
            refine hK.out _ _ ?_ (fun hHeld => ?_)
            · exact (MA.out.below b_).cells
            clear hK K
            (try simp only [Act.put, List.setIfInBounds_toArray, List.set_cons_zero, List.set_cons_succ])
            have n_ : WT (v2.alloc (.cells #[.int .i64 0, .int .i64 0, .int .i64 0, .slice none 0 0, .slice none 0 0, .slice none 0 0] 82)) v2.heap.size := by
                refine ⟨?_, fun j => ?_⟩
                · refine ⟨?_, ?_, ?_, ?_, ?_, ?_, by simp⟩ <;> simp [go_sem]
                · simp [go_sem]
            obtain ⟨kS, h_⟩ : ∃ k, k = v2.heap.size := ⟨_, rfl⟩
            rw [← h_] at n_ ⊢
            have L_kS : Hid (W0.heap.size ≤ kS) := by have := HBa.out.size; have := h_; show _ ≤ _; omega
            have N_gmkS : Hid (gm ≠ kS) := by have := RU.out.lt; have := h_; show _ ≠ _; omega
            have N_grkS : Hid (gr ≠ kS) := by have := RR.out.lt; have := h_; show _ ≠ _; omega
            generalize (v2.alloc (.cells #[.int .i64 0, .int .i64 0, .int .i64 0, .slice none 0 0, .slice none 0 0, .slice none 0 0] 82)) = v5 at n_ b_ hHeld ⊢
            replace MA : Hid (MBox _ _ _ _ _ _) := MA.out.below b_
            replace HBa : Hid (Below _ _ _) := bstep HBa.out b_
            replace RU : Hid (RowU _ _ _) := RU.out.below b_
            replace RR : Hid (RowN _ _ _ _) := RR.out.below b_
            have WK : Hid (WT v5 kS) := n_
            clear n_ b_ h_
            refine wpAnyH_ready (rs := [7]) (by kernel_rfl) (by simp) ?_
            refine (AllReadyH.cons (o := ({ dst := some 12, op := Op.makeSlice _ (Operand.tmp 11) (Operand.tmp 11), type := _, pos := _, after := _, guard := none } : Oper)) rfl (fun K hK => ?_) AllReadyH.nil)
            · go_simp
              have b_ : Below v5.heap.size v5 (v5.alloc (.cells ON 3)) := bmore (Below.refl _ _) _
              refine hK.out _ _ ?_ (fun hHeld => ?_)
              · exact (MA.out.below b_).cells
              clear hK K
              (try simp only [Act.put, List.setIfInBounds_toArray, List.set_cons_zero, List.set_cons_succ])
              have n_ : RowN (v5.alloc (.cells ON 3)) v5.heap.size C (fun _ => 0) := HON.out v5 _ rfl
              obtain ⟨gc, h_⟩ : ∃ k, k = v5.heap.size := ⟨_, rfl⟩
              rw [← h_] at n_ ⊢
              have L_gc : Hid (W0.heap.size ≤ gc) := by have := HBa.out.size; have := h_; show _ ≤ _; omega
              have N_gmgc : Hid (gm ≠ gc) := by have := RU.out.lt; have := h_; show _ ≠ _; omega
              have N_grgc : Hid (gr ≠ gc) := by have := RR.out.lt; have := h_; show _ ≠ _; omega
              have N_kSgc : Hid (kS ≠ gc) := by have := WK.out.1.2.2.2.2.2.2; have := h_; show _ ≠ _; omega
              generalize (v5.alloc (.cells ON 3)) = v6 at n_ b_ hHeld ⊢
              replace MA : Hid (MBox _ _ _ _ _ _) := MA.out.below b_
              replace HBa : Hid (Below _ _ _) := bstep HBa.out b_
              replace RU : Hid (RowU _ _ _) := RU.out.below b_
              replace RR : Hid (RowN _ _ _ _) := RR.out.below b_
              replace WK : Hid (WT _ _) := WK.out.below b_
              have RC : Hid (RowN v6 gc C (fun _ => 0)) := n_
              clear n_ b_ h_
              refine wpAnyH_take (i := 8) (oi := ({ dst := some 13, op := Op.build _ #[(0, Operand.tmp 6), (1, Operand.tmp 9), (2, Operand.tmp 12)], type := _, pos := _, after := _, guard := none } : Oper)) (v := (.agg #[.int .i64 (C : Int), .int .i64 (C : Int), .int .i64 (C : Int), .slice (some ⟨gm, 0, none⟩) (C * C) (C * C), .slice (some ⟨gr, 0, none⟩) C C, .slice (some ⟨gc, 0, none⟩) C C])) rfl (by kernel_rfl) (by kernel_rfl) (by kernel_rfl) (fun _ _ _ h => h) (Or.inl ⟨by rfl, ?_⟩) (by assumption) ?_
              · intro w2 hSw; exact build_sys _ _ C gm gr gc _ _ _ _ rfl rfl rfl
              (try simp only [Act.put, List.setIfInBounds_toArray, List.set_cons_zero, List.set_cons_succ])
              obtain ⟨⟨z0, z1, z2, z3, z4, z5, z6⟩, zf⟩ := WK.out
              have y0 := zf 0
              have y1 := zf 1
              have y2 := zf 2
              have y3 := zf 3
              have y4 := zf 4
              have y5 := zf 5
              clear zf
              have NKA : kS ≠ ka := by have := L_kS.out; have := HKA.out; omega
              have BP : Bes (some kS) v6 ((((((v6.setCell ⟨kS, 0, none⟩ (.int .i64 (C : Int))).setCell ⟨kS, 1, none⟩ (.int .i64 (C : Int))).setCell ⟨kS, 2, none⟩ (.int .i64 (C : Int))).setCell ⟨kS, 3, none⟩ (.slice (some ⟨gm, 0, none⟩) (C * C) (C * C))).setCell ⟨kS, 4, none⟩ (.slice (some ⟨gr, 0, none⟩) C C)).setCell ⟨kS, 5, none⟩ (.slice (some ⟨gc, 0, none⟩) C C)) := (((((Bes.put v6 kS 0 _).set (p := ⟨kS, 1, none⟩) (.inr rfl) _).set (p := ⟨kS, 2, none⟩) (.inr rfl) _).set (p := ⟨kS, 3, none⟩) (.inr rfl) _).set (p := ⟨kS, 4, none⟩) (.inr rfl) _).set (p := ⟨kS, 5, none⟩) (.inr rfl) _
              have TB_ : TBox ((((((v6.setCell ⟨kS, 0, none⟩ (.int .i64 (C : Int))).setCell ⟨kS, 1, none⟩ (.int .i64 (C : Int))).setCell ⟨kS, 2, none⟩ (.int .i64 (C : Int))).setCell ⟨kS, 3, none⟩ (.slice (some ⟨gm, 0, none⟩) (C * C) (C * C))).setCell ⟨kS, 4, none⟩ (.slice (some ⟨gr, 0, none⟩) C C)).setCell ⟨kS, 5, none⟩ (.slice (some ⟨gc, 0, none⟩) C C)) kS (C : Int) (C : Int) (.slice (some ⟨gm, 0, none⟩) (C * C) (C * C)) (.slice (some ⟨gr, 0, none⟩) C C) (.slice (some ⟨gc, 0, none⟩) C C) := TBox.six _ _ _ _ _ _ _ (by rw [z0]; rfl) (by rw [z1]; rfl) (by rw [z2]; rfl) (by rw [z3]; rfl) (by rw [z4]; rfl) (by rw [z5]; rfl) z6
              refine wpAnyH_ready (rs := [10]) (by kernel_rfl) (by simp) ?_
              refine AllReadyH.cons (o := ({ dst := none, op := Op.store _ (Operand.tmp 3) (Operand.tmp 13), type := _, pos := _, after := _, guard := none } : Oper)) rfl (fun K hK => ?_) AllReadyH.nil
              rw [if_pos (by rfl)]
              refine store_sys _ C gm gr gc kS _ _ _ _ K _ rfl rfl (by rw [z0]; rfl) (by rw [z1]; rfl) (by rw [z2]; rfl) (by rw [z3]; rfl) (by rw [z4]; rfl) (by rw [z5]; rfl) y0 y1 y2 y3 y4 y5 ?_
              refine hK.out _ _ ?_ (fun hHeld => ?_)
              · exact (MA.out.bes BP (ne_some NKA)).cells
              clear hK K hHeld
              (try simp only [Act.put, List.setIfInBounds_toArray, List.set_cons_zero, List.set_cons_succ])
              refine wpAnyH_done (by kernel_rfl) ?_ _
              refine NoPanic.normal ?_
              clear z0 z1 z2 z3 z4 z5 z6 y0 y1 y2 y3 y4 y5
              go_wp2
              go_meet
              exact ⟨kS, gm, gr, gc, xs, rfl, rfl, rfl, ⟨(Ne.symm N_gmkS.out), (Ne.symm N_grkS.out), N_kSgc.out, N_gmgr.out, N_gmgc.out, N_grgc.out, L_gm.out, L_gr.out, L_gc.out, L_kS.out⟩, TB_, RU.out.bes BP (ne_some (Ne.symm N_gmkS.out)), HC_, RR.out.bes BP (ne_some (Ne.symm N_grkS.out)), RC.out.bes BP (ne_some N_kSgc.out), HBa.out.trans (BP.below _ HBa.out.size (fun k e => by injection e with e; have := L_kS.out; omega))⟩
        · go_simp
          have b_ : Below v1.heap.size v1 (v1.alloc (.cells ON 3)) := bmore (Below.refl _ _) _
          refine hK.out _ _ ?_ (fun hHeld => ?_)
          · exact (MA.out.below b_).cells
          clear hK K
          (try simp only [Act.put, List.setIfInBounds_toArray, List.set_cons_zero, List.set_cons_succ])
          have n_ : RowN (v1.alloc (.cells ON 3)) v1.heap.size C (fun _ => 0) := HON.out v1 _ rfl
          obtain ⟨gc, h_⟩ : ∃ k, k = v1.heap.size := ⟨_, rfl⟩
          rw [← h_] at n_ ⊢
          have L_gc : Hid (W0.heap.size ≤ gc) := by have := HBa.out.size; have := h_; show _ ≤ _; omega
          have N_gmgc : Hid (gm ≠ gc) := by have := RU.out.lt; have := h_; show _ ≠ _; omega
          generalize (v1.alloc (.cells ON 3)) = v7 at n_ b_ hHeld ⊢
          replace MA : Hid (MBox _ _ _ _ _ _) := MA.out.below b_
          replace HBa : Hid (Below _ _ _) := bstep HBa.out b_
          replace RU : Hid (RowU _ _ _) := RU.out.below b_
          have RC : Hid (RowN v7 gc C (fun _ => 0)) := n_
          clear n_ b_ h_
          refine wpAnyH_ready (rs := [4, 9]) (by kernel_rfl) (by simp) ?_
          refine (AllReadyH.cons (o := ({ dst := some 9, op := Op.makeSlice _ (Operand.tmp 8) (Operand.tmp 8), type := _, pos := _, after := _, guard := none } : Oper)) rfl (fun K hK => ?_) (AllReadyH.cons (o := ({ dst := some 3, op := Op.alloc _, type := _, pos := _, after := _, guard := none } : Oper)) rfl (fun K hK => ?_) AllReadyH.nil))
          · go_simp
            have b_ : Below v7.heap.size v7 (v7.alloc (.cells ON 3)) := bmore (Below.refl _ _) _
            refine hK.out _ _ ?_ (fun hHeld => ?_)
            · exact (MA.out.below b_).cells
            clear hK K
            (try simp only [Act.put, List.setIfInBounds_toArray, List.set_cons_zero, List.set_cons_succ])
            have n_ : RowN (v7.alloc (.cells ON 3)) v7.heap.size C (fun _ => 0) := HON.out v7 _ rfl
            obtain ⟨gr, h_⟩ : ∃ k, k = v7.heap.size := ⟨_, rfl⟩
            rw [← h_] at n_ ⊢
            have L_gr : Hid (W0.heap.size ≤ gr) := by have := HBa.out.size; have := h_; show _ ≤ _; omega
            have N_gmgr : Hid (gm ≠ gr) := by have := RU.out.lt; have := h_; show _ ≠ _; omega
            have N_gcgr : Hid (gc ≠ gr) := by have := RC.out.lt; have := h_; show _ ≠ _; omega
            generalize (v7.alloc (.cells ON 3)) = v8 at n_ b_ hHeld ⊢
            replace MA : Hid (MBox _ _ _ _ _ _) := MA.out.below b_
            replace HBa : Hid (Below _ _ _) := bstep HBa.out b_
            replace RU : Hid (RowU _ _ _) := RU.out.below b_
            replace RC : Hid (RowN _ _ _ _) := RC.out.below b_
            have RR : Hid (RowN v8 gr C (fun _ => 0)) := n_
            clear n_ b_ h_
            refine wpAnyH_take (i := 8) (oi := ({ dst := some 13, op := Op.build _ #[(0, Operand.tmp 6), (1, Operand.tmp 9), (2, Operand.tmp 12)], type := _, pos := _, after := _, guard := none } : Oper)) (v := (.agg #[.int .i64 (C : Int), .int .i64 (C : Int), .int .i64 (C : Int), .slice (some ⟨gm, 0, none⟩) (C * C) (C * C), .slice (some ⟨gr, 0, none⟩) C C, .slice (some ⟨gc, 0, none⟩) C C])) rfl (by kernel_rfl) (by kernel_rfl) (by kernel_rfl) (fun _ _ _ h => h) (Or.inl ⟨by rfl, ?_⟩) (by assumption) ?_
            · intro w2 hSw; exact build_sys _ _ C gm gr gc _ _ _ _ rfl rfl rfl
            (try simp only [Act.put, List.setIfInBounds_toArray, List.set_cons_zero, List.set_cons_succ])
            refine wpAnyH_ready (rs := [9]) (by kernel_rfl) (by simp) ?_
            refine (AllReadyH.cons (o := ({ dst := some 3, op := Op.alloc _, type := _, pos := _, after := _, guard := none } : Oper)) rfl (fun K hK => ?_) AllReadyH.nil)
            · go_simp
              have b_ : Below v8.heap.size v8 (v8.alloc (.cells #[.int .i64 0, .int .i64 0, .int .i64 0, .slice none 0 0, .slice none 0 0, .slice none 0 0] 82)) := bmore (Below.refl _ _) _
              refine hK.out _ _ ?_ (fun hHeld => ?_)
              · exact (MA.out.below b_).cells
              clear hK K
              (try simp only [Act.put, List.setIfInBounds_toArray, List.set_cons_zero, List.set_cons_succ])
              have n_ : WT (v8.alloc (.cells #[.int .i64 0, .int .i64 0, .int .i64 0, .slice none 0 0, .slice none 0 0, .slice none 0 0] 82)) v8.heap.size := by
                  refine ⟨?_, fun j => ?_⟩
                  · refine ⟨?_, ?_, ?_, ?_, ?_, ?_, by simp⟩ <;> simp [go_sem]
                  · simp [go_sem]
              obtain ⟨kS, h_⟩ : ∃ k, k = v8.heap.size := ⟨_, rfl⟩
              rw [← h_] at n_ ⊢
              have L_kS : Hid (W0.heap.size ≤ kS) := by have := HBa.out.size; have := h_; show _ ≤ _; omega
              have N_gmkS : Hid (gm ≠ kS) := by have := RU.out.lt; have := h_; show _ ≠ _; omega
              have N_gckS : Hid (gc ≠ kS) := by have := RC.out.lt; have := h_; show _ ≠ _; omega
              have N_grkS : Hid (gr ≠ kS) := by have := RR.out.lt; have := h_; show _ ≠ _; omega
              generalize (v8.alloc (.cells #[.int .i64 0, .int .i64 0, .int .i64 0, .slice none 0 0, .slice none 0 0, .slice none 0 0] 82)) = v9 at n_ b_ hHeld ⊢
              replace MA : Hid (MBox _ _ _ _ _ _) := MA.out.below b_
              replace HBa : Hid (Below _ _ _) := bstep HBa.out b_
              replace RU : Hid (RowU _ _ _) := RU.out.below b_
              replace RC : Hid (RowN _ _ _ _) := RC.out.below b_
              replace RR : Hid (RowN _ _ _ _) := RR.out.below b_
              have WK : Hid (WT v9 kS) := n_
              clear n_ b_ h_
              obtain ⟨⟨z0, z1, z2, z3, z4, z5, z6⟩, zf⟩ := WK.out
              have y0 := zf 0
              have y1 := zf 1
              have y2 := zf 2
              have y3 := zf 3
              have y4 := zf 4
              have y5 := zf 5
              clear zf
              have NKA : kS ≠ ka := by have := L_kS.out; have := HKA.out; omega
              have BP : Bes (some kS) v9 ((((((v9.setCell ⟨kS, 0, none⟩ (.int .i64 (C : Int))).setCell ⟨kS, 1, none⟩ (.int .i64 (C : Int))).setCell ⟨kS, 2, none⟩ (.int .i64 (C : Int))).setCell ⟨kS, 3, none⟩ (.slice (some ⟨gm, 0, none⟩) (C * C) (C * C))).setCell ⟨kS, 4, none⟩ (.slice (some ⟨gr, 0, none⟩) C C)).setCell ⟨kS, 5, none⟩ (.slice (some ⟨gc, 0, none⟩) C C)) := (((((Bes.put v9 kS 0 _).set (p := ⟨kS, 1, none⟩) (.inr rfl) _).set (p := ⟨kS, 2, none⟩) (.inr rfl) _).set (p := ⟨kS, 3, none⟩) (.inr rfl) _).set (p := ⟨kS, 4, none⟩) (.inr rfl) _).set (p := ⟨kS, 5, none⟩) (.inr rfl) _
              have TB_ : TBox ((((((v9.setCell ⟨kS, 0, none⟩ (.int .i64 (C : Int))).setCell ⟨kS, 1, none⟩ (.int .i64 (C : Int))).setCell ⟨kS, 2, none⟩ (.int .i64 (C : Int))).setCell ⟨kS, 3, none⟩ (.slice (some ⟨gm, 0, none⟩) (C * C) (C * C))).setCell ⟨kS, 4, none⟩ (.slice (some ⟨gr, 0, none⟩) C C)).setCell ⟨kS, 5, none⟩ (.slice (some ⟨gc, 0, none⟩) C C)) kS (C : Int) (C : Int) (.slice (some ⟨gm, 0, none⟩) (C * C) (C * C)) (.slice (some ⟨gr, 0, none⟩) C C) (.slice (some ⟨gc, 0, none⟩) C C) := TBox.six _ _ _ _ _ _ _ (by rw [z0]; rfl) (by rw [z1]; rfl) (by rw [z2]; rfl) (by rw [z3]; rfl) (by rw [z4]; rfl) (by rw [z5]; rfl) z6
              refine wpAnyH_ready (rs := [10]) (by kernel_rfl) (by simp) ?_
              refine AllReadyH.cons (o := ({ dst := none, op := Op.store _ (Operand.tmp 3) (Operand.tmp 13), type := _, pos := _, after := _, guard := none } : Oper)) rfl (fun K hK => ?_) AllReadyH.nil
              rw [if_pos (by rfl)]
              refine store_sys _ C gm gr gc kS _ _ _ _ K _ rfl rfl (by rw [z0]; rfl) (by rw [z1]; rfl) (by rw [z2]; rfl) (by rw [z3]; rfl) (by rw [z4]; rfl) (by rw [z5]; rfl) y0 y1 y2 y3 y4 y5 ?_
              refine hK.out _ _ ?_ (fun hHeld => ?_)
              · exact (MA.out.bes BP (ne_some NKA)).cells
              clear hK K hHeld
              (try simp only [Act.put, List.setIfInBounds_toArray, List.set_cons_zero, List.set_cons_succ])
              refine wpAnyH_done (by kernel_rfl) ?_ _
              refine NoPanic.normal ?_
              clear z0 z1 z2 z3 z4 z5 z6 y0 y1 y2 y3 y4 y5
              go_wp2
              go_meet
              exact ⟨kS, gm, gr, gc, xs, rfl, rfl, rfl, ⟨(Ne.symm N_gmkS.out), (Ne.symm N_grkS.out), (Ne.symm N_gckS.out), N_gmgr.out, N_gmgc.out, (Ne.symm N_gcgr.out), L_gm.out, L_gr.out, L_gc.out, L_kS.out⟩, TB_, RU.out.bes BP (ne_some (Ne.symm N_gmkS.out)), HC_, RR.out.bes BP (ne_some (Ne.symm N_grkS.out)), RC.out.bes BP (ne_some (Ne.symm N_gckS.out)), HBa.out.trans (BP.below _ HBa.out.size (fun k e => by injection e with e; have := L_kS.out; omega))⟩
          · go_simp
            have b_ : Below v7.heap.size v7 (v7.alloc (.cells #[.int .i64 0, .int .i64 0, .int .i64 0, .slice none 0 0, .slice none 0 0, .slice none 0 0] 82)) := bmore (Below.refl _ _) _
            refine hK.out _ _ ?_ (fun hHeld => ?_)
            · exact (MA.out.below b_).cells
            clear hK K
            (try simp only [Act.put, List.setIfInBounds_toArray, List.set_cons_zero, List.set_cons_succ])
            have n_ : WT (v7.alloc (.cells #[.int .i64 0, .int .i64 0, .int .i64 0, .slice none 0 0, .slice none 0 0, .slice none 0 0] 82)) v7.heap.size := by
                refine ⟨?_, fun j => ?_⟩
                · refine ⟨?_, ?_, ?_, ?_, ?_, ?_, by simp⟩ <;> simp [go_sem]
                · simp [go_sem]
            obtain ⟨kS, h_⟩ : ∃ k, k = v7.heap.size := ⟨_, rfl⟩
            rw [← h_] at n_ ⊢
            have L_kS : Hid (W0.heap.size ≤ kS) := by have := HBa.out.size; have := h_; show _ ≤ _; omega
            have N_gmkS : Hid (gm ≠ kS) := by have := RU.out.lt; have := h_; show _ ≠ _; omega
            have N_gckS : Hid (gc ≠ kS) := by have := RC.out.lt; have := h_; show _ ≠ _; omega
            generalize (v7.alloc (.cells #[.int .i64 0, .int .i64 0, .int .i64 0, .slice none 0 0, .slice none 0 0, .slice none 0 0] 82)) = v10 at n_ b_ hHeld ⊢
            replace MA : Hid (MBox _ _ _ _ _ _) := MA.out.below b_
            replace HBa : Hid (Below _ _ _) := bstep HBa.out b_
            replace RU : Hid (RowU _ _ _) := RU.out.below b_
            replace RC : Hid (RowN _ _ _ _) := RC.out.below b_
            have WK : Hid (WT v10 kS) := n_
            clear n_ b_ h_
            refine wpAnyH_ready (rs := [4]) (by kernel_rfl) (by simp) ?_
            refine (AllReadyH.cons (o := ({ dst := some 9, op := Op.makeSlice _ (Operand.tmp 8) (Operand.tmp 8), type := _, pos := _, after := _, guard := none } : Oper)) rfl (fun K hK => ?_) AllReadyH.nil)
            · go_simp
              have b_ : Below v10.heap.size v10 (v10.alloc (.cells ON 3)) := bmore (Below.refl _ _) _
              refine hK.out _ _ ?_ (fun hHeld => ?_)
              · exact (MA.out.below b_).cells
              clear hK K
              (try simp only [Act.put, List.setIfInBounds_toArray, List.set_cons_zero, List.set_cons_succ])
              have n_ : RowN (v10.alloc (.cells ON 3)) v10.heap.size C (fun _ => 0) := HON.out v10 _ rfl
              obtain ⟨gr, h_⟩ : ∃ k, k = v10.heap.size := ⟨_, rfl⟩
              rw [← h_] at n_ ⊢
              have L_gr : Hid (W0.heap.size ≤ gr) := by have := HBa.out.size; have := h_; show _ ≤ _; omega
              have N_gmgr : Hid (gm ≠ gr) := by have := RU.out.lt; have := h_; show _ ≠ _; omega
              have N_gcgr : Hid (gc ≠ gr) := by have := RC.out.lt; have := h_; show _ ≠ _; omega
              have N_kSgr : Hid (kS ≠ gr) := by have := WK.out.1.2.2.2.2.2.2; have := h_; show _ ≠ _; omega
              generalize (v10.alloc (.cells ON 3)) = v11 at n_ b_ hHeld ⊢
              replace MA : Hid (MBox _ _ _ _ _ _) := MA.out.below b_
              replace HBa : Hid (Below _ _ _) := bstep HBa.out b_
              replace RU : Hid (RowU _ _ _) := RU.out.below b_
              replace RC : Hid (RowN _ _ _ _) := RC.out.below b_
              replace WK : Hid (WT _ _) := WK.out.below b_
              have RR : Hid (RowN v11 gr C (fun _ => 0)) := n_
              clear n_ b_ h_
              refine wpAnyH_take (i := 8) (oi := ({ dst := some 13, op := Op.build _ #[(0, Operand.tmp 6), (1, Operand.tmp 9), (2, Operand.tmp 12)], type := _, pos := _, after := _, guard := none } : Oper)) (v := (.agg #[.int .i64 (C : Int), .int .i64 (C : Int), .int .i64 (C : Int), .slice (some ⟨gm, 0, none⟩) (C * C) (C * C), .slice (some ⟨gr, 0, none⟩) C C, .slice (some ⟨gc, 0, none⟩) C C])) rfl (by kernel_rfl) (by kernel_rfl) (by kernel_rfl) (fun _ _ _ h => h) (Or.inl ⟨by rfl, ?_⟩) (by assumption) ?_
              · intro w2 hSw; exact build_sys _ _ C gm gr gc _ _ _ _ rfl rfl rfl
              (try simp only [Act.put, List.setIfInBounds_toArray, List.set_cons_zero, List.set_cons_succ])
              obtain ⟨⟨z0, z1, z2, z3, z4, z5, z6⟩, zf⟩ := WK.out
              have y0 := zf 0
              have y1 := zf 1
              have y2 := zf 2
              have y3 := zf 3
              have y4 := zf 4
              have y5 := zf 5
              clear zf
              have NKA : kS ≠ ka := by have := L_kS.out; have := HKA.out; omega
              have BP : Bes (some kS) v11 ((((((v11.setCell ⟨kS, 0, none⟩ (.int .i64 (C : Int))).setCell ⟨kS, 1, none⟩ (.int .i64 (C : Int))).setCell ⟨kS, 2, none⟩ (.int .i64 (C : Int))).setCell ⟨kS, 3, none⟩ (.slice (some ⟨gm, 0, none⟩) (C * C) (C * C))).setCell ⟨kS, 4, none⟩ (.slice (some ⟨gr, 0, none⟩) C C)).setCell ⟨kS, 5, none⟩ (.slice (some ⟨gc, 0, none⟩) C C)) := (((((Bes.put v11 kS 0 _).set (p := ⟨kS, 1, none⟩) (.inr rfl) _).set (p := ⟨kS, 2, none⟩) (.inr rfl) _).set (p := ⟨kS, 3, none⟩) (.inr rfl) _).set (p := ⟨kS, 4, none⟩) (.inr rfl) _).set (p := ⟨kS, 5, none⟩) (.inr rfl) _
              have TB_ : TBox ((((((v11.setCell ⟨kS, 0, none⟩ (.int .i64 (C : Int))).setCell ⟨kS, 1, none⟩ (.int .i64 (C : Int))).setCell ⟨kS, 2, none⟩ (.int .i64 (C : Int))).setCell ⟨kS, 3, none⟩ (.slice (some ⟨gm, 0, none⟩) (C * C) (C * C))).setCell ⟨kS, 4, none⟩ (.slice (some ⟨gr, 0, none⟩) C C)).setCell ⟨kS, 5, none⟩ (.slice (some ⟨gc, 0, none⟩) C C)) kS (C : Int) (C : Int) (.slice (some ⟨gm, 0, none⟩) (C * C) (C * C)) (.slice (some ⟨gr, 0, none⟩) C C) (.slice (some ⟨gc, 0, none⟩) C C) := TBox.six _ _ _ _ _ _ _ (by rw [z0]; rfl) (by rw [z1]; rfl) (by rw [z2]; rfl) (by rw [z3]; rfl) (by rw [z4]; rfl) (by rw [z5]; rfl) z6
              refine wpAnyH_ready (rs := [10]) (by kernel_rfl) (by simp) ?_
              refine AllReadyH.cons (o := ({ dst := none, op := Op.store _ (Operand.tmp 3) (Operand.tmp 13), type := _, pos := _, after := _, guard := none } : Oper)) rfl (fun K hK => ?_) AllReadyH.nil
              rw [if_pos (by rfl)]
              refine store_sys _ C gm gr gc kS _ _ _ _ K _ rfl rfl (by rw [z0]; rfl) (by rw [z1]; rfl) (by rw [z2]; rfl) (by rw [z3]; rfl) (by rw [z4]; rfl) (by rw [z5]; rfl) y0 y1 y2 y3 y4 y5 ?_
              refine hK.out _ _ ?_ (fun hHeld => ?_)
              · exact (MA.out.bes BP (ne_some NKA)).cells
              clear hK K hHeld
              (try simp only [Act.put, List.setIfInBounds_toArray, List.set_cons_zero, List.set_cons_succ])
              refine wpAnyH_done (by kernel_rfl) ?_ _
              refine NoPanic.normal ?_
              clear z0 z1 z2 z3 z4 z5 z6 y0 y1 y2 y3 y4 y5
              go_wp2
              go_meet
              exact ⟨kS, gm, gr, gc, xs, rfl, rfl, rfl, ⟨(Ne.symm N_gmkS.out), N_kSgr.out, (Ne.symm N_gckS.out), N_gmgr.out, N_gmgc.out, (Ne.symm N_gcgr.out), L_gm.out, L_gr.out, L_gc.out, L_kS.out⟩, TB_, RU.out.bes BP (ne_some (Ne.symm N_gmkS.out)), HC_, RR.out.bes BP (ne_some N_kSgr.out), RC.out.bes BP (ne_some (Ne.symm N_gckS.out)), HBa.out.trans (BP.below _ HBa.out.size (fun k e => by injection e with e; have := L_kS.out; omega))⟩
        · go_simp
          have b_ : Below v1.heap.size v1 (v1.alloc (.cells #[.int .i64 0, .int .i64 0, .int .i64 0, .slice none 0 0, .slice none 0 0, .slice none 0 0] 82)) := bmore (Below.refl _ _) _
          refine hK.out _ _ ?_ (fun hHeld => ?_)
          · exact (MA.out.below b_).cells
          clear hK K
          (try simp only [Act.put, List.setIfInBounds_toArray, List.set_cons_zero, List.set_cons_succ])
          have n_ : WT (v1.alloc (.cells #[.int .i64 0, .int .i64 0, .int .i64 0, .slice none 0 0, .slice none 0 0, .slice none 0 0] 82)) v1.heap.size := by
              refine ⟨?_, fun j => ?_⟩
              · refine ⟨?_, ?_, ?_, ?_, ?_, ?_, by simp⟩ <;> simp [go_sem]
              · simp [go_sem]
          obtain ⟨kS, h_⟩ : ∃ k, k = v1.heap.size := ⟨_, rfl⟩
          rw [← h_] at n_ ⊢
          have L_kS : Hid (W0.heap.size ≤ kS) := by have := HBa.out.size; have := h_; show _ ≤ _; omega
          have N_gmkS : Hid (gm ≠ kS) := by have := RU.out.lt; have := h_; show _ ≠ _; omega
          generalize (v1.alloc (.cells #[.int .i64 0, .int .i64 0, .int .i64 0, .slice none 0 0, .slice none 0 0, .slice none 0 0] 82)) = v12 at n_ b_ hHeld ⊢
          replace MA : Hid (MBox _ _ _ _ _ _) := MA.out.below b_
          replace HBa : Hid (Below _ _ _) := bstep HBa.out b_
          replace RU : Hid (RowU _ _ _) := RU.out.below b_
          have WK : Hid (WT v12 kS) := n_
          clear n_ b_ h_
          refine wpAnyH_ready (rs := [4, 7]) (by kernel_rfl) (by simp) ?_
          refine (AllReadyH.cons (o := ({ dst := some 9, op := Op.makeSlice _ (Operand.tmp 8) (Operand.tmp 8), type := _, pos := _, after := _, guard := none } : Oper)) rfl (fun K hK => ?_) (AllReadyH.cons (o := ({ dst := some 12, op := Op.makeSlice _ (Operand.tmp 11) (Operand.tmp 11), type := _, pos := _, after := _, guard := none } : Oper)) rfl (fun K hK => ?_) AllReadyH.nil))
          · go_simp
            have b_ : Below v12.heap.size v12 (v12.alloc (.cells ON 3)) := bmore (Below.refl _ _) _
            refine hK.out _ _ ?_ (fun hHeld => ?_)
            · exact (MA.out.below b_).cells
            clear hK K
            (try simp only [Act.put, List.setIfInBounds_toArray, List.set_cons_zero, List.set_cons_succ])
            have n_ : RowN (v12.alloc (.cells ON 3)) v12.heap.size C (fun _ => 0) := HON.out v12 _ rfl
            obtain ⟨gr, h_⟩ : ∃ k, k = v12.heap.size := ⟨_, rfl⟩
            rw [← h_] at n_ ⊢
            have L_gr : Hid (W0.heap.size ≤ gr) := by have := HBa.out.size; have := h_; show _ ≤ _; omega
            have N_gmgr : Hid (gm ≠ gr) := by have := RU.out.lt; have := h_; show _ ≠ _; omega
            have N_kSgr : Hid (kS ≠ gr) := by have := WK.out.1.2.2.2.2.2.2; have := h_; show _ ≠ _; omega
            generalize (v12.alloc (.cells ON 3)) = v13 at n_ b_ hHeld ⊢
            replace MA : Hid (MBox _ _ _ _ _ _) := MA.out.below b_
            replace HBa : Hid (Below _ _ _) := bstep HBa.out b_
            replace RU : Hid (RowU _ _ _) := RU.out.below b_
            replace WK : Hid (WT _ _) := WK.out.below b_
            have RR : Hid (RowN v13 gr C (fun _ => 0)) := n_
            clear n_ b_ h_
            refine wpAnyH_ready (rs := [7]) (by kernel_rfl) (by simp) ?_
            refine (AllReadyH.cons (o := ({ dst := some 12, op := Op.makeSlice _ (Operand.tmp 11) (Operand.tmp 11), type := _, pos := _, after := _, guard := none } : Oper)) rfl (fun K hK => ?_) AllReadyH.nil)
            · go_simp
              have b_ : Below v13.heap.size v13 (v13.alloc (.cells ON 3)) := bmore (Below.refl _ _) _
              refine hK.out _ _ ?_ (fun hHeld => ?_)
              · exact (MA.out.below b_).cells
              clear hK K
              (try simp only [Act.put, List.setIfInBounds_toArray, List.set_cons_zero, List.set_cons_succ])
              have n_ : RowN (v13.alloc (.cells ON 3)) v13.heap.size C (fun _ => 0) := HON.out v13 _ rfl
              obtain ⟨gc, h_⟩ : ∃ k, k = v13.heap.size := ⟨_, rfl⟩
              rw [← h_] at n_ ⊢
              have L_gc : Hid (W0.heap.size ≤ gc) := by have := HBa.out.size; have := h_; show _ ≤ _; omega
              have N_gmgc : Hid (gm ≠ gc) := by have := RU.out.lt; have := h_; show _ ≠ _; omega
              have N_kSgc : Hid (kS ≠ gc) := by have := WK.out.1.2.2.2.2.2.2; have := h_; show _ ≠ _; omega
              have N_grgc : Hid (gr ≠ gc) := by have := RR.out.lt; have := h_; show _ ≠ _; omega
              generalize (v13.alloc (.cells ON 3)) = v14 at n_ b_ hHeld ⊢
              replace MA : Hid (MBox _ _ _ _ _ _) := MA.out.below b_
              replace HBa : Hid (Below _ _ _) := bstep HBa.out b_
              replace RU : Hid (RowU _ _ _) := RU.out.below b_
              replace WK : Hid (WT _ _) := WK.out.below b_
              replace RR : Hid (RowN _ _ _ _) := RR.out.below b_
              have RC : Hid (RowN v14 gc C (fun _ => 0)) := n_
              clear n_ b_ h_
              refine wpAnyH_take (i := 8) (oi := ({ dst := some 13, op := Op.build _ #[(0, Operand.tmp 6), (1, Operand.tmp 9), (2, Operand.tmp 12)], type := _, pos := _, after := _, guard := none } : Oper)) (v := (.agg #[.int .i64 (C : Int), .int .i64 (C : Int), .int .i64 (C : Int), .slice (some ⟨gm, 0, none⟩) (C * C) (C * C), .slice (some ⟨gr, 0, none⟩) C C, .slice (some ⟨gc, 0, none⟩) C C])) rfl (by kernel_rfl) (by kernel_rfl) (by kernel_rfl) (fun _ _ _ h => h) (Or.inl ⟨by rfl, ?_⟩) (by assumption) ?_
              · intro w2 hSw; exact build_sys _ _ C gm gr gc _ _ _ _ rfl rfl rfl
              (try simp only [Act.put, List.setIfInBounds_toArray, List.set_cons_zero, List.set_cons_succ])
              obtain ⟨⟨z0, z1, z2, z3, z4, z5, z6⟩, zf⟩ := WK.out
              have y0 := zf 0
              have y1 := zf 1
              have y2 := zf 2
              have y3 := zf 3
              have y4 := zf 4
              have y5 := zf 5
              clear zf
              have NKA : kS ≠ ka := by have := L_kS.out; have := HKA.out; omega
              have BP : Bes (some kS) v14 ((((((v14.setCell ⟨kS, 0, none⟩ (.int .i64 (C : Int))).setCell ⟨kS, 1, none⟩ (.int .i64 (C : Int))).setCell ⟨kS, 2, none⟩ (.int .i64 (C : Int))).setCell ⟨kS, 3, none⟩ (.slice (some ⟨gm, 0, none⟩) (C * C) (C * C))).setCell ⟨kS, 4, none⟩ (.slice (some ⟨gr, 0, none⟩) C C)).setCell ⟨kS, 5, none⟩ (.slice (some ⟨gc, 0, none⟩) C C)) := (((((Bes.put v14 kS 0 _).set (p := ⟨kS, 1, none⟩) (.inr rfl) _).set (p := ⟨kS, 2, none⟩) (.inr rfl) _).set (p := ⟨kS, 3, none⟩) (.inr rfl) _).set (p := ⟨kS, 4, none⟩) (.inr rfl) _).set (p := ⟨kS, 5, none⟩) (.inr rfl) _
              have TB_ : TBox ((((((v14.setCell ⟨kS, 0, none⟩ (.int .i64 (C : Int))).setCell ⟨kS, 1, none⟩ (.int .i64 (C : Int))).setCell ⟨kS, 2, none⟩ (.int .i64 (C : Int))).setCell ⟨kS, 3, none⟩ (.slice (some ⟨gm, 0, none⟩) (C * C) (C * C))).setCell ⟨kS, 4, none⟩ (.slice (some ⟨gr, 0, none⟩) C C)).setCell ⟨kS, 5, none⟩ (.slice (some ⟨gc, 0, none⟩) C C)) kS (C : Int) (C : Int) (.slice (some ⟨gm, 0, none⟩) (C * C) (C * C)) (.slice (some ⟨gr, 0, none⟩) C C) (.slice (some ⟨gc, 0, none⟩) C C) := TBox.six _ _ _ _ _ _ _ (by rw [z0]; rfl) (by rw [z1]; rfl) (by rw [z2]; rfl) (by rw [z3]; rfl) (by rw [z4]; rfl) (by rw [z5]; rfl) z6
              refine wpAnyH_ready (rs := [10]) (by kernel_rfl) (by simp) ?_
              refine AllReadyH.cons (o := ({ dst := none, op := Op.store _ (Operand.tmp 3) (Operand.tmp 13), type := _, pos := _, after := _, guard := none } : Oper)) rfl (fun K hK => ?_) AllReadyH.nil
              rw [if_pos (by rfl)]
              refine store_sys _ C gm gr gc kS _ _ _ _ K _ rfl rfl (by rw [z0]; rfl) (by rw [z1]; rfl) (by rw [z2]; rfl) (by rw [z3]; rfl) (by rw [z4]; rfl) (by rw [z5]; rfl) y0 y1 y2 y3 y4 y5 ?_
              refine hK.out _ _ ?_ (fun hHeld => ?_)
              · exact (MA.out.bes BP (ne_some NKA)).cells
              clear hK K hHeld
              (try simp only [Act.put, List.setIfInBounds_toArray, List.set_cons_zero, List.set_cons_succ])
              refine wpAnyH_done (by kernel_rfl) ?_ _
              refine NoPanic.normal ?_
              clear z0 z1 z2 z3 z4 z5 z6 y0 y1 y2 y3 y4 y5
              go_wp2
              go_meet
              exact ⟨kS, gm, gr, gc, xs, rfl, rfl, rfl, ⟨(Ne.symm N_gmkS.out), N_kSgr.out, N_kSgc.out, N_gmgr.out, N_gmgc.out, N_grgc.out, L_gm.out, L_gr.out, L_gc.out, L_kS.out⟩, TB_, RU.out.bes BP (ne_some (Ne.symm N_gmkS.out)), HC_, RR.out.bes BP (ne_some N_kSgr.out), RC.out.bes BP (ne_some N_kSgc.out), HBa.out.trans (BP.below _ HBa.out.size (fun k e => by injection e with e; have := L_kS.out; omega))⟩
          · go_simp
            have b_ : Below v12.heap.size v12 (v12.alloc (.cells ON 3)) := bmore (Below.refl _ _) _
            refine hK.out _ _ ?_ (fun hHeld => ?_)
            · exact (MA.out.below b_).cells
            clear hK K
            (try simp only [Act.put, List.setIfInBounds_toArray, List.set_cons_zero, List.set_cons_succ])
            have n_ : RowN (v12.alloc (.cells ON 3)) v12.heap.size C (fun _ => 0) := HON.out v12 _ rfl
            obtain ⟨gc, h_⟩ : ∃ k, k = v12.heap.size := ⟨_, rfl⟩
            rw [← h_] at n_ ⊢
            have L_gc : Hid (W0.heap.size ≤ gc) := by have := HBa.out.size; have := h_; show _ ≤ _; omega
            have N_gmgc : Hid (gm ≠ gc) := by have := RU.out.lt; have := h_; show _ ≠ _; omega
            have N_kSgc : Hid (kS ≠ gc) := by have := WK.out.1.2.2.2.2.2.2; have := h_; show _ ≠ _; omega
            generalize (v12.alloc (.cells ON 3)) = v15 at n_ b_ hHeld ⊢
            replace MA : Hid (MBox _ _ _ _ _ _) := MA.out.below b_
            replace HBa : Hid (Below _ _ _) := bstep HBa.out b_
            replace RU : Hid (RowU _ _ _) := RU.out.below b_
            replace WK : Hid (WT _ _) := WK.out.below b_
            have RC : Hid (RowN v15 gc C (fun _ => 0)) := n_
            clear n_ b_ h_
            refine wpAnyH_ready (rs := [4]) (by kernel_rfl) (by simp) ?_
            refine (AllReadyH.cons (o := ({ dst := some 9, op := Op.makeSlice _ (Operand.tmp 8) (Operand.tmp 8), type := _, pos := _, after := _, guard := none } : Oper)) rfl (fun K hK => ?_) AllReadyH.nil)
            · go_simp
              have b_ : Below v15.heap.size v15 (v15.alloc (.cells ON 3)) := bmore (Below.refl _ _) _
              refine hK.out _ _ ?_ (fun hHeld => ?_)
              · exact (MA.out.below b_).cells
              clear hK K
              (try simp only [Act.put, List.setIfInBounds_toArray, List.set_cons_zero, List.set_cons_succ])
              have n_ : RowN (v15.alloc (.cells ON 3)) v15.heap.size C (fun _ => 0) := HON.out v15 _ rfl
              obtain ⟨gr, h_⟩ : ∃ k, k = v15.heap.size := ⟨_, rfl⟩
              rw [← h_] at n_ ⊢
              have L_gr : Hid (W0.heap.size ≤ gr) := by have := HBa.out.size; have := h_; show _ ≤ _; omega
              have N_gmgr : Hid (gm ≠ gr) := by have := RU.out.lt; have := h_; show _ ≠ _; omega
              have N_kSgr : Hid (kS ≠ gr) := by have := WK.out.1.2.2.2.2.2.2; have := h_; show _ ≠ _; omega
              have N_gcgr : Hid (gc ≠ gr) := by have := RC.out.lt; have := h_; show _ ≠ _; omega
              generalize (v15.alloc (.cells ON 3)) = v16 at n_ b_ hHeld ⊢
              replace MA : Hid (MBox _ _ _ _ _ _) := MA.out.below b_
              replace HBa : Hid (Below _ _ _) := bstep HBa.out b_
              replace RU : Hid (RowU _ _ _) := RU.out.below b_
              replace WK : Hid (WT _ _) := WK.out.below b_
              replace RC : Hid (RowN _ _ _ _) := RC.out.below b_
              have RR : Hid (RowN v16 gr C (fun _ => 0)) := n_
              clear n_ b_ h_
              refine wpAnyH_take (i := 8) (oi := ({ dst := some 13, op := Op.build _ #[(0, Operand.tmp 6), (1, Operand.tmp 9), (2, Operand.tmp 12)], type := _, pos := _, after := _, guard := none } : Oper)) (v := (.agg #[.int .i64 (C : Int), .int .i64 (C : Int), .int .i64 (C : Int), .slice (some ⟨gm, 0, none⟩) (C * C) (C * C), .slice (some ⟨gr, 0, none⟩) C C, .slice (some ⟨gc, 0, none⟩) C C])) rfl (by kernel_rfl) (by kernel_rfl) (by kernel_rfl) (fun _ _ _ h => h) (Or.inl ⟨by rfl, ?_⟩) (by assumption) ?_
              · intro w2 hSw; exact build_sys _ _ C gm gr gc _ _ _ _ rfl rfl rfl
              (try simp only [Act.put, List.setIfInBounds_toArray, List.set_cons_zero, List.set_cons_succ])
              obtain ⟨⟨z0, z1, z2, z3, z4, z5, z6⟩, zf⟩ := WK.out
              have y0 := zf 0
              have y1 := zf 1
              have y2 := zf 2
              have y3 := zf 3
              have y4 := zf 4
              have y5 := zf 5
              clear zf
              have NKA : kS ≠ ka := by have := L_kS.out; have := HKA.out; omega
              have BP : Bes (some kS) v16 ((((((v16.setCell ⟨kS, 0, none⟩ (.int .i64 (C : Int))).setCell ⟨kS, 1, none⟩ (.int .i64 (C : Int))).setCell ⟨kS, 2, none⟩ (.int .i64 (C : Int))).setCell ⟨kS, 3, none⟩ (.slice (some ⟨gm, 0, none⟩) (C * C) (C * C))).setCell ⟨kS, 4, none⟩ (.slice (some ⟨gr, 0, none⟩) C C)).setCell ⟨kS, 5, none⟩ (.slice (some ⟨gc, 0, none⟩) C C)) := (((((Bes.put v16 kS 0 _).set (p := ⟨kS, 1, none⟩) (.inr rfl) _).set (p := ⟨kS, 2, none⟩) (.inr rfl) _).set (p := ⟨kS, 3, none⟩) (.inr rfl) _).set (p := ⟨kS, 4, none⟩) (.inr rfl) _).set (p := ⟨kS, 5, none⟩) (.inr rfl) _
              have TB_ : TBox ((((((v16.setCell ⟨kS, 0, none⟩ (.int .i64 (C : Int))).setCell ⟨kS, 1, none⟩ (.int .i64 (C : Int))).setCell ⟨kS, 2, none⟩ (.int .i64 (C : Int))).setCell ⟨kS, 3, none⟩ (.slice (some ⟨gm, 0, none⟩) (C * C) (C * C))).setCell ⟨kS, 4, none⟩ (.slice (some ⟨gr, 0, none⟩) C C)).setCell ⟨kS, 5, none⟩ (.slice (some ⟨gc, 0, none⟩) C C)) kS (C : Int) (C : Int) (.slice (some ⟨gm, 0, none⟩) (C * C) (C * C)) (.slice (some ⟨gr, 0, none⟩) C C) (.slice (some ⟨gc, 0, none⟩) C C) := TBox.six _ _ _ _ _ _ _ (by rw [z0]; rfl) (by rw [z1]; rfl) (by rw [z2]; rfl) (by rw [z3]; rfl) (by rw [z4]; rfl) (by rw [z5]; rfl) z6
              refine wpAnyH_ready (rs := [10]) (by kernel_rfl) (by simp) ?_
              refine AllReadyH.cons (o := ({ dst := none, op := Op.store _ (Operand.tmp 3) (Operand.tmp 13), type := _, pos := _, after := _, guard := none } : Oper)) rfl (fun K hK => ?_) AllReadyH.nil
              rw [if_pos (by rfl)]
              refine store_sys _ C gm gr gc kS _ _ _ _ K _ rfl rfl (by rw [z0]; rfl) (by rw [z1]; rfl) (by rw [z2]; rfl) (by rw [z3]; rfl) (by rw [z4]; rfl) (by rw [z5]; rfl) y0 y1 y2 y3 y4 y5 ?_
              refine hK.out _ _ ?_ (fun hHeld => ?_)
              · exact (MA.out.bes BP (ne_some NKA)).cells
              clear hK K hHeld
              (try simp only [Act.put, List.setIfInBounds_toArray, List.set_cons_zero, List.set_cons_succ])
              refine wpAnyH_done (by kernel_rfl) ?_ _
              refine NoPanic.normal ?_
              clear z0 z1 z2 z3 z4 z5 z6 y0 y1 y2 y3 y4 y5
              go_wp2
              go_meet
              exact ⟨kS, gm, gr, gc, xs, rfl, rfl, rfl, ⟨(Ne.symm N_gmkS.out), N_kSgr.out, N_kSgc.out, N_gmgr.out, N_gmgc.out, (Ne.symm N_gcgr.out), L_gm.out, L_gr.out, L_gc.out, L_kS.out⟩, TB_, RU.out.bes BP (ne_some (Ne.symm N_gmkS.out)), HC_, RR.out.bes BP (ne_some N_kSgr.out), RC.out.bes BP (ne_some N_kSgc.out), HBa.out.trans (BP.below _ HBa.out.size (fun k e => by injection e with e; have := L_kS.out; omega))⟩
      · go_simp
        have b_ : Below v0.heap.size v0 (v0.alloc (.cells ON 3)) := bmore (Below.refl _ _) _
        refine hK.out _ _ ?_ (fun hHeld => ?_)
        · exact (MA.out.below b_).cells
        clear hK K
        (try simp only [Act.put, List.setIfInBounds_toArray, List.set_cons_zero, List.set_cons_succ])
        have n_ : RowN (v0.alloc (.cells ON 3)) v0.heap.size C (fun _ => 0) := HON.out v0 _ rfl
        obtain ⟨gr, h_⟩ : ∃ k, k = v0.heap.size := ⟨_, rfl⟩
        rw [← h_] at n_ ⊢
        have L_gr : Hid (W0.heap.size ≤ gr) := by have := HBa.out.size; have := h_; show _ ≤ _; omega
        generalize (v0.alloc (.cells ON 3)) = v17 at n_ b_ hHeld ⊢
        replace MA : Hid (MBox _ _ _ _ _ _) := MA.out.below b_
        replace HBa : Hid (Below _ _ _) := bstep HBa.out b_
        have RR : Hid (RowN v17 gr C (fun _ => 0)) := n_
        clear n_ b_ h_
        refine wpAnyH_ready (rs := [1, 7, 9]) (by kernel_rfl) (by simp) ?_
        refine (AllReadyH.cons (o := ({ dst := some 6, op := Op.call { callee := Callee.value (Operand.func _), args := #[Operand.tmp 5], argTypes := _ }, type := _, pos := _, after := _, guard := none } : Oper)) rfl (fun K hK => ?_) (AllReadyH.cons (o := ({ dst := some 12, op := Op.makeSlice _ (Operand.tmp 11) (Operand.tmp 11), type := _, pos := _, after := _, guard := none } : Oper)) rfl (fun K hK => ?_) (AllReadyH.cons (o := ({ dst := some 3, op := Op.alloc _, type := _, pos := _, after := _, guard := none } : Oper)) rfl (fun K hK => ?_) AllReadyH.nil)))
        · go_simp
          go_at_call 21
          refine (mClone C C S a len cap Z _ HH.out ((UZ.out.below BW.out).below HBa.out) hsq).mono ?_
          rintro e v18 ⟨gm, xs, rfl, hg_, hR_, hC_, hb_⟩
          (try go_wp2_with fail)
          have L_gm : Hid (W0.heap.size ≤ gm) := by have := HBa.out.size; have := hg_; show _ ≤ _; omega
          have N_grgm : Hid (gr ≠ gm) := by have := RR.out.lt; have := hg_; show _ ≠ _; omega
          replace MA : Hid (MBox _ _ _ _ _ _) := MA.out.below hb_
          replace HBa : Hid (Below _ _ _) := bstep HBa.out hb_
          replace RR : Hid (RowN _ _ _ _) := RR.out.below hb_
          have RU : Hid (RowU v18 gm xs) := hR_
          have HC_ : Hid (CutI xs Z S 0 0 C C C) := hC_
          refine hK.out _ _ ?_ (fun hHeld => ?_)
          · exact MA.out.cells
          clear hK K hb_ hg_ hR_ hC_
          (try simp only [Act.put, List.setIfInBounds_toArray, List.set_cons_zero, List.set_cons_succ])
          refine wpAnyH_ready (rs := [7, 9]) (by kernel_rfl) (by simp) ?_
          refine (AllReadyH.cons (o := ({ dst := some 12, op := Op.makeSlice _ (Operand.tmp 11) (Operand.tmp 11), type := _, pos := _, after := _, guard := none } : Oper)) rfl (fun K hK => ?_) (AllReadyH.cons (o := ({ dst := some 3, op := Op.alloc _, type := _, pos := _, after := _, guard := none } : Oper)) rfl (fun K hK => ?_) AllReadyH.nil))
          · go_simp
            have b_ : Below v18.heap.size v18 (v18.alloc (.cells ON 3)) := bmore (Below.refl _ _) _
            refine hK.out _ _ ?_ (fun hHeld => ?_)
            · exact (MA.out.below b_).cells
            clear hK K
            (try simp only [Act.put, List.setIfInBounds_toArray, List.set_cons_zero, List.set_cons_succ])
            have n_ : RowN (v18.alloc (.cells ON 3)) v18.heap.size C (fun _ => 0) := HON.out v18 _ rfl
            obtain ⟨gc, h_⟩ : ∃ k, k = v18.heap.size := ⟨_, rfl⟩
            rw [← h_] at n_ ⊢
            have L_gc : Hid (W0.heap.size ≤ gc) := by have := HBa.out.size; have := h_; show _ ≤ _; omega
            have N_grgc : Hid (gr ≠ gc) := by have := RR.out.lt; have := h_; show _ ≠ _; omega
            have N_gmgc : Hid (gm ≠ gc) := by have := RU.out.lt; have := h_; show _ ≠ _; omega
            generalize (v18.alloc (.cells ON 3)) = v19 at n_ b_ hHeld ⊢
            replace MA : Hid (MBox _ _ _ _ _ _) := MA.out.below b_
            replace HBa : Hid (Below _ _ _) := bstep HBa.out b_
            replace RR : Hid (RowN _ _ _ _) := RR.out.below b_
            replace RU : Hid (RowU _ _ _) := RU.out.below b_
            have RC : Hid (RowN v19 gc C (fun _ => 0)) := n_
            clear n_ b_ h_
            refine wpAnyH_take (i := 8) (oi := ({ dst := some 13, op := Op.build _ #[(0, Operand.tmp 6), (1, Operand.tmp 9), (2, Operand.tmp 12)], type := _, pos := _, after := _, guard := none } : Oper)) (v := (.agg #[.int .i64 (C : Int), .int .i64 (C : Int), .int .i64 (C : Int), .slice (some ⟨gm, 0, none⟩) (C * C) (C * C), .slice (some ⟨gr, 0, none⟩) C C, .slice (some ⟨gc, 0, none⟩) C C])) rfl (by kernel_rfl) (by kernel_rfl) (by kernel_rfl) (fun _ _ _ h => h) (Or.inl ⟨by rfl, ?_⟩) (by assumption) ?_
            · intro w2 hSw; exact build_sys _ _ C gm gr gc _ _ _ _ rfl rfl rfl
            (try simp only [Act.put, List.setIfInBounds_toArray, List.set_cons_zero, List.set_cons_succ])
            refine wpAnyH_ready (rs := [9]) (by kernel_rfl) (by simp) ?_
            refine (AllReadyH.cons (o := ({ dst := some 3, op := Op.alloc _, type := _, pos := _, after := _, guard := none } : Oper)) rfl (fun K hK => ?_) AllReadyH.nil)
            · go_simp
              have b_ : Below v19.heap.size v19 (v19.alloc (.cells #[.int .i64 0, .int .i64 0, .int .i64 0, .slice none 0 0, .slice none 0 0, .slice none 0 0] 82)) := bmore (Below.refl _ _) _
              refine hK.out _ _ ?_ (fun hHeld => ?_)
              · exact (MA.out.below b_).cells
              clear hK K
              (try simp only [Act.put, List.setIfInBounds_toArray, List.set_cons_zero, List.set_cons_succ])
              have n_ : WT (v19.alloc (.cells #[.int .i64 0, .int .i64 0, .int .i64 0, .slice none 0 0, .slice none 0 0, .slice none 0 0] 82)) v19.heap.size := by
                  refine ⟨?_, fun j => ?_⟩
                  · refine ⟨?_, ?_, ?_, ?_, ?_, ?_, by simp⟩ <;> simp [go_sem]
                  · simp [go_sem]
              obtain ⟨kS, h_⟩ : ∃ k, k = v19.heap.size := ⟨_, rfl⟩
              rw [← h_] at n_ ⊢
              have L_kS : Hid (W0.heap.size ≤ kS) := by have := HBa.out.size; have := h_; show _ ≤ _; omega
              have N_grkS : Hid (gr ≠ kS) := by have := RR.out.lt; have := h_; show _ ≠ _; omega
              have N_gmkS : Hid (gm ≠ kS) := by have := RU.out.lt; have := h_; show _ ≠ _; omega
              have N_gckS : Hid (gc ≠ kS) := by have := RC.out.lt; have := h_; show _ ≠ _; omega
              generalize (v19.alloc (.cells #[.int .i64 0, .int .i64 0, .int .i64 0, .slice none 0 0, .slice none 0 0, .slice none 0 0] 82)) = v20 at n_ b_ hHeld ⊢
              replace MA : Hid (MBox _ _ _ _ _ _) := MA.out.below b_
              replace HBa : Hid (Below _ _ _) := bstep HBa.out b_
              replace RR : Hid (RowN _ _ _ _) := RR.out.below b_
              replace RU : Hid (RowU _ _ _) := RU.out.below b_
              replace RC : Hid (RowN _ _ _ _) := RC.out.below b_
              have WK : Hid (WT v20 kS) := n_
              clear n_ b_ h_
              obtain ⟨⟨z0, z1, z2, z3, z4, z5, z6⟩, zf⟩ := WK.out
              have y0 := zf 0
              have y1 := zf 1
              have y2 := zf 2
              have y3 := zf 3
              have y4 := zf 4
              have y5 := zf 5
              clear zf
              have NKA : kS ≠ ka := by have := L_kS.out; have := HKA.out; omega
              have BP : Bes (some kS) v20 ((((((v20.setCell ⟨kS, 0, none⟩ (.int .i64 (C : Int))).setCell ⟨kS, 1, none⟩ (.int .i64 (C : Int))).setCell ⟨kS, 2, none⟩ (.int .i64 (C : Int))).setCell ⟨kS, 3, none⟩ (.slice (some ⟨gm, 0, none⟩) (C * C) (C * C))).setCell ⟨kS, 4, none⟩ (.slice (some ⟨gr, 0, none⟩) C C)).setCell ⟨kS, 5, none⟩ (.slice (some ⟨gc, 0, none⟩) C C)) := (((((Bes.put v20 kS 0 _).set (p := ⟨kS, 1, none⟩) (.inr rfl) _).set (p := ⟨kS, 2, none⟩) (.inr rfl) _).set (p := ⟨kS, 3, none⟩) (.inr rfl) _).set (p := ⟨kS, 4, none⟩) (.inr rfl) _).set (p := ⟨kS, 5, none⟩) (.inr rfl) _
              have TB_ : TBox ((((((v20.setCell ⟨kS, 0, none⟩ (.int .i64 (C : Int))).setCell ⟨kS, 1, none⟩ (.int .i64 (C : Int))).setCell ⟨kS, 2, none⟩ (.int .i64 (C : Int))).setCell ⟨kS, 3, none⟩ (.slice (some ⟨gm, 0, none⟩) (C * C) (C * C))).setCell ⟨kS, 4, none⟩ (.slice (some ⟨gr, 0, none⟩) C C)).setCell ⟨kS, 5, none⟩ (.slice (some ⟨gc, 0, none⟩) C C)) kS (C : Int) (C : Int) (.slice (some ⟨gm, 0, none⟩) (C * C) (C * C)) (.slice (some ⟨gr, 0, none⟩) C C) (.slice (some ⟨gc, 0, none⟩) C C) := TBox.six _ _ _ _ _ _ _ (by rw [z0]; rfl) (by rw [z1]; rfl) (by rw [z2]; rfl) (by rw [z3]; rfl) (by rw [z4]; rfl) (by rw [z5]; rfl) z6
              refine wpAnyH_ready (rs := [10]) (by kernel_rfl) (by simp) ?_
              refine AllReadyH.cons (o := ({ dst := none, op := Op.store _ (Operand.tmp 3) (Operand.tmp 13), type := _, pos := _, after := _, guard := none } : Oper)) rfl (fun K hK => ?_) AllReadyH.nil
              rw [if_pos (by rfl)]
              refine store_sys _ C gm gr gc kS _ _ _ _ K _ rfl rfl (by rw [z0]; rfl) (by rw [z1]; rfl) (by rw [z2]; rfl) (by rw [z3]; rfl) (by rw [z4]; rfl) (by rw [z5]; rfl) y0 y1 y2 y3 y4 y5 ?_
              refine hK.out _ _ ?_ (fun hHeld => ?_)
              · exact (MA.out.bes BP (ne_some NKA)).cells
              clear hK K hHeld
              (try simp only [Act.put, List.setIfInBounds_toArray, List.set_cons_zero, List.set_cons_succ])
              refine wpAnyH_done (by kernel_rfl) ?_ _
              refine NoPanic.normal ?_
              clear z0 z1 z2 z3 z4 z5 z6 y0 y1 y2 y3 y4 y5
              go_wp2
              go_meet
              exact ⟨kS, gm, gr, gc, xs, rfl, rfl, rfl, ⟨(Ne.symm N_gmkS.out), (Ne.symm N_grkS.out), (Ne.symm N_gckS.out), (Ne.symm N_grgm.out), N_gmgc.out, N_grgc.out, L_gm.out, L_gr.out, L_gc.out, L_kS.out⟩, TB_, RU.out.bes BP (ne_some (Ne.symm N_gmkS.out)), HC_, RR.out.bes BP (ne_some (Ne.symm N_grkS.out)), RC.out.bes BP (ne_some (Ne.symm N_gckS.out)), HBa.out.trans (BP.below _ HBa.out.size (fun k e => by injection e with e; have := L_kS.out; omega))⟩
          · go_simp
            have b_ : Below v18.heap.size v18 (v18.alloc (.cells #[.int .i64 0, .int .i64 0, .int .i64 0, .slice none 0 0, .slice none 0 0, .slice none 0 0] 82)) := bmore (Below.refl _ _) _
            refine hK.out _ _ ?_ (fun hHeld => ?_)
            · exact (MA.out.below b_).cells
            clear hK K
            (try simp only [Act.put, List.setIfInBounds_toArray, List.set_cons_zero, List.set_cons_succ])
            have n_ : WT (v18.alloc (.cells #[.int .i64 0, .int .i64 0, .int .i64 0, .slice none 0 0, .slice none 0 0, .slice none 0 0] 82)) v18.heap.size := by
                refine ⟨?_, fun j => ?_⟩
                · refine ⟨?_, ?_, ?_, ?_, ?_, ?_, by simp⟩ <;> simp [go_sem]
                · simp [go_sem]
            obtain ⟨kS, h_⟩ : ∃ k, k = v18.heap.size := ⟨_, rfl⟩
            rw [← h_] at n_ ⊢
            have L_kS : Hid (W0.heap.size ≤ kS) := by have := HBa.out.size; have := h_; show _ ≤ _; omega
            have N_grkS : Hid (gr ≠ kS) := by have := RR.out.lt; have := h_; show _ ≠ _; omega
            have N_gmkS : Hid (gm ≠ kS) := by have := RU.out.lt; have := h_; show _ ≠ _; omega
            generalize (v18.alloc (.cells #[.int .i64 0, .int .i64 0, .int .i64 0, .slice none 0 0, .slice none 0 0, .slice none 0 0] 82)) = v21 at n_ b_ hHeld ⊢
            replace MA : Hid (MBox _ _ _ _ _ _) := MA.out.below b_
            replace HBa : Hid (Below _ _ _) := bstep HBa.out b_
            replace RR : Hid (RowN _ _ _ _) := RR.out.below b_
            replace RU : Hid (RowU _ _ _) := RU.out.below b_
            have WK : Hid (WT v21 kS) := n_
            clear n_ b_ h_
            refine wpAnyH_ready (rs := [7]) (by kernel_rfl) (by simp) ?_
            refine (AllReadyH.cons (o := ({ dst := some 12, op := Op.makeSlice _ (Operand.tmp 11) (Operand.tmp 11), type := _, pos := _, after := _, guard := none } : Oper)) rfl (fun K hK => ?_) AllReadyH.nil)
            · go_simp
              have b_ : Below v21.heap.size v21 (v21.alloc (.cells ON 3)) := bmore (Below.refl _ _) _
              refine hK.out _ _ ?_ (fun hHeld => ?_)
              · exact (MA.out.below b_).cells
              clear hK K
              (try simp only [Act.put, List.setIfInBounds_toArray, List.set_cons_zero, List.set_cons_succ])
              have n_ : RowN (v21.alloc (.cells ON 3)) v21.heap.size C (fun _ => 0) := HON.out v21 _ rfl
              obtain ⟨gc, h_⟩ : ∃ k, k = v21.heap.size := ⟨_, rfl⟩
              rw [← h_] at n_ ⊢
              have L_gc : Hid (W0.heap.size ≤ gc) := by have := HBa.out.size; have := h_; show _ ≤ _; omega
              have N_grgc : Hid (gr ≠ gc) := by have := RR.out.lt; have := h_; show _ ≠ _; omega
              have N_gmgc : Hid (gm ≠ gc) := by have := RU.out.lt; have := h_; show _ ≠ _; omega
              have N_kSgc : Hid (kS ≠ gc) := by have := WK.out.1.2.2.2.2.2.2; have := h_; show _ ≠ _; omega
              generalize (v21.alloc (.cells ON 3)) = v22 at n_ b_ hHeld ⊢
              replace MA : Hid (MBox _ _ _ _ _ _) := MA.out.below b_
              replace HBa : Hid (Below _ _ _) := bstep HBa.out b_
              replace RR : Hid (RowN _ _ _ _) := RR.out.below b_
              replace RU : Hid (RowU _ _ _) := RU.out.below b_
              replace WK : Hid (WT _ _) := WK.out.below b_
              have RC : Hid (RowN v22 gc C (fun _ => 0)) := n_
              clear n_ b_ h_
              refine wpAnyH_take (i := 8) (oi := ({ dst := some 13, op := Op.build _ #[(0, Operand.tmp 6), (1, Operand.tmp 9), (2, Operand.tmp 12)], type := _, pos := _, after := _, guard := none } : Oper)) (v := (.agg #[.int .i64 (C : Int), .int .i64 (C : Int), .int .i64 (C : Int), .slice (some ⟨gm, 0, none⟩) (C * C) (C * C), .slice (some ⟨gr, 0, none⟩) C C, .slice (some ⟨gc, 0, none⟩) C C])) rfl (by kernel_rfl) (by kernel_rfl) (by kernel_rfl) (fun _ _ _ h => h) (Or.inl ⟨by rfl, ?_⟩) (by assumption) ?_
              · intro w2 hSw; exact build_sys _ _ C gm gr gc _ _ _ _ rfl rfl rfl
              (try simp only [Act.put, List.setIfInBounds_toArray, List.set_cons_zero, List.set_cons_succ])
              obtain ⟨⟨z0, z1, z2, z3, z4, z5, z6⟩, zf⟩ := WK.out
              have y0 := zf 0
              have y1 := zf 1
              have y2 := zf 2
              have y3 := zf 3
              have y4 := zf 4
              have y5 := zf 5
              clear zf
              have NKA : kS ≠ ka := by have := L_kS.out; have := HKA.out; omega
              have BP : Bes (some kS) v22 ((((((v22.setCell ⟨kS, 0, none⟩ (.int .i64 (C : Int))).setCell ⟨kS, 1, none⟩ (.int .i64 (C : Int))).setCell ⟨kS, 2, none⟩ (.int .i64 (C : Int))).setCell ⟨kS, 3, none⟩ (.slice (some ⟨gm, 0, none⟩) (C * C) (C * C))).setCell ⟨kS, 4, none⟩ (.slice (some ⟨gr, 0, none⟩) C C)).setCell ⟨kS, 5, none⟩ (.slice (some ⟨gc, 0, none⟩) C C)) := (((((Bes.put v22 kS 0 _).set (p := ⟨kS, 1, none⟩) (.inr rfl) _).set (p := ⟨kS, 2, none⟩) (.inr rfl) _).set (p := ⟨kS, 3, none⟩) (.inr rfl) _).set (p := ⟨kS, 4, none⟩) (.inr rfl) _).set (p := ⟨kS, 5, none⟩) (.inr rfl) _
              have TB_ : TBox ((((((v22.setCell ⟨kS, 0, none⟩ (.int .i64 (C : Int))).setCell ⟨kS, 1, none⟩ (.int .i64 (C : Int))).setCell ⟨kS, 2, none⟩ (.int .i64 (C : Int))).setCell ⟨kS, 3, none⟩ (.slice (some ⟨gm, 0, none⟩) (C * C) (C * C))).setCell ⟨kS, 4, none⟩ (.slice (some ⟨gr, 0, none⟩) C C)).setCell ⟨kS, 5, none⟩ (.slice (some ⟨gc, 0, none⟩) C C)) kS (C : Int) (C : Int) (.slice (some ⟨gm, 0, none⟩) (C * C) (C * C)) (.slice (some ⟨gr, 0, none⟩) C C) (.slice (some ⟨gc, 0, none⟩) C C) := TBox.six _ _ _ _ _ _ _ (by rw [z0]; rfl) (by rw [z1]; rfl) (by rw [z2]; rfl) (by rw [z3]; rfl) (by rw [z4]; rfl) (by rw [z5]; rfl) z6
              refine wpAnyH_ready (rs := [10]) (by kernel_rfl) (by simp) ?_
              refine AllReadyH.cons (o := ({ dst := none, op := Op.store _ (Operand.tmp 3) (Operand.tmp 13), type := _, pos := _, after := _, guard := none } : Oper)) rfl (fun K hK => ?_) AllReadyH.nil
              rw [if_pos (by rfl)]
              refine store_sys _ C gm gr gc kS _ _ _ _ K _ rfl rfl (by rw [z0]; rfl) (by rw [z1]; rfl) (by rw [z2]; rfl) (by rw [z3]; rfl) (by rw [z4]; rfl) (by rw [z5]; rfl) y0 y1 y2 y3 y4 y5 ?_
              refine hK.out _ _ ?_ (fun hHeld => ?_)
              · exact (MA.out.bes BP (ne_some NKA)).cells
              clear hK K hHeld
              (try simp only [Act.put, List.setIfInBounds_toArray, List.set_cons_zero, List.set_cons_succ])
              refine wpAnyH_done (by kernel_rfl) ?_ _
              refine NoPanic.normal ?_
              clear z0 z1 z2 z3 z4 z5 z6 y0 y1 y2 y3 y4 y5
              go_wp2
              go_meet
              exact ⟨kS, gm, gr, gc, xs, rfl, rfl, rfl, ⟨(Ne.symm N_gmkS.out), (Ne.symm N_grkS.out), N_kSgc.out, (Ne.symm N_grgm.out), N_gmgc.out, N_grgc.out, L_gm.out, L_gr.out, L_gc.out, L_kS.out⟩, TB_, RU.out.bes BP (ne_some (Ne.symm N_gmkS.out)), HC_, RR.out.bes BP (ne_some (Ne.symm N_grkS.out)), RC.out.bes BP (ne_some N_kSgc.out), HBa.out.trans (BP.below _ HBa.out.size (fun k e => by injection e with e; have := L_kS.out; omega))⟩
        · go_simp
          have b_ : Below v17.heap.size v17 (v17.alloc (.cells ON 3)) := bmore (Below.refl _ _) _
          refine hK.out _ _ ?_ (fun hHeld => ?_)
          · exact (MA.out.below b_).cells
          clear hK K
          (try simp only [Act.put, List.setIfInBounds_toArray, List.set_cons_zero, List.set_cons_succ])
          have n_ : RowN (v17.alloc (.cells ON 3)) v17.heap.size C (fun _ => 0) := HON.out v17 _ rfl
          obtain ⟨gc, h_⟩ : ∃ k, k = v17.heap.size := ⟨_, rfl⟩
          rw [← h_] at n_ ⊢
          have L_gc : Hid (W0.heap.size ≤ gc) := by have := HBa.out.size; have := h_; show _ ≤ _; omega
          have N_grgc : Hid (gr ≠ gc) := by have := RR.out.lt; have := h_; show _ ≠ _; omega
          generalize (v17.alloc (.cells ON 3)) = v23 at n_ b_ hHeld ⊢
          replace MA : Hid (MBox _ _ _ _ _ _) := MA.out.below b_
          replace HBa : Hid (Below _ _ _) := bstep HBa.out b_
          replace RR : Hid (RowN _ _ _ _) := RR.out.below b_
          have RC : Hid (RowN v23 gc C (fun _ => 0)) := n_
          clear n_ b_ h_
          refine wpAnyH_ready (rs := [1, 9]) (by kernel_rfl) (by simp) ?_
          refine (AllReadyH.cons (o := ({ dst := some 6, op := Op.call { callee := Callee.value (Operand.func _), args := #[Operand.tmp 5], argTypes := _ }, type := _, pos := _, after := _, guard := none } : Oper)) rfl (fun K hK => ?_) (AllReadyH.cons (o := ({ dst := some 3, op := Op.alloc _, type := _, pos := _, after := _, guard := none } : Oper)) rfl (fun K hK => ?_) AllReadyH.nil))
          · go_simp
            go_at_call 21
            refine (mClone C C S a len cap Z _ HH.out ((UZ.out.below BW.out).below HBa.out) hsq).mono ?_
            rintro e v24 ⟨gm, xs, rfl, hg_, hR_, hC_, hb_⟩
            (try go_wp2_with fail)
            have L_gm : Hid (W0.heap.size ≤ gm) := by have := HBa.out.size; have := hg_; show _ ≤ _; omega
            have N_grgm : Hid (gr ≠ gm) := by have := RR.out.lt; have := hg_; show _ ≠ _; omega
            have N_gcgm : Hid (gc ≠ gm) := by have := RC.out.lt; have := hg_; show _ ≠ _; omega
            replace MA : Hid (MBox _ _ _ _ _ _) := MA.out.below hb_
            replace HBa : Hid (Below _ _ _) := bstep HBa.out hb_
            replace RR : Hid (RowN _ _ _ _) := RR.out.below hb_
            replace RC : Hid (RowN _ _ _ _) := RC.out.below hb_
            have RU : Hid (RowU v24 gm xs) := hR_
            have HC_ : Hid (CutI xs Z S 0 0 C C C) := hC_
            refine hK.out _ _ ?_ (fun hHeld => ?_)
            · exact MA.out.cells
            clear hK K hb_ hg_ hR_ hC_
            (try simp only [Act.put, List.setIfInBounds_toArray, List.set_cons_zero, List.set_cons_succ])
            refine wpAnyH_take (i := 8) (oi := ({ dst := some 13, op := Op.build _ #[(0, Operand.tmp 6), (1, Operand.tmp 9), (2, Operand.tmp 12)], type := _, pos := _, after := _, guard := none } : Oper)) (v := (.agg #[.int .i64 (C : Int), .int .i64 (C : Int), .int .i64 (C : Int), .slice (some ⟨gm, 0, none⟩) (C * C) (C * C), .slice (some ⟨gr, 0, none⟩) C C, .slice (some ⟨gc, 0, none⟩) C C])) rfl (by kernel_rfl) (by kernel_rfl) (by kernel_rfl) (fun _ _ _ h => h) (Or.inl ⟨by rfl, ?_⟩) (by assumption) ?_
            · intro w2 hSw; exact build_sys _ _ C gm gr gc _ _ _ _ rfl rfl rfl
            (try simp only [Act.put, List.setIfInBounds_toArray, List.set_cons_zero, List.set_cons_succ])
            refine wpAnyH_ready (rs := [9]) (by kernel_rfl) (by simp) ?_
            refine (AllReadyH.cons (o := ({ dst := some 3, op := Op.alloc _, type := _, pos := _, after := _, guard := none } : Oper)) rfl (fun K hK => ?_) AllReadyH.nil)
            · go_simp
              have b_ : Below v24.heap.size v24 (v24.alloc (.cells #[.int .i64 0, .int .i64 0, .int .i64 0, .slice none 0 0, .slice none 0 0, .slice none 0 0] 82)) := bmore (Below.refl _ _) _
              refine hK.out _ _ ?_ (fun hHeld => ?_)
              · exact (MA.out.below b_).cells
              clear hK K
              (try simp only [Act.put, List.setIfInBounds_toArray, List.set_cons_zero, List.set_cons_succ])
              have n_ : WT (v24.alloc (.cells #[.int .i64 0, .int .i64 0, .int .i64 0, .slice none 0 0, .slice none 0 0, .slice none 0 0] 82)) v24.heap.size := by
                  refine ⟨?_, fun j => ?_⟩
                  · refine ⟨?_, ?_, ?_, ?_, ?_, ?_, by simp⟩ <;> simp [go_sem]
                  · simp [go_sem]
              obtain ⟨kS, h_⟩ : ∃ k, k = v24.heap.size := ⟨_, rfl⟩
              rw [← h_] at n_ ⊢
              have L_kS : Hid (W0.heap.size ≤ kS) := by have := HBa.out.size; have := h_; show _ ≤ _; omega
              have N_grkS : Hid (gr ≠ kS) := by have := RR.out.lt; have := h_; show _ ≠ _; omega
              have N_gckS : Hid (gc ≠ kS) := by have := RC.out.lt; have := h_; show _ ≠ _; omega
              have N_gmkS : Hid (gm ≠ kS) := by have := RU.out.lt; have := h_; show _ ≠ _; omega
              generalize (v24.alloc (.cells #[.int .i64 0, .int .i64 0, .int .i64 0, .slice none 0 0, .slice none 0 0, .slice none 0 0] 82)) = v25 at n_ b_ hHeld ⊢
              replace MA : Hid (MBox _ _ _ _ _ _) := MA.out.below b_
              replace HBa : Hid (Below _ _ _) := bstep HBa.out b_
              replace RR : Hid (RowN _ _ _ _) := RR.out.below b_
              replace RC : Hid (RowN _ _ _ _) := RC.out.below b_
              replace RU : Hid (RowU _ _ _) := RU.out.below b_
              have WK : Hid (WT v25 kS) := n_
              clear n_ b_ h_
              obtain ⟨⟨z0, z1, z2, z3, z4, z5, z6⟩, zf⟩ := WK.out
              have y0 := zf 0
              have y1 := zf 1
              have y2 := zf 2
              have y3 := zf 3
              have y4 := zf 4
              have y5 := zf 5
              clear zf
              have NKA : kS ≠ ka := by have := L_kS.out; have := HKA.out; omega
              have BP : Bes (some kS) v25 ((((((v25.setCell ⟨kS, 0, none⟩ (.int .i64 (C : Int))).setCell ⟨kS, 1, none⟩ (.int .i64 (C : Int))).setCell ⟨kS, 2, none⟩ (.int .i64 (C : Int))).setCell ⟨kS, 3, none⟩ (.slice (some ⟨gm, 0, none⟩) (C * C) (C * C))).setCell ⟨kS, 4, none⟩ (.slice (some ⟨gr, 0, none⟩) C C)).setCell ⟨kS, 5, none⟩ (.slice (some ⟨gc, 0, none⟩) C C)) := (((((Bes.put v25 kS 0 _).set (p := ⟨kS, 1, none⟩) (.inr rfl) _).set (p := ⟨kS, 2, none⟩) (.inr rfl) _).set (p := ⟨kS, 3, none⟩) (.inr rfl) _).set (p := ⟨kS, 4, none⟩) (.inr rfl) _).set (p := ⟨kS, 5, none⟩) (.inr rfl) _
              have TB_ : TBox ((((((v25.setCell ⟨kS, 0, none⟩ (.int .i64 (C : Int))).setCell ⟨kS, 1, none⟩ (.int .i64 (C : Int))).setCell ⟨kS, 2, none⟩ (.int .i64 (C : Int))).setCell ⟨kS, 3, none⟩ (.slice (some ⟨gm, 0, none⟩) (C * C) (C * C))).setCell ⟨kS, 4, none⟩ (.slice (some ⟨gr, 0, none⟩) C C)).setCell ⟨kS, 5, none⟩ (.slice (some ⟨gc, 0, none⟩) C C)) kS (C : Int) (C : Int) (.slice (some ⟨gm, 0, none⟩) (C * C) (C * C)) (.slice (some ⟨gr, 0, none⟩) C C) (.slice (some ⟨gc, 0, none⟩) C C) := TBox.six _ _ _ _ _ _ _ (by rw [z0]; rfl) (by rw [z1]; rfl) (by rw [z2]; rfl) (by rw [z3]; rfl) (by rw [z4]; rfl) (by rw [z5]; rfl) z6
              refine wpAnyH_ready (rs := [10]) (by kernel_rfl) (by simp) ?_
              refine AllReadyH.cons (o := ({ dst := none, op := Op.store _ (Operand.tmp 3) (Operand.tmp 13), type := _, pos := _, after := _, guard := none } : Oper)) rfl (fun K hK => ?_) AllReadyH.nil
              rw [if_pos (by rfl)]
              refine store_sys _ C gm gr gc kS _ _ _ _ K _ rfl rfl (by rw [z0]; rfl) (by rw [z1]; rfl) (by rw [z2]; rfl) (by rw [z3]; rfl) (by rw [z4]; rfl) (by rw [z5]; rfl) y0 y1 y2 y3 y4 y5 ?_
              refine hK.out _ _ ?_ (fun hHeld => ?_)
              · exact (MA.out.bes BP (ne_some NKA)).cells
              clear hK K hHeld
              (try simp only [Act.put, List.setIfInBounds_toArray, List.set_cons_zero, List.set_cons_succ])
              refine wpAnyH_done (by kernel_rfl) ?_ _
              refine NoPanic.normal ?_
              clear z0 z1 z2 z3 z4 z5 z6 y0 y1 y2 y3 y4 y5
              go_wp2
              go_meet
              exact ⟨kS, gm, gr, gc, xs, rfl, rfl, rfl, ⟨(Ne.symm N_gmkS.out), (Ne.symm N_grkS.out), (Ne.symm N_gckS.out), (Ne.symm N_grgm.out), (Ne.symm N_gcgm.out), N_grgc.out, L_gm.out, L_gr.out, L_gc.out, L_kS.out⟩, TB_, RU.out.bes BP (ne_some (Ne.symm N_gmkS.out)), HC_, RR.out.bes BP (ne_some (Ne.symm N_grkS.out)), RC.out.bes BP (ne_some (Ne.symm N_gckS.out)), HBa.out.trans (BP.below _ HBa.out.size (fun k e => by injection e with e; have := L_kS.out; omega))⟩
          · go_simp
            have b_ : Below v23.heap.size v23 (v23.alloc (.cells #[.int .i64 0, .int .i64 0, .int .i64 0, .slice none 0 0, .slice none 0 0, .slice none 0 0] 82)) := bmore (Below.refl _ _) _
            refine hK.out _ _ ?_ (fun hHeld => ?_)
            · exact (MA.out.below b_).cells
            clear hK K
            (try simp only [Act.put, List.setIfInBounds_toArray, List.set_cons_zero, List.set_cons_succ])
            have n_ : WT (v23.alloc (.cells #[.int .i64 0, .int .i64 0, .int .i64 0, .slice none 0 0, .slice none 0 0, .slice none 0 0] 82)) v23.heap.size := by
                refine ⟨?_, fun j => ?_⟩
                · refine ⟨?_, ?_, ?_, ?_, ?_, ?_, by simp⟩ <;> simp [go_sem]
                · simp [go_sem]
            obtain ⟨kS, h_⟩ : ∃ k, k = v23.heap.size := ⟨_, rfl⟩
            rw [← h_] at n_ ⊢
            have L_kS : Hid (W0.heap.size ≤ kS) := by have := HBa.out.size; have := h_; show _ ≤ _; omega
            have N_grkS : Hid (gr ≠ kS) := by have := RR.out.lt; have := h_; show _ ≠ _; omega
            have N_gckS : Hid (gc ≠ kS) := by have := RC.out.lt; have := h_; show _ ≠ _; omega
            generalize (v23.alloc (.cells #[.int .i64 0, .int .i64 0, .int .i64 0, .slice none 0 0, .slice none 0 0, .slice none 0 0] 82)) = v26 at n_ b_ hHeld ⊢
            replace MA : Hid (MBox _ _ _ _ _ _) := MA.out.below b_
            replace HBa : Hid (Below _ _ _) := bstep HBa.out b_
            replace RR : Hid (RowN _ _ _ _) := RR.out.below b_
            replace RC : Hid (RowN _ _ _ _) := RC.out.below b_
            have WK : Hid (WT v26 kS) := n_
            clear n_ b_ h_
            refine wpAnyH_ready (rs := [1]) (by kernel_rfl) (by simp) ?_
            refine (AllReadyH.cons (o := ({ dst := some 6, op := Op.call { callee := Callee.value (Operand.func _), args := #[Operand.tmp 5], argTypes := _ }, type := _, pos := _, after := _, guard := none } : Oper)) rfl (fun K hK => ?_) AllReadyH.nil)
            · go_simp
              go_at_call 21
              refine (mClone C C S a len cap Z _ HH.out ((UZ.out.below BW.out).below HBa.out) hsq).mono ?_
              rintro e v27 ⟨gm, xs, rfl, hg_, hR_, hC_, hb_⟩
              (try go_wp2_with fail)
              have L_gm : Hid (W0.heap.size ≤ gm) := by have := HBa.out.size; have := hg_; show _ ≤ _; omega
              have N_grgm : Hid (gr ≠ gm) := by have := RR.out.lt; have := hg_; show _ ≠ _; omega
              have N_gcgm : Hid (gc ≠ gm) := by have := RC.out.lt; have := hg_; show _ ≠ _; omega
              have N_kSgm : Hid (kS ≠ gm) := by have := WK.out.1.2.2.2.2.2.2; have := hg_; show _ ≠ _; omega
              replace MA : Hid (MBox _ _ _ _ _ _) := MA.out.below hb_
              replace HBa : Hid (Below _ _ _) := bstep HBa.out hb_
              replace RR : Hid (RowN _ _ _ _) := RR.out.below hb_
              replace RC : Hid (RowN _ _ _ _) := RC.out.below hb_
              replace WK : Hid (WT _ _) := WK.out.below hb_
              have RU : Hid (RowU v27 gm xs) := hR_
              have HC_ : Hid (CutI xs Z S 0 0 C C C) := hC_
              refine hK.out _ _ ?_ (fun hHeld => ?_)
              · exact MA.out.cells
              clear hK K hb_ hg_ hR_ hC_
              (try simp only [Act.put, List.setIfInBounds_toArray, List.set_cons_zero, List.set_cons_succ])
              refine wpAnyH_take (i := 8) (oi := ({ dst := some 13, op := Op.build _ #[(0, Operand.tmp 6), (1, Operand.tmp 9), (2, Operand.tmp 12)], type := _, pos := _, after := _, guard := none } : Oper)) (v := (.agg #[.int .i64 (C : Int), .int .i64 (C : Int), .int .i64 (C : Int), .slice (some ⟨gm, 0, none⟩) (C * C) (C * C), .slice (some ⟨gr, 0, none⟩) C C, .slice (some ⟨gc, 0, none⟩) C C])) rfl (by kernel_rfl) (by kernel_rfl) (by kernel_rfl) (fun _ _ _ h => h) (Or.inl ⟨by rfl, ?_⟩) (by assumption) ?_
              · intro w2 hSw; exact build_sys _ _ C gm gr gc _ _ _ _ rfl rfl rfl
              (try simp only [Act.put, List.setIfInBounds_toArray, List.set_cons_zero, List.set_cons_succ])
              obtain ⟨⟨z0, z1, z2, z3, z4, z5, z6⟩, zf⟩ := WK.out
              have y0 := zf 0
              have y1 := zf 1
              have y2 := zf 2
              have y3 := zf 3
              have y4 := zf 4
              have y5 := zf 5
              clear zf
              have NKA : kS ≠ ka := by have := L_kS.out; have := HKA.out; omega
              have BP : Bes (some kS) v27 ((((((v27.setCell ⟨kS, 0, none⟩ (.int .i64 (C : Int))).setCell ⟨kS, 1, none⟩ (.int .i64 (C : Int))).setCell ⟨kS, 2, none⟩ (.int .i64 (C : Int))).setCell ⟨kS, 3, none⟩ (.slice (some ⟨gm, 0, none⟩) (C * C) (C * C))).setCell ⟨kS, 4, none⟩ (.slice (some ⟨gr, 0, none⟩) C C)).setCell ⟨kS, 5, none⟩ (.slice (some ⟨gc, 0, none⟩) C C)) := (((((Bes.put v27 kS 0 _).set (p := ⟨kS, 1, none⟩) (.inr rfl) _).set (p := ⟨kS, 2, none⟩) (.inr rfl) _).set (p := ⟨kS, 3, none⟩) (.inr rfl) _).set (p := ⟨kS, 4, none⟩) (.inr rfl) _).set (p := ⟨kS, 5, none⟩) (.inr rfl) _
              have TB_ : TBox ((((((v27.setCell ⟨kS, 0, none⟩ (.int .i64 (C : Int))).setCell ⟨kS, 1, none⟩ (.int .i64 (C : Int))).setCell ⟨kS, 2, none⟩ (.int .i64 (C : Int))).setCell ⟨kS, 3, none⟩ (.slice (some ⟨gm, 0, none⟩) (C * C) (C * C))).setCell ⟨kS, 4, none⟩ (.slice (some ⟨gr, 0, none⟩) C C)).setCell ⟨kS, 5, none⟩ (.slice (some ⟨gc, 0, none⟩) C C)) kS (C : Int) (C : Int) (.slice (some ⟨gm, 0, none⟩) (C * C) (C * C)) (.slice (some ⟨gr, 0, none⟩) C C) (.slice (some ⟨gc, 0, none⟩) C C) := TBox.six _ _ _ _ _ _ _ (by rw [z0]; rfl) (by rw [z1]; rfl) (by rw [z2]; rfl) (by rw [z3]; rfl) (by rw [z4]; rfl) (by rw [z5]; rfl) z6
              refine wpAnyH_ready (rs := [10]) (by kernel_rfl) (by simp) ?_
              refine AllReadyH.cons (o := ({ dst := none, op := Op.store _ (Operand.tmp 3) (Operand.tmp 13), type := _, pos := _, after := _, guard := none } : Oper)) rfl (fun K hK => ?_) AllReadyH.nil
              rw [if_pos (by rfl)]
              refine store_sys _ C gm gr gc kS _ _ _ _ K _ rfl rfl (by rw [z0]; rfl) (by rw [z1]; rfl) (by rw [z2]; rfl) (by rw [z3]; rfl) (by rw [z4]; rfl) (by rw [z5]; rfl) y0 y1 y2 y3 y4 y5 ?_
              refine hK.out _ _ ?_ (fun hHeld => ?_)
              · exact (MA.out.bes BP (ne_some NKA)).cells
              clear hK K hHeld
              (try simp only [Act.put, List.setIfInBounds_toArray, List.set_cons_zero, List.set_cons_succ])
              refine wpAnyH_done (by kernel_rfl) ?_ _
              refine NoPanic.normal ?_
              clear z0 z1 z2 z3 z4 z5 z6 y0 y1 y2 y3 y4 y5
              go_wp2
              go_meet
              exact ⟨kS, gm, gr, gc, xs, rfl, rfl, rfl, ⟨N_kSgm.out, (Ne.symm N_grkS.out), (Ne.symm N_gckS.out), (Ne.symm N_grgm.out), (Ne.symm N_gcgm.out), N_grgc.out, L_gm.out, L_gr.out, L_gc.out, L_kS.out⟩, TB_, RU.out.bes BP (ne_some N_kSgm.out), HC_, RR.out.bes BP (ne_some (Ne.symm N_grkS.out)), RC.out.bes BP (ne_some (Ne.symm N_gckS.out)), HBa.out.trans (BP.below _ HBa.out.size (fun k e => by injection e with e; have := L_kS.out; omega))⟩
        · go_simp
          have b_ : Below v17.heap.size v17 (v17.alloc (.cells #[.int .i64 0, .int .i64 0, .int .i64 0, .slice none 0 0, .slice none 0 0, .slice none 0 0] 82)) := bmore (Below.refl _ _) _
          refine hK.out _ _ ?_ (fun hHeld => ?_)
          · exact (MA.out.below b_).cells
          clear hK K
          (try simp only [Act.put, List.setIfInBounds_toArray, List.set_cons_zero, List.set_cons_succ])
          have n_ : WT (v17.alloc (.cells #[.int .i64 0, .int .i64 0, .int .i64 0, .slice none 0 0, .slice none 0 0, .slice none 0 0] 82)) v17.heap.size := by
              refine ⟨?_, fun j => ?_⟩
              · refine ⟨?_, ?_, ?_, ?_, ?_, ?_, by simp⟩ <;> simp [go_sem]
              · simp [go_sem]
          obtain ⟨kS, h_⟩ : ∃ k, k = v17.heap.size := ⟨_, rfl⟩
          rw [← h_] at n_ ⊢
          have L_kS : Hid (W0.heap.size ≤ kS) := by have := HBa.out.size; have := h_; show _ ≤ _; omega
          have N_grkS : Hid (gr ≠ kS) := by have := RR.out.lt; have := h_; show _ ≠ _; omega
          generalize (v17.alloc (.cells #[.int .i64 0, .int .i64 0, .int .i64 0, .slice none 0 0, .slice none 0 0, .slice none 0 0] 82)) = v28 at n_ b_ hHeld ⊢
          replace MA : Hid (MBox _ _ _ _ _ _) := MA.out.below b_
          replace HBa : Hid (Below _ _ _) := bstep HBa.out b_
          replace RR : Hid (RowN _ _ _ _) := RR.out.below b_
          have WK : Hid (WT v28 kS) := n_
          clear n_ b_ h_
          refine wpAnyH_ready (rs := [1, 7]) (by kernel_rfl) (by simp) ?_
          refine (AllReadyH.cons (o := ({ dst := some 6, op := Op.call { callee := Callee.value (Operand.func _), args := #[Operand.tmp 5], argTypes := _ }, type := _, pos := _, after := _, guard := none } : Oper)) rfl (fun K hK => ?_) (AllReadyH.cons (o := ({ dst := some 12, op := Op.makeSlice _ (Operand.tmp 11) (Operand.tmp 11), type := _, pos := _, after := _, guard := none } : Oper)) rfl (fun K hK => ?_) AllReadyH.nil))
          · go_simp
            go_at_call 21
            refine (mClone C C S a len cap Z _ HH.out ((UZ.out.below BW.out).below HBa.out) hsq).mono ?_
            rintro e v29 ⟨gm, xs, rfl, hg_, hR_, hC_, hb_⟩
            (try go_wp2_with fail)
            have L_gm : Hid (W0.heap.size ≤ gm) := by have := HBa.out.size; have := hg_; show _ ≤ _; omega
            have N_grgm : Hid (gr ≠ gm) := by have := RR.out.lt; have := hg_; show _ ≠ _; omega
            have N_kSgm : Hid (kS ≠ gm) := by have := WK.out.1.2.2.2.2.2.2; have := hg_; show _ ≠ _; omega
            replace MA : Hid (MBox _ _ _ _ _ _) := MA.out.below hb_
            replace HBa : Hid (Below _ _ _) := bstep HBa.out hb_
            replace RR : Hid (RowN _ _ _ _) := RR.out.below hb_
            replace WK : Hid (WT _ _) := WK.out.below hb_
            have RU : Hid (RowU v29 gm xs) := hR_
            have HC_ : Hid (CutI xs Z S 0 0 C C C) := hC_
            refine hK.out _ _ ?_ (fun hHeld => ?_)
            · exact MA.out.cells
            clear hK K hb_ hg_ hR_ hC_
            (try simp only [Act.put, List.setIfInBounds_toArray, List.set_cons_zero, List.set_cons_succ])
            refine wpAnyH_ready (rs := [7]) (by kernel_rfl) (by simp) ?_
            refine (AllReadyH.cons (o := ({ dst := some 12, op := Op.makeSlice _ (Operand.tmp 11) (Operand.tmp 11), type := _, pos := _, after := _, guard := none } : Oper)) rfl (fun K hK => ?_) AllReadyH.nil)
            · go_simp
              have b_ : Below v29.heap.size v29 (v29.alloc (.cells ON 3)) := bmore (Below.refl _ _) _
              refine hK.out _ _ ?_ (fun hHeld => ?_)
              · exact (MA.out.below b_).cells
              clear hK K
              (try simp only [Act.put, List.setIfInBounds_toArray, List.set_cons_zero, List.set_cons_succ])
              have n_ : RowN (v29.alloc (.cells ON 3)) v29.heap.size C (fun _ => 0) := HON.out v29 _ rfl
              obtain ⟨gc, h_⟩ : ∃ k, k = v29.heap.size := ⟨_, rfl⟩
              rw [← h_] at n_ ⊢
              have L_gc : Hid (W0.heap.size ≤ gc) := by have := HBa.out.size; have := h_; show _ ≤ _; omega
              have N_grgc : Hid (gr ≠ gc) := by have := RR.out.lt; have := h_; show _ ≠ _; omega
              have N_kSgc : Hid (kS ≠ gc) := by have := WK.out.1.2.2.2.2.2.2; have := h_; show _ ≠ _; omega
              have N_gmgc : Hid (gm ≠ gc) := by have := RU.out.lt; have := h_; show _ ≠ _; omega
              generalize (v29.alloc (.cells ON 3)) = v30 at n_ b_ hHeld ⊢
              replace MA : Hid (MBox _ _ _ _ _ _) := MA.out.below b_
              replace HBa : Hid (Below _ _ _) := bstep HBa.out b_
              replace RR : Hid (RowN _ _ _ _) := RR.out.below b_
              replace WK : Hid (WT _ _) := WK.out.below b_
              replace RU : Hid (RowU _ _ _) := RU.out.below b_
              have RC : Hid (RowN v30 gc C (fun _ => 0)) := n_
              clear n_ b_ h_
              refine wpAnyH_take (i := 8) (oi := ({ dst := some 13, op := Op.build _ #[(0, Operand.tmp 6), (1, Operand.tmp 9), (2, Operand.tmp 12)], type := _, pos := _, after := _, guard := none } : Oper)) (v := (.agg #[.int .i64 (C : Int), .int .i64 (C : Int), .int .i64 (C : Int), .slice (some ⟨gm, 0, none⟩) (C * C) (C * C), .slice (some ⟨gr, 0, none⟩) C C, .slice (some ⟨gc, 0, none⟩) C C])) rfl (by kernel_rfl) (by kernel_rfl) (by kernel_rfl) (fun _ _ _ h => h) (Or.inl ⟨by rfl, ?_⟩) (by assumption) ?_
              · intro w2 hSw; exact build_sys _ _ C gm gr gc _ _ _ _ rfl rfl rfl
              (try simp only [Act.put, List.setIfInBounds_toArray, List.set_cons_zero, List.set_cons_succ])
              obtain ⟨⟨z0, z1, z2, z3, z4, z5, z6⟩, zf⟩ := WK.out
              have y0 := zf 0
              have y1 := zf 1
              have y2 := zf 2
              have y3 := zf 3
              have y4 := zf 4
              have y5 := zf 5
              clear zf
              have NKA : kS ≠ ka := by have := L_kS.out; have := HKA.out; omega
              have BP : Bes (some kS) v30 ((((((v30.setCell ⟨kS, 0, none⟩ (.int .i64 (C : Int))).setCell ⟨kS, 1, none⟩ (.int .i64 (C : Int))).setCell ⟨kS, 2, none⟩ (.int .i64 (C : Int))).setCell ⟨kS, 3, none⟩ (.slice (some ⟨gm, 0, none⟩) (C * C) (C * C))).setCell ⟨kS, 4, none⟩ (.slice (some ⟨gr, 0, none⟩) C C)).setCell ⟨kS, 5, none⟩ (.slice (some ⟨gc, 0, none⟩) C C)) := (((((Bes.put v30 kS 0 _).set (p := ⟨kS, 1, none⟩) (.inr rfl) _).set (p := ⟨kS, 2, none⟩) (.inr rfl) _).set (p := ⟨kS, 3, none⟩) (.inr rfl) _).set (p := ⟨kS, 4, none⟩) (.inr rfl) _).set (p := ⟨kS, 5, none⟩) (.inr rfl) _
              have TB_ : TBox ((((((v30.setCell ⟨kS, 0, none⟩ (.int .i64 (C : Int))).setCell ⟨kS, 1, none⟩ (.int .i64 (C : Int))).setCell ⟨kS, 2, none⟩ (.int .i64 (C : Int))).setCell ⟨kS, 3, none⟩ (.slice (some ⟨gm, 0, none⟩) (C * C) (C * C))).setCell ⟨kS, 4, none⟩ (.slice (some ⟨gr, 0, none⟩) C C)).setCell ⟨kS, 5, none⟩ (.slice (some ⟨gc, 0, none⟩) C C)) kS (C : Int) (C : Int) (.slice (some ⟨gm, 0, none⟩) (C * C) (C * C)) (.slice (some ⟨gr, 0, none⟩) C C) (.slice (some ⟨gc, 0, none⟩) C C) := TBox.six _ _ _ _ _ _ _ (by rw [z0]; rfl) (by rw [z1]; rfl) (by rw [z2]; rfl) (by rw [z3]; rfl) (by rw [z4]; rfl) (by rw [z5]; rfl) z6
              refine wpAnyH_ready (rs := [10]) (by kernel_rfl) (by simp) ?_
              refine AllReadyH.cons (o := ({ dst := none, op := Op.store _ (Operand.tmp 3) (Operand.tmp 13), type := _, pos := _, after := _, guard := none } : Oper)) rfl (fun K hK => ?_) AllReadyH.nil
              rw [if_pos (by rfl)]
              refine store_sys _ C gm gr gc kS _ _ _ _ K _ rfl rfl (by rw [z0]; rfl) (by rw [z1]; rfl) (by rw [z2]; rfl) (by rw [z3]; rfl) (by rw [z4]; rfl) (by rw [z5]; rfl) y0 y1 y2 y3 y4 y5 ?_
              refine hK.out _ _ ?_ (fun hHeld => ?_)
              · exact (MA.out.bes BP (ne_some NKA)).cells
              clear hK K hHeld
              (try simp only [Act.put, List.setIfInBounds_toArray, List.set_cons_zero, List.set_cons_succ])
              refine wpAnyH_done (by kernel_rfl) ?_ _
              refine NoPanic.normal ?_
              clear z0 z1 z2 z3 z4 z5 z6 y0 y1 y2 y3 y4 y5
              go_wp2
              go_meet
              exact ⟨kS, gm, gr, gc, xs, rfl, rfl, rfl, ⟨N_kSgm.out, (Ne.symm N_grkS.out), N_kSgc.out, (Ne.symm N_grgm.out), N_gmgc.out, N_grgc.out, L_gm.out, L_gr.out, L_gc.out, L_kS.out⟩, TB_, RU.out.bes BP (ne_some N_kSgm.out), HC_, RR.out.bes BP (ne_some (Ne.symm N_grkS.out)), RC.out.bes BP (ne_some N_kSgc.out), HBa.out.trans (BP.below _ HBa.out.size (fun k e => by injection e with e; have := L_kS.out; omega))⟩
          · go_simp
            have b_ : Below v28.heap.size v28 (v28.alloc (.cells ON 3)) := bmore (Below.refl _ _) _
            refine hK.out _ _ ?_ (fun hHeld => ?_)
            · exact (MA.out.below b_).cells
            clear hK K
            (try simp only [Act.put, List.setIfInBounds_toArray, List.set_cons_zero, List.set_cons_succ])
            have n_ : RowN (v28.alloc (.cells ON 3)) v28.heap.size C (fun _ => 0) := HON.out v28 _ rfl
            obtain ⟨gc, h_⟩ : ∃ k, k = v28.heap.size := ⟨_, rfl⟩
            rw [← h_] at n_ ⊢
            have L_gc : Hid (W0.heap.size ≤ gc) := by have := HBa.out.size; have := h_; show _ ≤ _; omega
            have N_grgc : Hid (gr ≠ gc) := by have := RR.out.lt; have := h_; show _ ≠ _; omega
            have N_kSgc : Hid (kS ≠ gc) := by have := WK.out.1.2.2.2.2.2.2; have := h_; show _ ≠ _; omega
            generalize (v28.alloc (.cells ON 3)) = v31 at n_ b_ hHeld ⊢
            replace MA : Hid (MBox _ _ _ _ _ _) := MA.out.below b_
            replace HBa : Hid (Below _ _ _) := bstep HBa.out b_
            replace RR : Hid (RowN _ _ _ _) := RR.out.below b_
            replace WK : Hid (WT _ _) := WK.out.below b_
            have RC : Hid (RowN v31 gc C (fun _ => 0)) := n_
            clear n_ b_ h_
            refine wpAnyH_ready (rs := [1]) (by kernel_rfl) (by simp) ?_
            refine (AllReadyH.cons (o := ({ dst := some 6, op := Op.call { callee := Callee.value (Operand.func _), args := #[Operand.tmp 5], argTypes := _ }, type := _, pos := _, after := _, guard := none } : Oper)) rfl (fun K hK => ?_) AllReadyH.nil)
            · go_simp
              go_at_call 21
              refine (mClone C C S a len cap Z _ HH.out ((UZ.out.below BW.out).below HBa.out) hsq).mono ?_
              rintro e v32 ⟨gm, xs, rfl, hg_, hR_, hC_, hb_⟩
              (try go_wp2_with fail)
              have L_gm : Hid (W0.heap.size ≤ gm) := by have := HBa.out.size; have := hg_; show _ ≤ _; omega
              have N_grgm : Hid (gr ≠ gm) := by have := RR.out.lt; have := hg_; show _ ≠ _; omega
              have N_kSgm : Hid (kS ≠ gm) := by have := WK.out.1.2.2.2.2.2.2; have := hg_; show _ ≠ _; omega
              have N_gcgm : Hid (gc ≠ gm) := by have := RC.out.lt; have := hg_; show _ ≠ _; omega
              replace MA : Hid (MBox _ _ _ _ _ _) := MA.out.below hb_
              replace HBa : Hid (Below _ _ _) := bstep HBa.out hb_
              replace RR : Hid (RowN _ _ _ _) := RR.out.below hb_
              replace WK : Hid (WT _ _) := WK.out.below hb_
              replace RC : Hid (RowN _ _ _ _) := RC.out.below hb_
              have RU : Hid (RowU v32 gm xs) := hR_
              have HC_ : Hid (CutI xs Z S 0 0 C C C) := hC_
              refine hK.out _ _ ?_ (fun hHeld => ?_)
              · exact MA.out.cells
              clear hK K hb_ hg_ hR_ hC_
              (try simp only [Act.put, List.setIfInBounds_toArray, List.set_cons_zero, List.set_cons_succ])
              refine wpAnyH_take (i := 8) (oi := ({ dst := some 13, op := Op.build _ #[(0, Operand.tmp 6), (1, Operand.tmp 9), (2, Operand.tmp 12)], type := _, pos := _, after := _, guard := none } : Oper)) (v := (.agg #[.int .i64 (C : Int), .int .i64 (C : Int), .int .i64 (C : Int), .slice (some ⟨gm, 0, none⟩) (C * C) (C * C), .slice (some ⟨gr, 0, none⟩) C C, .slice (some ⟨gc, 0, none⟩) C C])) rfl (by kernel_rfl) (by kernel_rfl) (by kernel_rfl) (fun _ _ _ h => h) (Or.inl ⟨by rfl, ?_⟩) (by assumption) ?_
              · intro w2 hSw; exact build_sys _ _ C gm gr gc _ _ _ _ rfl rfl rfl
              (try simp only [Act.put, List.setIfInBounds_toArray, List.set_cons_zero, List.set_cons_succ])
              obtain ⟨⟨z0, z1, z2, z3, z4, z5, z6⟩, zf⟩ := WK.out
              have y0 := zf 0
              have y1 := zf 1
              have y2 := zf 2
              have y3 := zf 3
              have y4 := zf 4
              have y5 := zf 5
              clear zf
              have NKA : kS ≠ ka := by have := L_kS.out; have := HKA.out; omega
              have BP : Bes (some kS) v32 ((((((v32.setCell ⟨kS, 0, none⟩ (.int .i64 (C : Int))).setCell ⟨kS, 1, none⟩ (.int .i64 (C : Int))).setCell ⟨kS, 2, none⟩ (.int .i64 (C : Int))).setCell ⟨kS, 3, none⟩ (.slice (some ⟨gm, 0, none⟩) (C * C) (C * C))).setCell ⟨kS, 4, none⟩ (.slice (some ⟨gr, 0, none⟩) C C)).setCell ⟨kS, 5, none⟩ (.slice (some ⟨gc, 0, none⟩) C C)) := (((((Bes.put v32 kS 0 _).set (p := ⟨kS, 1, none⟩) (.inr rfl) _).set (p := ⟨kS, 2, none⟩) (.inr rfl) _).set (p := ⟨kS, 3, none⟩) (.inr rfl) _).set (p := ⟨kS, 4, none⟩) (.inr rfl) _).set (p := ⟨kS, 5, none⟩) (.inr rfl) _
              have TB_ : TBox ((((((v32.setCell ⟨kS, 0, none⟩ (.int .i64 (C : Int))).setCell ⟨kS, 1, none⟩ (.int .i64 (C : Int))).setCell ⟨kS, 2, none⟩ (.int .i64 (C : Int))).setCell ⟨kS, 3, none⟩ (.slice (some ⟨gm, 0, none⟩) (C * C) (C * C))).setCell ⟨kS, 4, none⟩ (.slice (some ⟨gr, 0, none⟩) C C)).setCell ⟨kS, 5, none⟩ (.slice (some ⟨gc, 0, none⟩) C C)) kS (C : Int) (C : Int) (.slice (some ⟨gm, 0, none⟩) (C * C) (C * C)) (.slice (some ⟨gr, 0, none⟩) C C) (.slice (some ⟨gc, 0, none⟩) C C) := TBox.six _ _ _ _ _ _ _ (by rw [z0]; rfl) (by rw [z1]; rfl) (by rw [z2]; rfl) (by rw [z3]; rfl) (by rw [z4]; rfl) (by rw [z5]; rfl) z6
              refine wpAnyH_ready (rs := [10]) (by kernel_rfl) (by simp) ?_
              refine AllReadyH.cons (o := ({ dst := none, op := Op.store _ (Operand.tmp 3) (Operand.tmp 13), type := _, pos := _, after := _, guard := none } : Oper)) rfl (fun K hK => ?_) AllReadyH.nil
              rw [if_pos (by rfl)]
              refine store_sys _ C gm gr gc kS _ _ _ _ K _ rfl rfl (by rw [z0]; rfl) (by rw [z1]; rfl) (by rw [z2]; rfl) (by rw [z3]; rfl) (by rw [z4]; rfl) (by rw [z5]; rfl) y0 y1 y2 y3 y4 y5 ?_
              refine hK.out _ _ ?_ (fun hHeld => ?_)
              · exact (MA.out.bes BP (ne_some NKA)).cells
              clear hK K hHeld
              (try simp only [Act.put, List.setIfInBounds_toArray, List.set_cons_zero, List.set_cons_succ])
              refine wpAnyH_done (by kernel_rfl) ?_ _
              refine NoPanic.normal ?_
              clear z0 z1 z2 z3 z4 z5 z6 y0 y1 y2 y3 y4 y5
              go_wp2
              go_meet
              exact ⟨kS, gm, gr, gc, xs, rfl, rfl, rfl, ⟨N_kSgm.out, (Ne.symm N_grkS.out), N_kSgc.out, (Ne.symm N_grgm.out), (Ne.symm N_gcgm.out), N_grgc.out, L_gm.out, L_gr.out, L_gc.out, L_kS.out⟩, TB_, RU.out.bes BP (ne_some N_kSgm.out), HC_, RR.out.bes BP (ne_some (Ne.symm N_grkS.out)), RC.out.bes BP (ne_some N_kSgc.out), HBa.out.trans (BP.below _ HBa.out.size (fun k e => by injection e with e; have := L_kS.out; omega))⟩
      · go_simp
        have b_ : Below v0.heap.size v0 (v0.alloc (.cells ON 3)) := bmore (Below.refl _ _) _
        refine hK.out _ _ ?_ (fun hHeld => ?_)
        · exact (MA.out.below b_).cells
        clear hK K
        (try simp only [Act.put, List.setIfInBounds_toArray, List.set_cons_zero, List.set_cons_succ])
        have n_ : RowN (v0.alloc (.cells ON 3)) v0.heap.size C (fun _ => 0) := HON.out v0 _ rfl
        obtain ⟨gc, h_⟩ : ∃ k, k = v0.heap.size := ⟨_, rfl⟩
        rw [← h_] at n_ ⊢
        have L_gc : Hid (W0.heap.size ≤ gc) := by have := HBa.out.size; have := h_; show _ ≤ _; omega
        generalize (v0.alloc (.cells ON 3)) = v33 at n_ b_ hHeld ⊢
        replace MA : Hid (MBox _ _ _ _ _ _) := MA.out.below b_
        replace HBa : Hid (Below _ _ _) := bstep HBa.out b_
        have RC : Hid (RowN v33 gc C (fun _ => 0)) := n_
        clear n_ b_ h_
        refine wpAnyH_ready (rs := [1, 4, 9]) (by kernel_rfl) (by simp) ?_
        refine (AllReadyH.cons (o := ({ dst := some 6, op := Op.call { callee := Callee.value (Operand.func _), args := #[Operand.tmp 5], argTypes := _ }, type := _, pos := _, after := _, guard := none } : Oper)) rfl (fun K hK => ?_) (AllReadyH.cons (o := ({ dst := some 9, op := Op.makeSlice _ (Operand.tmp 8) (Operand.tmp 8), type := _, pos := _, after := _, guard := none } : Oper)) rfl (fun K hK => ?_) (AllReadyH.cons (o := ({ dst := some 3, op := Op.alloc _, type := _, pos := _, after := _, guard := none } : Oper)) rfl (fun K hK => ?_) AllReadyH.nil)))
        · go_simp
          go_at_call 21
          refine (mClone C C S a len cap Z _ HH.out ((UZ.out.below BW.out).below HBa.out) hsq).mono ?_
          rintro e v34 ⟨gm, xs, rfl, hg_, hR_, hC_, hb_⟩
          (try go_wp2_with fail)
          have L_gm : Hid (W0.heap.size ≤ gm) := by have := HBa.out.size; have := hg_; show _ ≤ _; omega
          have N_gcgm : Hid (gc ≠ gm) := by have := RC.out.lt; have := hg_; show _ ≠ _; omega
          replace MA : Hid (MBox _ _ _ _ _ _) := MA.out.below hb_
          replace HBa : Hid (Below _ _ _) := bstep HBa.out hb_
          replace RC : Hid (RowN _ _ _ _) := RC.out.below hb_
          have RU : Hid (RowU v34 gm xs) := hR_
          have HC_ : Hid (CutI xs Z S 0 0 C C C) := hC_
          refine hK.out _ _ ?_ (fun hHeld => ?_)
          · exact MA.out.cells
          clear hK K hb_ hg_ hR_ hC_
          (try simp only [Act.put, List.setIfInBounds_toArray, List.set_cons_zero, List.set_cons_succ])
          refine wpAnyH_ready (rs := [4, 9]) (by kernel_rfl) (by simp) ?_
          refine (AllReadyH.cons (o := ({ dst := some 9, op := Op.makeSlice _ (Operand.tmp 8) (Operand.tmp 8), type := _, pos := _, after := _, guard := none } : Oper)) rfl (fun K hK => ?_) (AllReadyH.cons (o := ({ dst := some 3, op := Op.alloc _, type := _, pos := _, after := _, guard := none } : Oper)) rfl (fun K hK => ?_) AllReadyH.nil))
          · go_simp
            have b_ : Below v34.heap.size v34 (v34.alloc (.cells ON 3)) := bmore (Below.refl _ _) _
            refine hK.out _ _ ?_ (fun hHeld => ?_)
            · exact (MA.out.below b_).cells
            clear hK K
            (try simp only [Act.put, List.setIfInBounds_toArray, List.set_cons_zero, List.set_cons_succ])
            have n_ : RowN (v34.alloc (.cells ON 3)) v34.heap.size C (fun _ => 0) := HON.out v34 _ rfl
            obtain ⟨gr, h_⟩ : ∃ k, k = v34.heap.size := ⟨_, rfl⟩
            rw [← h_] at n_ ⊢
            have L_gr : Hid (W0.heap.size ≤ gr) := by have := HBa.out.size; have := h_; show _ ≤ _; omega
            have N_gcgr : Hid (gc ≠ gr) := by have := RC.out.lt; have := h_; show _ ≠ _; omega
            have N_gmgr : Hid (gm ≠ gr) := by have := RU.out.lt; have := h_; show _ ≠ _; omega
            generalize (v34.alloc (.cells ON 3)) = v35 at n_ b_ hHeld ⊢
            replace MA : Hid (MBox _ _ _ _ _ _) := MA.out.below b_
            replace HBa : Hid (Below _ _ _) := bstep HBa.out b_
            replace RC : Hid (RowN _ _ _ _) := RC.out.below b_
            replace RU : Hid (RowU _ _ _) := RU.out.below b_
            have RR : Hid (RowN v35 gr C (fun _ => 0)) := n_
            clear n_ b_ h_
            refine wpAnyH_take (i := 8) (oi := ({ dst := some 13, op := Op.build _ #[(0, Operand.tmp 6), (1, Operand.tmp 9), (2, Operand.tmp 12)], type := _, pos := _, after := _, guard := none } : Oper)) (v := (.agg #[.int .i64 (C : Int), .int .i64 (C : Int), .int .i64 (C : Int), .slice (some ⟨gm, 0, none⟩) (C * C) (C * C), .slice (some ⟨gr, 0, none⟩) C C, .slice (some ⟨gc, 0, none⟩) C C])) rfl (by kernel_rfl) (by kernel_rfl) (by kernel_rfl) (fun _ _ _ h => h) (Or.inl ⟨by rfl, ?_⟩) (by assumption) ?_
            · intro w2 hSw; exact build_sys _ _ C gm gr gc _ _ _ _ rfl rfl rfl
            (try simp only [Act.put, List.setIfInBounds_toArray, List.set_cons_zero, List.set_cons_succ])
            refine wpAnyH_ready (rs := [9]) (by kernel_rfl) (by simp) ?_
            refine (AllReadyH.cons (o := ({ dst := some 3, op := Op.alloc _, type := _, pos := _, after := _, guard := none } : Oper)) rfl (fun K hK => ?_) AllReadyH.nil)
            · go_simp
              have b_ : Below v35.heap.size v35 (v35.alloc (.cells #[.int .i64 0, .int .i64 0, .int .i64 0, .slice none 0 0, .slice none 0 0, .slice none 0 0] 82)) := bmore (Below.refl _ _) _
              refine hK.out _ _ ?_ (fun hHeld => ?_)
              · exact (MA.out.below b_).cells
              clear hK K
              (try simp only [Act.put, List.setIfInBounds_toArray, List.set_cons_zero, List.set_cons_succ])
              have n_ : WT (v35.alloc (.cells #[.int .i64 0, .int .i64 0, .int .i64 0, .slice none 0 0, .slice none 0 0, .slice none 0 0] 82)) v35.heap.size := by
                  refine ⟨?_, fun j => ?_⟩
                  · refine ⟨?_, ?_, ?_, ?_, ?_, ?_, by simp⟩ <;> simp [go_sem]
                  · simp [go_sem]
              obtain ⟨kS, h_⟩ : ∃ k, k = v35.heap.size := ⟨_, rfl⟩
              rw [← h_] at n_ ⊢
              have L_kS : Hid (W0.heap.size ≤ kS) := by have := HBa.out.size; have := h_; show _ ≤ _; omega
              have N_gckS : Hid (gc ≠ kS) := by have := RC.out.lt; have := h_; show _ ≠ _; omega
              have N_gmkS : Hid (gm ≠ kS) := by have := RU.out.lt; have := h_; show _ ≠ _; omega
              have N_grkS : Hid (gr ≠ kS) := by have := RR.out.lt; have := h_; show _ ≠ _; omega
              generalize (v35.alloc (.cells #[.int .i64 0, .int .i64 0, .int .i64 0, .slice none 0 0, .slice none 0 0, .slice none 0 0] 82)) = v36 at n_ b_ hHeld ⊢
              replace MA : Hid (MBox _ _ _ _ _ _) := MA.out.below b_
              replace HBa : Hid (Below _ _ _) := bstep HBa.out b_
              replace RC : Hid (RowN _ _ _ _) := RC.out.below b_
              replace RU : Hid (RowU _ _ _) := RU.out.below b_
              replace RR : Hid (RowN _ _ _ _) := RR.out.below b_
              have WK : Hid (WT v36 kS) := n_
              clear n_ b_ h_
              obtain ⟨⟨z0, z1, z2, z3, z4, z5, z6⟩, zf⟩ := WK.out
              have y0 := zf 0
              have y1 := zf 1
              have y2 := zf 2
              have y3 := zf 3
              have y4 := zf 4
              have y5 := zf 5
              clear zf
              have NKA : kS ≠ ka := by have := L_kS.out; have := HKA.out; omega
              have BP : Bes (some kS) v36 ((((((v36.setCell ⟨kS, 0, none⟩ (.int .i64 (C : Int))).setCell ⟨kS, 1, none⟩ (.int .i64 (C : Int))).setCell ⟨kS, 2, none⟩ (.int .i64 (C : Int))).setCell ⟨kS, 3, none⟩ (.slice (some ⟨gm, 0, none⟩) (C * C) (C * C))).setCell ⟨kS, 4, none⟩ (.slice (some ⟨gr, 0, none⟩) C C)).setCell ⟨kS, 5, none⟩ (.slice (some ⟨gc, 0, none⟩) C C)) := (((((Bes.put v36 kS 0 _).set (p := ⟨kS, 1, none⟩) (.inr rfl) _).set (p := ⟨kS, 2, none⟩) (.inr rfl) _).set (p := ⟨kS, 3, none⟩) (.inr rfl) _).set (p := ⟨kS, 4, none⟩) (.inr rfl) _).set (p := ⟨kS, 5, none⟩) (.inr rfl) _
              have TB_ : TBox ((((((v36.setCell ⟨kS, 0, none⟩ (.int .i64 (C : Int))).setCell ⟨kS, 1, none⟩ (.int .i64 (C : Int))).setCell ⟨kS, 2, none⟩ (.int .i64 (C : Int))).setCell ⟨kS, 3, none⟩ (.slice (some ⟨gm, 0, none⟩) (C * C) (C * C))).setCell ⟨kS, 4, none⟩ (.slice (some ⟨gr, 0, none⟩) C C)).setCell ⟨kS, 5, none⟩ (.slice (some ⟨gc, 0, none⟩) C C)) kS (C : Int) (C : Int) (.slice (some ⟨gm, 0, none⟩) (C * C) (C * C)) (.slice (some ⟨gr, 0, none⟩) C C) (.slice (some ⟨gc, 0, none⟩) C C) := TBox.six _ _ _ _ _ _ _ (by rw [z0]; rfl) (by rw [z1]; rfl) (by rw [z2]; rfl) (by rw [z3]; rfl) (by rw [z4]; rfl) (by rw [z5]; rfl) z6
              refine wpAnyH_ready (rs := [10]) (by kernel_rfl) (by simp) ?_
              refine AllReadyH.cons (o := ({ dst := none, op := Op.store _ (Operand.tmp 3) (Operand.tmp 13), type := _, pos := _, after := _, guard := none } : Oper)) rfl (fun K hK => ?_) AllReadyH.nil
              rw [if_pos (by rfl)]
              refine store_sys _ C gm gr gc kS _ _ _ _ K _ rfl rfl (by rw [z0]; rfl) (by rw [z1]; rfl) (by rw [z2]; rfl) (by rw [z3]; rfl) (by rw [z4]; rfl) (by rw [z5]; rfl) y0 y1 y2 y3 y4 y5 ?_
              refine hK.out _ _ ?_ (fun hHeld => ?_)
              · exact (MA.out.bes BP (ne_some NKA)).cells
              clear hK K hHeld
              (try simp only [Act.put, List.setIfInBounds_toArray, List.set_cons_zero, List.set_cons_succ])
              refine wpAnyH_done (by kernel_rfl) ?_ _
              refine NoPanic.normal ?_
              clear z0 z1 z2 z3 z4 z5 z6 y0 y1 y2 y3 y4 y5
              go_wp2
              go_meet
              exact ⟨kS, gm, gr, gc, xs, rfl, rfl, rfl, ⟨(Ne.symm N_gmkS.out), (Ne.symm N_grkS.out), (Ne.symm N_gckS.out), N_gmgr.out, (Ne.symm N_gcgm.out), (Ne.symm N_gcgr.out), L_gm.out, L_gr.out, L_gc.out, L_kS.out⟩, TB_, RU.out.bes BP (ne_some (Ne.symm N_gmkS.out)), HC_, RR.out.bes BP (ne_some (Ne.symm N_grkS.out)), RC.out.bes BP (ne_some (Ne.symm N_gckS.out)), HBa.out.trans (BP.below _ HBa.out.size (fun k e => by injection e with e; have := L_kS.out; omega))⟩
          · go_simp
            have b_ : Below v34.heap.size v34 (v34.alloc (.cells #[.int .i64 0, .int .i64 0, .int .i64 0, .slice none 0 0, .slice none 0 0, .slice none 0 0] 82)) := bmore (Below.refl _ _) _
            refine hK.out _ _ ?_ (fun hHeld => ?_)
            · exact (MA.out.below b_).cells
            clear hK K
            (try simp only [Act.put, List.setIfInBounds_toArray, List.set_cons_zero, List.set_cons_succ])
            have n_ : WT (v34.alloc (.cells #[.int .i64 0, .int .i64 0, .int .i64 0, .slice none 0 0, .slice none 0 0, .slice none 0 0] 82)) v34.heap.size := by
                refine ⟨?_, fun j => ?_⟩
                · refine ⟨?_, ?_, ?_, ?_, ?_, ?_, by simp⟩ <;> simp [go_sem]
                · simp [go_sem]
            obtain ⟨kS, h_⟩ : ∃ k, k = v34.heap.size := ⟨_, rfl⟩
            rw [← h_] at n_ ⊢
            have L_kS : Hid (W0.heap.size ≤ kS) := by have := HBa.out.size; have := h_; show _ ≤ _; omega
            have N_gckS : Hid (gc ≠ kS) := by have := RC.out.lt; have := h_; show _ ≠ _; omega
            have N_gmkS : Hid (gm ≠ kS) := by have := RU.out.lt; have := h_; show _ ≠ _; omega
            generalize (v34.alloc (.cells #[.int .i64 0, .int .i64 0, .int .i64 0, .slice none 0 0, .slice none 0 0, .slice none 0 0] 82)) = v37 at n_ b_ hHeld ⊢
            replace MA : Hid (MBox _ _ _ _ _ _) := MA.out.below b_
            replace HBa : Hid (Below _ _ _) := bstep HBa.out b_
            replace RC : Hid (RowN _ _ _ _) := RC.out.below b_
            replace RU : Hid (RowU _ _ _) := RU.out.below b_
            have WK : Hid (WT v37 kS) := n_
            clear n_ b_ h_
            refine wpAnyH_ready (rs := [4]) (by kernel_rfl) (by simp) ?_
            refine (AllReadyH.cons (o := ({ dst := some 9, op := Op.makeSlice _ (Operand.tmp 8) (Operand.tmp 8), type := _, pos := _, after := _, guard := none } : Oper)) rfl (fun K hK => ?_) AllReadyH.nil)
            · go_simp
              have b_ : Below v37.heap.size v37 (v37.alloc (.cells ON 3)) := bmore (Below.refl _ _) _
              refine hK.out _ _ ?_ (fun hHeld => ?_)
              · exact (MA.out.below b_).cells
              clear hK K
              (try simp only [Act.put, List.setIfInBounds_toArray, List.set_cons_zero, List.set_cons_succ])
              have n_ : RowN (v37.alloc (.cells ON 3)) v37.heap.size C (fun _ => 0) := HON.out v37 _ rfl
              obtain ⟨gr, h_⟩ : ∃ k, k = v37.heap.size := ⟨_, rfl⟩
              rw [← h_] at n_ ⊢
              have L_gr : Hid (W0.heap.size ≤ gr) := by have := HBa.out.size; have := h_; show _ ≤ _; omega
              have N_gcgr : Hid (gc ≠ gr) := by have := RC.out.lt; have := h_; show _ ≠ _; omega
              have N_gmgr : Hid (gm ≠ gr) := by have := RU.out.lt; have := h_; show _ ≠ _; omega
              have N_kSgr : Hid (kS ≠ gr) := by have := WK.out.1.2.2.2.2.2.2; have := h_; show _ ≠ _; omega
              generalize (v37.alloc (.cells ON 3)) = v38 at n_ b_ hHeld ⊢
              replace MA : Hid (MBox _ _ _ _ _ _) := MA.out.below b_
              replace HBa : Hid (Below _ _ _) := bstep HBa.out b_
              replace RC : Hid (RowN _ _ _ _) := RC.out.below b_
              replace RU : Hid (RowU _ _ _) := RU.out.below b_
              replace WK : Hid (WT _ _) := WK.out.below b_
              have RR : Hid (RowN v38 gr C (fun _ => 0)) := n_
              clear n_ b_ h_
              refine wpAnyH_take (i := 8) (oi := ({ dst := some 13, op := Op.build _ #[(0, Operand.tmp 6), (1, Operand.tmp 9), (2, Operand.tmp 12)], type := _, pos := _, after := _, guard := none } : Oper)) (v := (.agg #[.int .i64 (C : Int), .int .i64 (C : Int), .int .i64 (C : Int), .slice (some ⟨gm, 0, none⟩) (C * C) (C * C), .slice (some ⟨gr, 0, none⟩) C C, .slice (some ⟨gc, 0, none⟩) C C])) rfl (by kernel_rfl) (by kernel_rfl) (by kernel_rfl) (fun _ _ _ h => h) (Or.inl ⟨by rfl, ?_⟩) (by assumption) ?_
              · intro w2 hSw; exact build_sys _ _ C gm gr gc _ _ _ _ rfl rfl rfl
              (try simp only [Act.put, List.setIfInBounds_toArray, List.set_cons_zero, List.set_cons_succ])
              obtain ⟨⟨z0, z1, z2, z3, z4, z5, z6⟩, zf⟩ := WK.out
              have y0 := zf 0
              have y1 := zf 1
              have y2 := zf 2
              have y3 := zf 3
              have y4 := zf 4
              have y5 := zf 5
              clear zf
              have NKA : kS ≠ ka := by have := L_kS.out; have := HKA.out; omega
              have BP : Bes (some kS) v38 ((((((v38.setCell ⟨kS, 0, none⟩ (.int .i64 (C : Int))).setCell ⟨kS, 1, none⟩ (.int .i64 (C : Int))).setCell ⟨kS, 2, none⟩ (.int .i64 (C : Int))).setCell ⟨kS, 3, none⟩ (.slice (some ⟨gm, 0, none⟩) (C * C) (C * C))).setCell ⟨kS, 4, none⟩ (.slice (some ⟨gr, 0, none⟩) C C)).setCell ⟨kS, 5, none⟩ (.slice (some ⟨gc, 0, none⟩) C C)) := (((((Bes.put v38 kS 0 _).set (p := ⟨kS, 1, none⟩) (.inr rfl) _).set (p := ⟨kS, 2, none⟩) (.inr rfl) _).set (p := ⟨kS, 3, none⟩) (.inr rfl) _).set (p := ⟨kS, 4, none⟩) (.inr rfl) _).set (p := ⟨kS, 5, none⟩) (.inr rfl) _
              have TB_ : TBox ((((((v38.setCell ⟨kS, 0, none⟩ (.int .i64 (C : Int))).setCell ⟨kS, 1, none⟩ (.int .i64 (C : Int))).setCell ⟨kS, 2, none⟩ (.int .i64 (C : Int))).setCell ⟨kS, 3, none⟩ (.slice (some ⟨gm, 0, none⟩) (C * C) (C * C))).setCell ⟨kS, 4, none⟩ (.slice (some ⟨gr, 0, none⟩) C C)).setCell ⟨kS, 5, none⟩ (.slice (some ⟨gc, 0, none⟩) C C)) kS (C : Int) (C : Int) (.slice (some ⟨gm, 0, none⟩) (C * C) (C * C)) (.slice (some ⟨gr, 0, none⟩) C C) (.slice (some ⟨gc, 0, none⟩) C C) := TBox.six _ _ _ _ _ _ _ (by rw [z0]; rfl) (by rw [z1]; rfl) (by rw [z2]; rfl) (by rw [z3]; rfl) (by rw [z4]; rfl) (by rw [z5]; rfl) z6
              refine wpAnyH_ready (rs := [10]) (by kernel_rfl) (by simp) ?_
              refine AllReadyH.cons (o := ({ dst := none, op := Op.store _ (Operand.tmp 3) (Operand.tmp 13), type := _, pos := _, after := _, guard := none } : Oper)) rfl (fun K hK => ?_) AllReadyH.nil
              rw [if_pos (by rfl)]
              refine store_sys _ C gm gr gc kS _ _ _ _ K _ rfl rfl (by rw [z0]; rfl) (by rw [z1]; rfl) (by rw [z2]; rfl) (by rw [z3]; rfl) (by rw [z4]; rfl) (by rw [z5]; rfl) y0 y1 y2 y3 y4 y5 ?_
              refine hK.out _ _ ?_ (fun hHeld => ?_)
              · exact (MA.out.bes BP (ne_some NKA)).cells
              clear hK K hHeld
              (try simp only [Act.put, List.setIfInBounds_toArray, List.set_cons_zero, List.set_cons_succ])
              refine wpAnyH_done (by kernel_rfl) ?_ _
              refine NoPanic.normal ?_
              clear z0 z1 z2 z3 z4 z5 z6 y0 y1 y2 y3 y4 y5
              go_wp2
              go_meet
              exact ⟨kS, gm, gr, gc, xs, rfl, rfl, rfl, ⟨(Ne.symm N_gmkS.out), N_kSgr.out, (Ne.symm N_gckS.out), N_gmgr.out, (Ne.symm N_gcgm.out), (Ne.symm N_gcgr.out), L_gm.out, L_gr.out, L_gc.out, L_kS.out⟩, TB_, RU.out.bes BP (ne_some (Ne.symm N_gmkS.out)), HC_, RR.out.bes BP (ne_some N_kSgr.out), RC.out.bes BP (ne_some (Ne.symm N_gckS.out)), HBa.out.trans (BP.below _ HBa.out.size (fun k e => by injection e with e; have := L_kS.out; omega))⟩
        · go_simp
          have b_ : Below v33.heap.size v33 (v33.alloc (.cells ON 3)) := bmore (Below.refl _ _) _
          refine hK.out _ _ ?_ (fun hHeld => ?_)
          · exact (MA.out.below b_).cells
          clear hK K
          (try simp only [Act.put, List.setIfInBounds_toArray, List.set_cons_zero, List.set_cons_succ])
          have n_ : RowN (v33.alloc (.cells ON 3)) v33.heap.size C (fun _ => 0) := HON.out v33 _ rfl
          obtain ⟨gr, h_⟩ : ∃ k, k = v33.heap.size := ⟨_, rfl⟩
          rw [← h_] at n_ ⊢
          have L_gr : Hid (W0.heap.size ≤ gr) := by have := HBa.out.size; have := h_; show _ ≤ _; omega
          have N_gcgr : Hid (gc ≠ gr) := by have := RC.out.lt; have := h_; show _ ≠ _; omega
          generalize (v33.alloc (.cells ON 3)) = v39 at n_ b_ hHeld ⊢
          replace MA : Hid (MBox _ _ _ _ _ _) := MA.out.below b_
          replace HBa : Hid (Below _ _ _) := bstep HBa.out b_
          replace RC : Hid (RowN _ _ _ _) := RC.out.below b_
          have RR : Hid (RowN v39 gr C (fun _ => 0)) := n_
          clear n_ b_ h_
          refine wpAnyH_ready (rs := [1, 9]) (by kernel_rfl) (by simp) ?_
          refine (AllReadyH.cons (o := ({ dst := some 6, op := Op.call { callee := Callee.value (Operand.func _), args := #[Operand.tmp 5], argTypes := _ }, type := _, pos := _, after := _, guard := none } : Oper)) rfl (fun K hK => ?_) (AllReadyH.cons (o := ({ dst := some 3, op := Op.alloc _, type := _, pos := _, after := _, guard := none } : Oper)) rfl (fun K hK => ?_) AllReadyH.nil))
          · go_simp
            go_at_call 21
            refine (mClone C C S a len cap Z _ HH.out ((UZ.out.below BW.out).below HBa.out) hsq).mono ?_
            rintro e v40 ⟨gm, xs, rfl, hg_, hR_, hC_, hb_⟩
            (try go_wp2_with fail)
            have L_gm : Hid (W0.heap.size ≤ gm) := by have := HBa.out.size; have := hg_; show _ ≤ _; omega
            have N_gcgm : Hid (gc ≠ gm) := by have := RC.out.lt; have := hg_; show _ ≠ _; omega
            have N_grgm : Hid (gr ≠ gm) := by have := RR.out.lt; have := hg_; show _ ≠ _; omega
            replace MA : Hid (MBox _ _ _ _ _ _) := MA.out.below hb_
            replace HBa : Hid (Below _ _ _) := bstep HBa.out hb_
            replace RC : Hid (RowN _ _ _ _) := RC.out.below hb_
            replace RR : Hid (RowN _ _ _ _) := RR.out.below hb_
            have RU : Hid (RowU v40 gm xs) := hR_
            have HC_ : Hid (CutI xs Z S 0 0 C C C) := hC_
            refine hK.out _ _ ?_ (fun hHeld => ?_)
            · exact MA.out.cells
            clear hK K hb_ hg_ hR_ hC_
            (try simp only [Act.put, List.setIfInBounds_toArray, List.set_cons_zero, List.set_cons_succ])
            refine wpAnyH_take (i := 8) (oi := ({ dst := some 13, op := Op.build _ #[(0, Operand.tmp 6), (1, Operand.tmp 9), (2, Operand.tmp 12)], type := _, pos := _, after := _, guard := none } : Oper)) (v := (.agg #[.int .i64 (C : Int), .int .i64 (C : Int), .int .i64 (C : Int), .slice (some ⟨gm, 0, none⟩) (C * C) (C * C), .slice (some ⟨gr, 0, none⟩) C C, .slice (some ⟨gc, 0, none⟩) C C])) rfl (by kernel_rfl) (by kernel_rfl) (by kernel_rfl) (fun _ _ _ h => h) (Or.inl ⟨by rfl, ?_⟩) (by assumption) ?_
            · intro w2 hSw; exact build_sys _ _ C gm gr gc _ _ _ _ rfl rfl rfl
            (try simp only [Act.put, List.setIfInBounds_toArray, List.set_cons_zero, List.set_cons_succ])
            refine wpAnyH_ready (rs := [9]) (by kernel_rfl) (by simp) ?_
            refine (AllReadyH.cons (o := ({ dst := some 3, op := Op.alloc _, type := _, pos := _, after := _, guard := none } : Oper)) rfl (fun K hK => ?_) AllReadyH.nil)
            · go_simp
              have b_ : Below v40.heap.size v40 (v40.alloc (.cells #[.int .i64 0, .int .i64 0, .int .i64 0, .slice none 0 0, .slice none 0 0, .slice none 0 0] 82)) := bmore (Below.refl _ _) _
              refine hK.out _ _ ?_ (fun hHeld => ?_)
              · exact (MA.out.below b_).cells
              clear hK K
              (try simp only [Act.put, List.setIfInBounds_toArray, List.set_cons_zero, List.set_cons_succ])
              have n_ : WT (v40.alloc (.cells #[.int .i64 0, .int .i64 0, .int .i64 0, .slice none 0 0, .slice none 0 0, .slice none 0 0] 82)) v40.heap.size := by
                  refine ⟨?_, fun j => ?_⟩
                  · refine ⟨?_, ?_, ?_, ?_, ?_, ?_, by simp⟩ <;> simp [go_sem]
                  · simp [go_sem]
              obtain ⟨kS, h_⟩ : ∃ k, k = v40.heap.size := ⟨_, rfl⟩
              rw [← h_] at n_ ⊢
              have L_kS : Hid (W0.heap.size ≤ kS) := by have := HBa.out.size; have := h_; show _ ≤ _; omega
              have N_gckS : Hid (gc ≠ kS) := by have := RC.out.lt; have := h_; show _ ≠ _; omega
              have N_grkS : Hid (gr ≠ kS) := by have := RR.out.lt; have := h_; show _ ≠ _; omega
              have N_gmkS : Hid (gm ≠ kS) := by have := RU.out.lt; have := h_; show _ ≠ _; omega
              generalize (v40.alloc (.cells #[.int .i64 0, .int .i64 0, .int .i64 0, .slice none 0 0, .slice none 0 0, .slice none 0 0] 82)) = v41 at n_ b_ hHeld ⊢
              replace MA : Hid (MBox _ _ _ _ _ _) := MA.out.below b_
              replace HBa : Hid (Below _ _ _) := bstep HBa.out b_
              replace RC : Hid (RowN _ _ _ _) := RC.out.below b_
              replace RR : Hid (RowN _ _ _ _) := RR.out.below b_
              replace RU : Hid (RowU _ _ _) := RU.out.below b_
              have WK : Hid (WT v41 kS) := n_
              clear n_ b_ h_
              obtain ⟨⟨z0, z1, z2, z3, z4, z5, z6⟩, zf⟩ := WK.out
              have y0 := zf 0
              have y1 := zf 1
              have y2 := zf 2
              have y3 := zf 3
              have y4 := zf 4
              have y5 := zf 5
              clear zf
              have NKA : kS ≠ ka := by have := L_kS.out; have := HKA.out; omega
              have BP : Bes (some kS) v41 ((((((v41.setCell ⟨kS, 0, none⟩ (.int .i64 (C : Int))).setCell ⟨kS, 1, none⟩ (.int .i64 (C : Int))).setCell ⟨kS, 2, none⟩ (.int .i64 (C : Int))).setCell ⟨kS, 3, none⟩ (.slice (some ⟨gm, 0, none⟩) (C * C) (C * C))).setCell ⟨kS, 4, none⟩ (.slice (some ⟨gr, 0, none⟩) C C)).setCell ⟨kS, 5, none⟩ (.slice (some ⟨gc, 0, none⟩) C C)) := (((((Bes.put v41 kS 0 _).set (p := ⟨kS, 1, none⟩) (.inr rfl) _).set (p := ⟨kS, 2, none⟩) (.inr rfl) _).set (p := ⟨kS, 3, none⟩) (.inr rfl) _).set (p := ⟨kS, 4, none⟩) (.inr rfl) _).set (p := ⟨kS, 5, none⟩) (.inr rfl) _
              have TB_ : TBox ((((((v41.setCell ⟨kS, 0, none⟩ (.int .i64 (C : Int))).setCell ⟨kS, 1, none⟩ (.int .i64 (C : Int))).setCell ⟨kS, 2, none⟩ (.int .i64 (C : Int))).setCell ⟨kS, 3, none⟩ (.slice (some ⟨gm, 0, none⟩) (C * C) (C * C))).setCell ⟨kS, 4, none⟩ (.slice (some ⟨gr, 0, none⟩) C C)).setCell ⟨kS, 5, none⟩ (.slice (some ⟨gc, 0, none⟩) C C)) kS (C : Int) (C : Int) (.slice (some ⟨gm, 0, none⟩) (C * C) (C * C)) (.slice (some ⟨gr, 0, none⟩) C C) (.slice (some ⟨gc, 0, none⟩) C C) := TBox.six _ _ _ _ _ _ _ (by rw [z0]; rfl) (by rw [z1]; rfl) (by rw [z2]; rfl) (by rw [z3]; rfl) (by rw [z4]; rfl) (by rw [z5]; rfl) z6
              refine wpAnyH_ready (rs := [10]) (by kernel_rfl) (by simp) ?_
              refine AllReadyH.cons (o := ({ dst := none, op := Op.store _ (Operand.tmp 3) (Operand.tmp 13), type := _, pos := _, after := _, guard := none } : Oper)) rfl (fun K hK => ?_) AllReadyH.nil
              rw [if_pos (by rfl)]
              refine store_sys _ C gm gr gc kS _ _ _ _ K _ rfl rfl (by rw [z0]; rfl) (by rw [z1]; rfl) (by rw [z2]; rfl) (by rw [z3]; rfl) (by rw [z4]; rfl) (by rw [z5]; rfl) y0 y1 y2 y3 y4 y5 ?_
              refine hK.out _ _ ?_ (fun hHeld => ?_)
              · exact (MA.out.bes BP (ne_some NKA)).cells
              clear hK K hHeld
              (try simp only [Act.put, List.setIfInBounds_toArray, List.set_cons_zero, List.set_cons_succ])
              refine wpAnyH_done (by kernel_rfl) ?_ _
              refine NoPanic.normal ?_
              clear z0 z1 z2 z3 z4 z5 z6 y0 y1 y2 y3 y4 y5
              go_wp2
              go_meet
              exact ⟨kS, gm, gr, gc, xs, rfl, rfl, rfl, ⟨(Ne.symm N_gmkS.out), (Ne.symm N_grkS.out), (Ne.symm N_gckS.out), (Ne.symm N_grgm.out), (Ne.symm N_gcgm.out), (Ne.symm N_gcgr.out), L_gm.out, L_gr.out, L_gc.out, L_kS.out⟩, TB_, RU.out.bes BP (ne_some (Ne.symm N_gmkS.out)), HC_, RR.out.bes BP (ne_some (Ne.symm N_grkS.out)), RC.out.bes BP (ne_some (Ne.symm N_gckS.out)), HBa.out.trans (BP.below _ HBa.out.size (fun k e => by injection e with e; have := L_kS.out; omega))⟩
          · go_simp
            have b_ : Below v39.heap.size v39 (v39.alloc (.cells #[.int .i64 0, .int .i64 0, .int .i64 0, .slice none 0 0, .slice none 0 0, .slice none 0 0] 82)) := bmore (Below.refl _ _) _
            refine hK.out _ _ ?_ (fun hHeld => ?_)
            · exact (MA.out.below b_).cells
            clear hK K
            (try simp only [Act.put, List.setIfInBounds_toArray, List.set_cons_zero, List.set_cons_succ])
            have n_ : WT (v39.alloc (.cells #[.int .i64 0, .int .i64 0, .int .i64 0, .slice none 0 0, .slice none 0 0, .slice none 0 0] 82)) v39.heap.size := by
                refine ⟨?_, fun j => ?_⟩
                · refine ⟨?_, ?_, ?_, ?_, ?_, ?_, by simp⟩ <;> simp [go_sem]
                · simp [go_sem]
            obtain ⟨kS, h_⟩ : ∃ k, k = v39.heap.size := ⟨_, rfl⟩
            rw [← h_] at n_ ⊢
            have L_kS : Hid (W0.heap.size ≤ kS) := by have := HBa.out.size; have := h_; show _ ≤ _; omega
            have N_gckS : Hid (gc ≠ kS) := by have := RC.out.lt; have := h_; show _ ≠ _; omega
            have N_grkS : Hid (gr ≠ kS) := by have := RR.out.lt; have := h_; show _ ≠ _; omega
            generalize (v39.alloc (.cells #[.int .i64 0, .int .i64 0, .int .i64 0, .slice none 0 0, .slice none 0 0, .slice none 0 0] 82)) = v42 at n_ b_ hHeld ⊢
            replace MA : Hid (MBox _ _ _ _ _ _) := MA.out.below b_
            replace HBa : Hid (Below _ _ _) := bstep HBa.out b_
            replace RC : Hid (RowN _ _ _ _) := RC.out.below b_
            replace RR : Hid (RowN _ _ _ _) := RR.out.below b_
            have WK : Hid (WT v42 kS) := n_
            clear n_ b_ h_
            refine wpAnyH_ready (rs := [1]) (by kernel_rfl) (by simp) ?_
            refine (AllReadyH.cons (o := ({ dst := some 6, op := Op.call { callee := Callee.value (Operand.func _), args := #[Operand.tmp 5], argTypes := _ }, type := _, pos := _, after := _, guard := none } : Oper)) rfl (fun K hK => ?_) AllReadyH.nil)
            · go_simp
              go_at_call 21
              refine (mClone C C S a len cap Z _ HH.out ((UZ.out.below BW.out).below HBa.out) hsq).mono ?_
              rintro e v43 ⟨gm, xs, rfl, hg_, hR_, hC_, hb_⟩
              (try go_wp2_with fail)
              have L_gm : Hid (W0.heap.size ≤ gm) := by have := HBa.out.size; have := hg_; show _ ≤ _; omega
              have N_gcgm : Hid (gc ≠ gm) := by have := RC.out.lt; have := hg_; show _ ≠ _; omega
              have N_grgm : Hid (gr ≠ gm) := by have := RR.out.lt; have := hg_; show _ ≠ _; omega
              have N_kSgm : Hid (kS ≠ gm) := by have := WK.out.1.2.2.2.2.2.2; have := hg_; show _ ≠ _; omega
              replace MA : Hid (MBox _ _ _ _ _ _) := MA.out.below hb_
              replace HBa : Hid (Below _ _ _) := bstep HBa.out hb_
              replace RC : Hid (RowN _ _ _ _) := RC.out.below hb_
              replace RR : Hid (RowN _ _ _ _) := RR.out.below hb_
              replace WK : Hid (WT _ _) := WK.out.below hb_
              have RU : Hid (RowU v43 gm xs) := hR_
              have HC_ : Hid (CutI xs Z S 0 0 C C C) := hC_
              refine hK.out _ _ ?_ (fun hHeld => ?_)
              · exact MA.out.cells
              clear hK K hb_ hg_ hR_ hC_
              (try simp only [Act.put, List.setIfInBounds_toArray, List.set_cons_zero, List.set_cons_succ])
              refine wpAnyH_take (i := 8) (oi := ({ dst := some 13, op := Op.build _ #[(0, Operand.tmp 6), (1, Operand.tmp 9), (2, Operand.tmp 12)], type := _, pos := _, after := _, guard := none } : Oper)) (v := (.agg #[.int .i64 (C : Int), .int .i64 (C : Int), .int .i64 (C : Int), .slice (some ⟨gm, 0, none⟩) (C * C) (C * C), .slice (some ⟨gr, 0, none⟩) C C, .slice (some ⟨gc, 0, none⟩) C C])) rfl (by kernel_rfl) (by kernel_rfl) (by kernel_rfl) (fun _ _ _ h => h) (Or.inl ⟨by rfl, ?_⟩) (by assumption) ?_
              · intro w2 hSw; exact build_sys _ _ C gm gr gc _ _ _ _ rfl rfl rfl
              (try simp only [Act.put, List.setIfInBounds_toArray, List.set_cons_zero, List.set_cons_succ])
              obtain ⟨⟨z0, z1, z2, z3, z4, z5, z6⟩, zf⟩ := WK.out
              have y0 := zf 0
              have y1 := zf 1
              have y2 := zf 2
              have y3 := zf 3
              have y4 := zf 4
              have y5 := zf 5
              clear zf
              have NKA : kS ≠ ka := by have := L_kS.out; have := HKA.out; omega
              have BP : Bes (some kS) v43 ((((((v43.setCell ⟨kS, 0, none⟩ (.int .i64 (C : Int))).setCell ⟨kS, 1, none⟩ (.int .i64 (C : Int))).setCell ⟨kS, 2, none⟩ (.int .i64 (C : Int))).setCell ⟨kS, 3, none⟩ (.slice (some ⟨gm, 0, none⟩) (C * C) (C * C))).setCell ⟨kS, 4, none⟩ (.slice (some ⟨gr, 0, none⟩) C C)).setCell ⟨kS, 5, none⟩ (.slice (some ⟨gc, 0, none⟩) C C)) := (((((Bes.put v43 kS 0 _).set (p := ⟨kS, 1, none⟩) (.inr rfl) _).set (p := ⟨kS, 2, none⟩) (.inr rfl) _).set (p := ⟨kS, 3, none⟩) (.inr rfl) _).set (p := ⟨kS, 4, none⟩) (.inr rfl) _).set (p := ⟨kS, 5, none⟩) (.inr rfl) _
              have TB_ : TBox ((((((v43.setCell ⟨kS, 0, none⟩ (.int .i64 (C : Int))).setCell ⟨kS, 1, none⟩ (.int .i64 (C : Int))).setCell ⟨kS, 2, none⟩ (.int .i64 (C : Int))).setCell ⟨kS, 3, none⟩ (.slice (some ⟨gm, 0, none⟩) (C * C) (C * C))).setCell ⟨kS, 4, none⟩ (.slice (some ⟨gr, 0, none⟩) C C)).setCell ⟨kS, 5, none⟩ (.slice (some ⟨gc, 0, none⟩) C C)) kS (C : Int) (C : Int) (.slice (some ⟨gm, 0, none⟩) (C * C) (C * C)) (.slice (some ⟨gr, 0, none⟩) C C) (.slice (some ⟨gc, 0, none⟩) C C) := TBox.six _ _ _ _ _ _ _ (by rw [z0]; rfl) (by rw [z1]; rfl) (by rw [z2]; rfl) (by rw [z3]; rfl) (by rw [z4]; rfl) (by rw [z5]; rfl) z6
              refine wpAnyH_ready (rs := [10]) (by kernel_rfl) (by simp) ?_
              refine AllReadyH.cons (o := ({ dst := none, op := Op.store _ (Operand.tmp 3) (Operand.tmp 13), type := _, pos := _, after := _, guard := none } : Oper)) rfl (fun K hK => ?_) AllReadyH.nil
              rw [if_pos (by rfl)]
              refine store_sys _ C gm gr gc kS _ _ _ _ K _ rfl rfl (by rw [z0]; rfl) (by rw [z1]; rfl) (by rw [z2]; rfl) (by rw [z3]; rfl) (by rw [z4]; rfl) (by rw [z5]; rfl) y0 y1 y2 y3 y4 y5 ?_
              refine hK.out _ _ ?_ (fun hHeld => ?_)
              · exact (MA.out.bes BP (ne_some NKA)).cells
              clear hK K hHeld
              (try simp only [Act.put, List.setIfInBounds_toArray, List.set_cons_zero, List.set_cons_succ])
              refine wpAnyH_done (by kernel_rfl) ?_ _
              refine NoPanic.normal ?_
              clear z0 z1 z2 z3 z4 z5 z6 y0 y1 y2 y3 y4 y5
              go_wp2
              go_meet
              exact ⟨kS, gm, gr, gc, xs, rfl, rfl, rfl, ⟨N_kSgm.out, (Ne.symm N_grkS.out), (Ne.symm N_gckS.out), (Ne.symm N_grgm.out), (Ne.symm N_gcgm.out), (Ne.symm N_gcgr.out), L_gm.out, L_gr.out, L_gc.out, L_kS.out⟩, TB_, RU.out.bes BP (ne_some N_kSgm.out), HC_, RR.out.bes BP (ne_some (Ne.symm N_grkS.out)), RC.out.bes BP (ne_some (Ne.symm N_gckS.out)), HBa.out.trans (BP.below _ HBa.out.size (fun k e => by injection e with e; have := L_kS.out; omega))⟩
        · go_simp
          have b_ : Below v33.heap.size v33 (v33.alloc (.cells #[.int .i64 0, .int .i64 0, .int .i64 0, .slice none 0 0, .slice none 0 0, .slice none 0 0] 82)) := bmore (Below.refl _ _) _
          refine hK.out _ _ ?_ (fun hHeld => ?_)
          · exact (MA.out.below b_).cells
          clear hK K
          (try simp only [Act.put, List.setIfInBounds_toArray, List.set_cons_zero, List.set_cons_succ])
          have n_ : WT (v33.alloc (.cells #[.int .i64 0, .int .i64 0, .int .i64 0, .slice none 0 0, .slice none 0 0, .slice none 0 0] 82)) v33.heap.size := by
              refine ⟨?_, fun j => ?_⟩
              · refine ⟨?_, ?_, ?_, ?_, ?_, ?_, by simp⟩ <;> simp [go_sem]
              · simp [go_sem]
          obtain ⟨kS, h_⟩ : ∃ k, k = v33.heap.size := ⟨_, rfl⟩
          rw [← h_] at n_ ⊢
          have L_kS : Hid (W0.heap.size ≤ kS) := by have := HBa.out.size; have := h_; show _ ≤ _; omega
          have N_gckS : Hid (gc ≠ kS) := by have := RC.out.lt; have := h_; show _ ≠ _; omega
          generalize (v33.alloc (.cells #[.int .i64 0, .int .i64 0, .int .i64 0, .slice none 0 0, .slice none 0 0, .slice none 0 0] 82)) = v44 at n_ b_ hHeld ⊢
          replace MA : Hid (MBox _ _ _ _ _ _) := MA.out.below b_
          replace HBa : Hid (Below _ _ _) := bstep HBa.out b_
          replace RC : Hid (RowN _ _ _ _) := RC.out.below b_
          have WK : Hid (WT v44 kS) := n_
          clear n_ b_ h_
          refine wpAnyH_ready (rs := [1, 4]) (by kernel_rfl) (by simp) ?_
          refine (AllReadyH.cons (o := ({ dst := some 6, op := Op.call { callee := Callee.value (Operand.func _), args := #[Operand.tmp 5], argTypes := _ }, type := _, pos := _, after := _, guard := none } : Oper)) rfl (fun K hK => ?_) (AllReadyH.cons (o := ({ dst := some 9, op := Op.makeSlice _ (Operand.tmp 8) (Operand.tmp 8), type := _, pos := _, after := _, guard := none } : Oper)) rfl (fun K hK => ?_) AllReadyH.nil))
          · go_simp
            go_at_call 21
            refine (mClone C C S a len cap Z _ HH.out ((UZ.out.below BW.out).below HBa.out) hsq).mono ?_
            rintro e v45 ⟨gm, xs, rfl, hg_, hR_, hC_, hb_⟩
            (try go_wp2_with fail)
            have L_gm : Hid (W0.heap.size ≤ gm) := by have := HBa.out.size; have := hg_; show _ ≤ _; omega
            have N_gcgm : Hid (gc ≠ gm) := by have := RC.out.lt; have := hg_; show _ ≠ _; omega
            have N_kSgm : Hid (kS ≠ gm) := by have := WK.out.1.2.2.2.2.2.2; have := hg_; show _ ≠ _; omega
            replace MA : Hid (MBox _ _ _ _ _ _) := MA.out.below hb_
            replace HBa : Hid (Below _ _ _) := bstep HBa.out hb_
            replace RC : Hid (RowN _ _ _ _) := RC.out.below hb_
            replace WK : Hid (WT _ _) := WK.out.below hb_
            have RU : Hid (RowU v45 gm xs) := hR_
            have HC_ : Hid (CutI xs Z S 0 0 C C C) := hC_
            refine hK.out _ _ ?_ (fun hHeld => ?_)
            · exact MA.out.cells
            clear hK K hb_ hg_ hR_ hC_
            (try simp only [Act.put, List.setIfInBounds_toArray, List.set_cons_zero, List.set_cons_succ])
            refine wpAnyH_ready (rs := [4]) (by kernel_rfl) (by simp) ?_
            refine (AllReadyH.cons (o := ({ dst := some 9, op := Op.makeSlice _ (Operand.tmp 8) (Operand.tmp 8), type := _, pos := _, after := _, guard := none } : Oper)) rfl (fun K hK => ?_) AllReadyH.nil)
            · go_simp
              have b_ : Below v45.heap.size v45 (v45.alloc (.cells ON 3)) := bmore (Below.refl _ _) _
              refine hK.out _ _ ?_ (fun hHeld => ?_)
              · exact (MA.out.below b_).cells
              clear hK K
              (try simp only [Act.put, List.setIfInBounds_toArray, List.set_cons_zero, List.set_cons_succ])
              have n_ : RowN (v45.alloc (.cells ON 3)) v45.heap.size C (fun _ => 0) := HON.out v45 _ rfl
              obtain ⟨gr, h_⟩ : ∃ k, k = v45.heap.size := ⟨_, rfl⟩
              rw [← h_] at n_ ⊢
              have L_gr : Hid (W0.heap.size ≤ gr) := by have := HBa.out.size; have := h_; show _ ≤ _; omega
              have N_gcgr : Hid (gc ≠ gr) := by have := RC.out.lt; have := h_; show _ ≠ _; omega
              have N_kSgr : Hid (kS ≠ gr) := by have := WK.out.1.2.2.2.2.2.2; have := h_; show _ ≠ _; omega
              have N_gmgr : Hid (gm ≠ gr) := by have := RU.out.lt; have := h_; show _ ≠ _; omega
              generalize (v45.alloc (.cells ON 3)) = v46 at n_ b_ hHeld ⊢
              replace MA : Hid (MBox _ _ _ _ _ _) := MA.out.below b_
              replace HBa : Hid (Below _ _ _) := bstep HBa.out b_
              replace RC : Hid (RowN _ _ _ _) := RC.out.below b_
              replace WK : Hid (WT _ _) := WK.out.below b_
              replace RU : Hid (RowU _ _ _) := RU.out.below b_
              have RR : Hid (RowN v46 gr C (fun _ => 0)) := n_
              clear n_ b_ h_
              refine wpAnyH_take (i := 8) (oi := ({ dst := some 13, op := Op.build _ #[(0, Operand.tmp 6), (1, Operand.tmp 9), (2, Operand.tmp 12)], type := _, pos := _, after := _, guard := none } : Oper)) (v := (.agg #[.int .i64 (C : Int), .int .i64 (C : Int), .int .i64 (C : Int), .slice (some ⟨gm, 0, none⟩) (C * C) (C * C), .slice (some ⟨gr, 0, none⟩) C C, .slice (some ⟨gc, 0, none⟩) C C])) rfl (by kernel_rfl) (by kernel_rfl) (by kernel_rfl) (fun _ _ _ h => h) (Or.inl ⟨by rfl, ?_⟩) (by assumption) ?_
              · intro w2 hSw; exact build_sys _ _ C gm gr gc _ _ _ _ rfl rfl rfl
              (try simp only [Act.put, List.setIfInBounds_toArray, List.set_cons_zero, List.set_cons_succ])
              obtain ⟨⟨z0, z1, z2, z3, z4, z5, z6⟩, zf⟩ := WK.out
              have y0 := zf 0
              have y1 := zf 1
              have y2 := zf 2
              have y3 := zf 3
              have y4 := zf 4
              have y5 := zf 5
              clear zf
              have NKA : kS ≠ ka := by have := L_kS.out; have := HKA.out; omega
              have BP : Bes (some kS) v46 ((((((v46.setCell ⟨kS, 0, none⟩ (.int .i64 (C : Int))).setCell ⟨kS, 1, none⟩ (.int .i64 (C : Int))).setCell ⟨kS, 2, none⟩ (.int .i64 (C : Int))).setCell ⟨kS, 3, none⟩ (.slice (some ⟨gm, 0, none⟩) (C * C) (C * C))).setCell ⟨kS, 4, none⟩ (.slice (some ⟨gr, 0, none⟩) C C)).setCell ⟨kS, 5, none⟩ (.slice (some ⟨gc, 0, none⟩) C C)) := (((((Bes.put v46 kS 0 _).set (p := ⟨kS, 1, none⟩) (.inr rfl) _).set (p := ⟨kS, 2, none⟩) (.inr rfl) _).set (p := ⟨kS, 3, none⟩) (.inr rfl) _).set (p := ⟨kS, 4, none⟩) (.inr rfl) _).set (p := ⟨kS, 5, none⟩) (.inr rfl) _
              have TB_ : TBox ((((((v46.setCell ⟨kS, 0, none⟩ (.int .i64 (C : Int))).setCell ⟨kS, 1, none⟩ (.int .i64 (C : Int))).setCell ⟨kS, 2, none⟩ (.int .i64 (C : Int))).setCell ⟨kS, 3, none⟩ (.slice (some ⟨gm, 0, none⟩) (C * C) (C * C))).setCell ⟨kS, 4, none⟩ (.slice (some ⟨gr, 0, none⟩) C C)).setCell ⟨kS, 5, none⟩ (.slice (some ⟨gc, 0, none⟩) C C)) kS (C : Int) (C : Int) (.slice (some ⟨gm, 0, none⟩) (C * C) (C * C)) (.slice (some ⟨gr, 0, none⟩) C C) (.slice (some ⟨gc, 0, none⟩) C C) := TBox.six _ _ _ _ _ _ _ (by rw [z0]; rfl) (by rw [z1]; rfl) (by rw [z2]; rfl) (by rw [z3]; rfl) (by rw [z4]; rfl) (by rw [z5]; rfl) z6
              refine wpAnyH_ready (rs := [10]) (by kernel_rfl) (by simp) ?_
              refine AllReadyH.cons (o := ({ dst := none, op := Op.store _ (Operand.tmp 3) (Operand.tmp 13), type := _, pos := _, after := _, guard := none } : Oper)) rfl (fun K hK => ?_) AllReadyH.nil
              rw [if_pos (by rfl)]
              refine store_sys _ C gm gr gc kS _ _ _ _ K _ rfl rfl (by rw [z0]; rfl) (by rw [z1]; rfl) (by rw [z2]; rfl) (by rw [z3]; rfl) (by rw [z4]; rfl) (by rw [z5]; rfl) y0 y1 y2 y3 y4 y5 ?_
              refine hK.out _ _ ?_ (fun hHeld => ?_)
              · exact (MA.out.bes BP (ne_some NKA)).cells
              clear hK K hHeld
              (try simp only [Act.put, List.setIfInBounds_toArray, List.set_cons_zero, List.set_cons_succ])
              refine wpAnyH_done (by kernel_rfl) ?_ _
              refine NoPanic.normal ?_
              clear z0 z1 z2 z3 z4 z5 z6 y0 y1 y2 y3 y4 y5
              go_wp2
              go_meet
              exact ⟨kS, gm, gr, gc, xs, rfl, rfl, rfl, ⟨N_kSgm.out, N_kSgr.out, (Ne.symm N_gckS.out), N_gmgr.out, (Ne.symm N_gcgm.out), (Ne.symm N_gcgr.out), L_gm.out, L_gr.out, L_gc.out, L_kS.out⟩, TB_, RU.out.bes BP (ne_some N_kSgm.out), HC_, RR.out.bes BP (ne_some N_kSgr.out), RC.out.bes BP (ne_some (Ne.symm N_gckS.out)), HBa.out.trans (BP.below _ HBa.out.size (fun k e => by injection e with e; have := L_kS.out; omega))⟩
          · go_simp
            have b_ : Below v44.heap.size v44 (v44.alloc (.cells ON 3)) := bmore (Below.refl _ _) _
            refine hK.out _ _ ?_ (fun hHeld => ?_)
            · exact (MA.out.below b_).cells
            clear hK K
            (try simp only [Act.put, List.setIfInBounds_toArray, List.set_cons_zero, List.set_cons_succ])
            have n_ : RowN (v44.alloc (.cells ON 3)) v44.heap.size C (fun _ => 0) := HON.out v44 _ rfl
            obtain ⟨gr, h_⟩ : ∃ k, k = v44.heap.size := ⟨_, rfl⟩
            rw [← h_] at n_ ⊢
            have L_gr : Hid (W0.heap.size ≤ gr) := by have := HBa.out.size; have := h_; show _ ≤ _; omega
            have N_gcgr : Hid (gc ≠ gr) := by have := RC.out.lt; have := h_; show _ ≠ _; omega
            have N_kSgr : Hid (kS ≠ gr) := by have := WK.out.1.2.2.2.2.2.2; have := h_; show _ ≠ _; omega
            generalize (v44.alloc (.cells ON 3)) = v47 at n_ b_ hHeld ⊢
            replace MA : Hid (MBox _ _ _ _ _ _) := MA.out.below b_
            replace HBa : Hid (Below _ _ _) := bstep HBa.out b_
            replace RC : Hid (RowN _ _ _ _) := RC.out.below b_
            replace WK : Hid (WT _ _) := WK.out.below b_
            have RR : Hid (RowN v47 gr C (fun _ => 0)) := n_
            clear n_ b_ h_
            refine wpAnyH_ready (rs := [1]) (by kernel_rfl) (by simp) ?_
            refine (AllReadyH.cons (o := ({ dst := some 6, op := Op.call { callee := Callee.value (Operand.func _), args := #[Operand.tmp 5], argTypes := _ }, type := _, pos := _, after := _, guard := none } : Oper)) rfl (fun K hK => ?_) AllReadyH.nil)
            · go_simp
              go_at_call 21
              refine (mClone C C S a len cap Z _ HH.out ((UZ.out.below BW.out).below HBa.out) hsq).mono ?_
              rintro e v48 ⟨gm, xs, rfl, hg_, hR_, hC_, hb_⟩
              (try go_wp2_with fail)
              have L_gm : Hid (W0.heap.size ≤ gm) := by have := HBa.out.size; have := hg_; show _ ≤ _; omega
              have N_gcgm : Hid (gc ≠ gm) := by have := RC.out.lt; have := hg_; show _ ≠ _; omega
              have N_kSgm : Hid (kS ≠ gm) := by have := WK.out.1.2.2.2.2.2.2; have := hg_; show _ ≠ _; omega
              have N_grgm : Hid (gr ≠ gm) := by have := RR.out.lt; have := hg_; show _ ≠ _; omega
              replace MA : Hid (MBox _ _ _ _ _ _) := MA.out.below hb_
              replace HBa : Hid (Below _ _ _) := bstep HBa.out hb_
              replace RC : Hid (RowN _ _ _ _) := RC.out.below hb_
              replace WK : Hid (WT _ _) := WK.out.below hb_
              replace RR : Hid (RowN _ _ _ _) := RR.out.below hb_
              have RU : Hid (RowU v48 gm xs) := hR_
              have HC_ : Hid (CutI xs Z S 0 0 C C C) := hC_
              refine hK.out _ _ ?_ (fun hHeld => ?_)
              · exact MA.out.cells
              clear hK K hb_ hg_ hR_ hC_
              (try simp only [Act.put, List.setIfInBounds_toArray, List.set_cons_zero, List.set_cons_succ])
              refine wpAnyH_take (i := 8) (oi := ({ dst := some 13, op := Op.build _ #[(0, Operand.tmp 6), (1, Operand.tmp 9), (2, Operand.tmp 12)], type := _, pos := _, after := _, guard := none } : Oper)) (v := (.agg #[.int .i64 (C : Int), .int .i64 (C : Int), .int .i64 (C : Int), .slice (some ⟨gm, 0, none⟩) (C * C) (C * C), .slice (some ⟨gr, 0, none⟩) C C, .slice (some ⟨gc, 0, none⟩) C C])) rfl (by kernel_rfl) (by kernel_rfl) (by kernel_rfl) (fun _ _ _ h => h) (Or.inl ⟨by rfl, ?_⟩) (by assumption) ?_
              · intro w2 hSw; exact build_sys _ _ C gm gr gc _ _ _ _ rfl rfl rfl
              (try simp only [Act.put, List.setIfInBounds_toArray, List.set_cons_zero, List.set_cons_succ])
              obtain ⟨⟨z0, z1, z2, z3, z4, z5, z6⟩, zf⟩ := WK.out
              have y0 := zf 0
              have y1 := zf 1
              have y2 := zf 2
              have y3 := zf 3
              have y4 := zf 4
              have y5 := zf 5
              clear zf
              have NKA : kS ≠ ka := by have := L_kS.out; have := HKA.out; omega
              have BP : Bes (some kS) v48 ((((((v48.setCell ⟨kS, 0, none⟩ (.int .i64 (C : Int))).setCell ⟨kS, 1, none⟩ (.int .i64 (C : Int))).setCell ⟨kS, 2, none⟩ (.int .i64 (C : Int))).setCell ⟨kS, 3, none⟩ (.slice (some ⟨gm, 0, none⟩) (C * C) (C * C))).setCell ⟨kS, 4, none⟩ (.slice (some ⟨gr, 0, none⟩) C C)).setCell ⟨kS, 5, none⟩ (.slice (some ⟨gc, 0, none⟩) C C)) := (((((Bes.put v48 kS 0 _).set (p := ⟨kS, 1, none⟩) (.inr rfl) _).set (p := ⟨kS, 2, none⟩) (.inr rfl) _).set (p := ⟨kS, 3, none⟩) (.inr rfl) _).set (p := ⟨kS, 4, none⟩) (.inr rfl) _).set (p := ⟨kS, 5, none⟩) (.inr rfl) _
              have TB_ : TBox ((((((v48.setCell ⟨kS, 0, none⟩ (.int .i64 (C : Int))).setCell ⟨kS, 1, none⟩ (.int .i64 (C : Int))).setCell ⟨kS, 2, none⟩ (.int .i64 (C : Int))).setCell ⟨kS, 3, none⟩ (.slice (some ⟨gm, 0, none⟩) (C * C) (C * C))).setCell ⟨kS, 4, none⟩ (.slice (some ⟨gr, 0, none⟩) C C)).setCell ⟨kS, 5, none⟩ (.slice (some ⟨gc, 0, none⟩) C C)) kS (C : Int) (C : Int) (.slice (some ⟨gm, 0, none⟩) (C * C) (C * C)) (.slice (some ⟨gr, 0, none⟩) C C) (.slice (some ⟨gc, 0, none⟩) C C) := TBox.six _ _ _ _ _ _ _ (by rw [z0]; rfl) (by rw [z1]; rfl) (by rw [z2]; rfl) (by rw [z3]; rfl) (by rw [z4]; rfl) (by rw [z5]; rfl) z6
              refine wpAnyH_ready (rs := [10]) (by kernel_rfl) (by simp) ?_
              refine AllReadyH.cons (o := ({ dst := none, op := Op.store _ (Operand.tmp 3) (Operand.tmp 13), type := _, pos := _, after := _, guard := none } : Oper)) rfl (fun K hK => ?_) AllReadyH.nil
              rw [if_pos (by rfl)]
              refine store_sys _ C gm gr gc kS _ _ _ _ K _ rfl rfl (by rw [z0]; rfl) (by rw [z1]; rfl) (by rw [z2]; rfl) (by rw [z3]; rfl) (by rw [z4]; rfl) (by rw [z5]; rfl) y0 y1 y2 y3 y4 y5 ?_
              refine hK.out _ _ ?_ (fun hHeld => ?_)
              · exact (MA.out.bes BP (ne_some NKA)).cells
              clear hK K hHeld
              (try simp only [Act.put, List.setIfInBounds_toArray, List.set_cons_zero, List.set_cons_succ])
              refine wpAnyH_done (by kernel_rfl) ?_ _
              refine NoPanic.normal ?_
              clear z0 z1 z2 z3 z4 z5 z6 y0 y1 y2 y3 y4 y5
              go_wp2
              go_meet
              exact ⟨kS, gm, gr, gc, xs, rfl, rfl, rfl, ⟨N_kSgm.out, N_kSgr.out, (Ne.symm N_gckS.out), (Ne.symm N_grgm.out), (Ne.symm N_gcgm.out), (Ne.symm N_gcgr.out), L_gm.out, L_gr.out, L_gc.out, L_kS.out⟩, TB_, RU.out.bes BP (ne_some N_kSgm.out), HC_, RR.out.bes BP (ne_some N_kSgr.out), RC.out.bes BP (ne_some (Ne.symm N_gckS.out)), HBa.out.trans (BP.below _ HBa.out.size (fun k e => by injection e with e; have := L_kS.out; omega))⟩
      · go_simp
        have b_ : Below v0.heap.size v0 (v0.alloc (.cells #[.int .i64 0, .int .i64 0, .int .i64 0, .slice none 0 0, .slice none 0 0, .slice none 0 0] 82)) := bmore (Below.refl _ _) _
        refine hK.out _ _ ?_ (fun hHeld => ?_)
        · exact (MA.out.below b_).cells
        clear hK K
        (try simp only [Act.put, List.setIfInBounds_toArray, List.set_cons_zero, List.set_cons_succ])
        have n_ : WT (v0.alloc (.cells #[.int .i64 0, .int .i64 0, .int .i64 0, .slice none 0 0, .slice none 0 0, .slice none 0 0] 82)) v0.heap.size := by
            refine ⟨?_, fun j => ?_⟩
            · refine ⟨?_, ?_, ?_, ?_, ?_, ?_, by simp⟩ <;> simp [go_sem]
            · simp [go_sem]
        obtain ⟨kS, h_⟩ : ∃ k, k = v0.heap.size := ⟨_, rfl⟩
        rw [← h_] at n_ ⊢
        have L_kS : Hid (W0.heap.size ≤ kS) := by have := HBa.out.size; have := h_; show _ ≤ _; omega
        generalize (v0.alloc (.cells #[.int .i64 0, .int .i64 0, .int .i64 0, .slice none 0 0, .slice none 0 0, .slice none 0 0] 82)) = v49 at n_ b_ hHeld ⊢
        replace MA : Hid (MBox _ _ _ _ _ _) := MA.out.below b_
        replace HBa : Hid (Below _ _ _) := bstep HBa.out b_
        have WK : Hid (WT v49 kS) := n_
        clear n_ b_ h_
        refine wpAnyH_ready (rs := [1, 4, 7]) (by kernel_rfl) (by simp) ?_
        refine (AllReadyH.cons (o := ({ dst := some 6, op := Op.call { callee := Callee.value (Operand.func _), args := #[Operand.tmp 5], argTypes := _ }, type := _, pos := _, after := _, guard := none } : Oper)) rfl (fun K hK => ?_) (AllReadyH.cons (o := ({ dst := some 9, op := Op.makeSlice _ (Operand.tmp 8) (Operand.tmp 8), type := _, pos := _, after := _, guard := none } : Oper)) rfl (fun K hK => ?_) (AllReadyH.cons (o := ({ dst := some 12, op := Op.makeSlice _ (Operand.tmp 11) (Operand.tmp 11), type := _, pos := _, after := _, guard := none } : Oper)) rfl (fun K hK => ?_) AllReadyH.nil)))
        · go_simp
          go_at_call 21
          refine (mClone C C S a len cap Z _ HH.out ((UZ.out.below BW.out).below HBa.out) hsq).mono ?_
          rintro e v50 ⟨gm, xs, rfl, hg_, hR_, hC_, hb_⟩
          (try go_wp2_with fail)
          have L_gm : Hid (W0.heap.size ≤ gm) := by have := HBa.out.size; have := hg_; show _ ≤ _; omega
          have N_kSgm : Hid (kS ≠ gm) := by have := WK.out.1.2.2.2.2.2.2; have := hg_; show _ ≠ _; omega
          replace MA : Hid (MBox _ _ _ _ _ _) := MA.out.below hb_
          replace HBa : Hid (Below _ _ _) := bstep HBa.out hb_
          replace WK : Hid (WT _ _) := WK.out.below hb_
          have RU : Hid (RowU v50 gm xs) := hR_
          have HC_ : Hid (CutI xs Z S 0 0 C C C) := hC_
          refine hK.out _ _ ?_ (fun hHeld => ?_)
          · exact MA.out.cells
          clear hK K hb_ hg_ hR_ hC_
          (try simp only [Act.put, List.setIfInBounds_toArray, List.set_cons_zero, List.set_cons_succ])
          refine wpAnyH_ready (rs := [4, 7]) (by kernel_rfl) (by simp) ?_
          refine (AllReadyH.cons (o := ({ dst := some 9, op := Op.makeSlice _ (Operand.tmp 8) (Operand.tmp 8), type := _, pos := _, after := _, guard := none } : Oper)) rfl (fun K hK => ?_) (AllReadyH.cons (o := ({ dst := some 12, op := Op.makeSlice _ (Operand.tmp 11) (Operand.tmp 11), type := _, pos := _, after := _, guard := none } : Oper)) rfl (fun K hK => ?_) AllReadyH.nil))
          · go_simp
            have b_ : Below v50.heap.size v50 (v50.alloc (.cells ON 3)) := bmore (Below.refl _ _) _
            refine hK.out _ _ ?_ (fun hHeld => ?_)
            · exact (MA.out.below b_).cells
            clear hK K
            (try simp only [Act.put, List.setIfInBounds_toArray, List.set_cons_zero, List.set_cons_succ])
            have n_ : RowN (v50.alloc (.cells ON 3)) v50.heap.size C (fun _ => 0) := HON.out v50 _ rfl
            obtain ⟨gr, h_⟩ : ∃ k, k = v50.heap.size := ⟨_, rfl⟩
            rw [← h_] at n_ ⊢
            have L_gr : Hid (W0.heap.size ≤ gr) := by have := HBa.out.size; have := h_; show _ ≤ _; omega
            have N_kSgr : Hid (kS ≠ gr) := by have := WK.out.1.2.2.2.2.2.2; have := h_; show _ ≠ _; omega
            have N_gmgr : Hid (gm ≠ gr) := by have := RU.out.lt; have := h_; show _ ≠ _; omega
            generalize (v50.alloc (.cells ON 3)) = v51 at n_ b_ hHeld ⊢
            replace MA : Hid (MBox _ _ _ _ _ _) := MA.out.below b_
            replace HBa : Hid (Below _ _ _) := bstep HBa.out b_
            replace WK : Hid (WT _ _) := WK.out.below b_
            replace RU : Hid (RowU _ _ _) := RU.out.below b_
            have RR : Hid (RowN v51 gr C (fun _ => 0)) := n_
            clear n_ b_ h_
            refine wpAnyH_ready (rs := [7]) (by kernel_rfl) (by simp) ?_
            refine (AllReadyH.cons (o := ({ dst := some 12, op := Op.makeSlice _ (Operand.tmp 11) (Operand.tmp 11), type := _, pos := _, after := _, guard := none } : Oper)) rfl (fun K hK => ?_) AllReadyH.nil)
            · go_simp
              have b_ : Below v51.heap.size v51 (v51.alloc (.cells ON 3)) := bmore (Below.refl _ _) _
              refine hK.out _ _ ?_ (fun hHeld => ?_)
              · exact (MA.out.below b_).cells
              clear hK K
              (try simp only [Act.put, List.setIfInBounds_toArray, List.set_cons_zero, List.set_cons_succ])
              have n_ : RowN (v51.alloc (.cells ON 3)) v51.heap.size C (fun _ => 0) := HON.out v51 _ rfl
              obtain ⟨gc, h_⟩ : ∃ k, k = v51.heap.size := ⟨_, rfl⟩
              rw [← h_] at n_ ⊢
              have L_gc : Hid (W0.heap.size ≤ gc) := by have := HBa.out.size; have := h_; show _ ≤ _; omega
              have N_kSgc : Hid (kS ≠ gc) := by have := WK.out.1.2.2.2.2.2.2; have := h_; show _ ≠ _; omega
              have N_gmgc : Hid (gm ≠ gc) := by have := RU.out.lt; have := h_; show _ ≠ _; omega
              have N_grgc : Hid (gr ≠ gc) := by have := RR.out.lt; have := h_; show _ ≠ _; omega
              generalize (v51.alloc (.cells ON 3)) = v52 at n_ b_ hHeld ⊢
              replace MA : Hid (MBox _ _ _ _ _ _) := MA.out.below b_
              replace HBa : Hid (Below _ _ _) := bstep HBa.out b_
              replace WK : Hid (WT _ _) := WK.out.below b_
              replace RU : Hid (RowU _ _ _) := RU.out.below b_
              replace RR : Hid (RowN _ _ _ _) := RR.out.below b_
              have RC : Hid (RowN v52 gc C (fun _ => 0)) := n_
              clear n_ b_ h_
              refine wpAnyH_take (i := 8) (oi := ({ dst := some 13, op := Op.build _ #[(0, Operand.tmp 6), (1, Operand.tmp 9), (2, Operand.tmp 12)], type := _, pos := _, after := _, guard := none } : Oper)) (v := (.agg #[.int .i64 (C : Int), .int .i64 (C : Int), .int .i64 (C : Int), .slice (some ⟨gm, 0, none⟩) (C * C) (C * C), .slice (some ⟨gr, 0, none⟩) C C, .slice (some ⟨gc, 0, none⟩) C C])) rfl (by kernel_rfl) (by kernel_rfl) (by kernel_rfl) (fun _ _ _ h => h) (Or.inl ⟨by rfl, ?_⟩) (by assumption) ?_
              · intro w2 hSw; exact build_sys _ _ C gm gr gc _ _ _ _ rfl rfl rfl
              (try simp only [Act.put, List.setIfInBounds_toArray, List.set_cons_zero, List.set_cons_succ])
              obtain ⟨⟨z0, z1, z2, z3, z4, z5, z6⟩, zf⟩ := WK.out
              have y0 := zf 0
              have y1 := zf 1
              have y2 := zf 2
              have y3 := zf 3
              have y4 := zf 4
              have y5 := zf 5
              clear zf
              have NKA : kS ≠ ka := by have := L_kS.out; have := HKA.out; omega
              have BP : Bes (some kS) v52 ((((((v52.setCell ⟨kS, 0, none⟩ (.int .i64 (C : Int))).setCell ⟨kS, 1, none⟩ (.int .i64 (C : Int))).setCell ⟨kS, 2, none⟩ (.int .i64 (C : Int))).setCell ⟨kS, 3, none⟩ (.slice (some ⟨gm, 0, none⟩) (C * C) (C * C))).setCell ⟨kS, 4, none⟩ (.slice (some ⟨gr, 0, none⟩) C C)).setCell ⟨kS, 5, none⟩ (.slice (some ⟨gc, 0, none⟩) C C)) := (((((Bes.put v52 kS 0 _).set (p := ⟨kS, 1, none⟩) (.inr rfl) _).set (p := ⟨kS, 2, none⟩) (.inr rfl) _).set (p := ⟨kS, 3, none⟩) (.inr rfl) _).set (p := ⟨kS, 4, none⟩) (.inr rfl) _).set (p := ⟨kS, 5, none⟩) (.inr rfl) _
              have TB_ : TBox ((((((v52.setCell ⟨kS, 0, none⟩ (.int .i64 (C : Int))).setCell ⟨kS, 1, none⟩ (.int .i64 (C : Int))).setCell ⟨kS, 2, none⟩ (.int .i64 (C : Int))).setCell ⟨kS, 3, none⟩ (.slice (some ⟨gm, 0, none⟩) (C * C) (C * C))).setCell ⟨kS, 4, none⟩ (.slice (some ⟨gr, 0, none⟩) C C)).setCell ⟨kS, 5, none⟩ (.slice (some ⟨gc, 0, none⟩) C C)) kS (C : Int) (C : Int) (.slice (some ⟨gm, 0, none⟩) (C * C) (C * C)) (.slice (some ⟨gr, 0, none⟩) C C) (.slice (some ⟨gc, 0, none⟩) C C) := TBox.six _ _ _ _ _ _ _ (by rw [z0]; rfl) (by rw [z1]; rfl) (by rw [z2]; rfl) (by rw [z3]; rfl) (by rw [z4]; rfl) (by rw [z5]; rfl) z6
              refine wpAnyH_ready (rs := [10]) (by kernel_rfl) (by simp) ?_
              refine AllReadyH.cons (o := ({ dst := none, op := Op.store _ (Operand.tmp 3) (Operand.tmp 13), type := _, pos := _, after := _, guard := none } : Oper)) rfl (fun K hK => ?_) AllReadyH.nil
              rw [if_pos (by rfl)]
              refine store_sys _ C gm gr gc kS _ _ _ _ K _ rfl rfl (by rw [z0]; rfl) (by rw [z1]; rfl) (by rw [z2]; rfl) (by rw [z3]; rfl) (by rw [z4]; rfl) (by rw [z5]; rfl) y0 y1 y2 y3 y4 y5 ?_
              refine hK.out _ _ ?_ (fun hHeld => ?_)
              · exact (MA.out.bes BP (ne_some NKA)).cells
              clear hK K hHeld
              (try simp only [Act.put, List.setIfInBounds_toArray, List.set_cons_zero, List.set_cons_succ])
              refine wpAnyH_done (by kernel_rfl) ?_ _
              refine NoPanic.normal ?_
              clear z0 z1 z2 z3 z4 z5 z6 y0 y1 y2 y3 y4 y5
              go_wp2
              go_meet
              exact ⟨kS, gm, gr, gc, xs, rfl, rfl, rfl, ⟨N_kSgm.out, N_kSgr.out, N_kSgc.out, N_gmgr.out, N_gmgc.out, N_grgc.out, L_gm.out, L_gr.out, L_gc.out, L_kS.out⟩, TB_, RU.out.bes BP (ne_some N_kSgm.out), HC_, RR.out.bes BP (ne_some N_kSgr.out), RC.out.bes BP (ne_some N_kSgc.out), HBa.out.trans (BP.below _ HBa.out.size (fun k e => by injection e with e; have := L_kS.out; omega))⟩
          · go_simp
            have b_ : Below v50.heap.size v50 (v50.alloc (.cells ON 3)) := bmore (Below.refl _ _) _
            refine hK.out _ _ ?_ (fun hHeld => ?_)
            · exact (MA.out.below b_).cells
            clear hK K
            (try simp only [Act.put, List.setIfInBounds_toArray, List.set_cons_zero, List.set_cons_succ])
            have n_ : RowN (v50.alloc (.cells ON 3)) v50.heap.size C (fun _ => 0) := HON.out v50 _ rfl
            obtain ⟨gc, h_⟩ : ∃ k, k = v50.heap.size := ⟨_, rfl⟩
            rw [← h_] at n_ ⊢
            have L_gc : Hid (W0.heap.size ≤ gc) := by have := HBa.out.size; have := h_; show _ ≤ _; omega
            have N_kSgc : Hid (kS ≠ gc) := by have := WK.out.1.2.2.2.2.2.2; have := h_; show _ ≠ _; omega
            have N_gmgc : Hid (gm ≠ gc) := by have := RU.out.lt; have := h_; show _ ≠ _; omega
            generalize (v50.alloc (.cells ON 3)) = v53 at n_ b_ hHeld ⊢
            replace MA : Hid (MBox _ _ _ _ _ _) := MA.out.below b_
            replace HBa : Hid (Below _ _ _) := bstep HBa.out b_
            replace WK : Hid (WT _ _) := WK.out.below b_
            replace RU : Hid (RowU _ _ _) := RU.out.below b_
            have RC : Hid (RowN v53 gc C (fun _ => 0)) := n_
            clear n_ b_ h_
            refine wpAnyH_ready (rs := [4]) (by kernel_rfl) (by simp) ?_
            refine (AllReadyH.cons (o := ({ dst := some 9, op := Op.makeSlice _ (Operand.tmp 8) (Operand.tmp 8), type := _, pos := _, after := _, guard := none } : Oper)) rfl (fun K hK => ?_) AllReadyH.nil)
            · go_simp
              have b_ : Below v53.heap.size v53 (v53.alloc (.cells ON 3)) := bmore (Below.refl _ _) _
              refine hK.out _ _ ?_ (fun hHeld => ?_)
              · exact (MA.out.below b_).cells
              clear hK K
              (try simp only [Act.put, List.setIfInBounds_toArray, List.set_cons_zero, List.set_cons_succ])
              have n_ : RowN (v53.alloc (.cells ON 3)) v53.heap.size C (fun _ => 0) := HON.out v53 _ rfl
              obtain ⟨gr, h_⟩ : ∃ k, k = v53.heap.size := ⟨_, rfl⟩
              rw [← h_] at n_ ⊢
              have L_gr : Hid (W0.heap.size ≤ gr) := by have := HBa.out.size; have := h_; show _ ≤ _; omega
              have N_kSgr : Hid (kS ≠ gr) := by have := WK.out.1.2.2.2.2.2.2; have := h_; show _ ≠ _; omega
              have N_gmgr : Hid (gm ≠ gr) := by have := RU.out.lt; have := h_; show _ ≠ _; omega
              have N_gcgr : Hid (gc ≠ gr) := by have := RC.out.lt; have := h_; show _ ≠ _; omega
              generalize (v53.alloc (.cells ON 3)) = v54 at n_ b_ hHeld ⊢
              replace MA : Hid (MBox _ _ _ _ _ _) := MA.out.below b_
              replace HBa : Hid (Below _ _ _) := bstep HBa.out b_
              replace WK : Hid (WT _ _) := WK.out.below b_
              replace RU : Hid (RowU _ _ _) := RU.out.below b_
              replace RC : Hid (RowN _ _ _ _) := RC.out.below b_
              have RR : Hid (RowN v54 gr C (fun _ => 0)) := n_
              clear n_ b_ h_
              refine wpAnyH_take (i := 8) (oi := ({ dst := some 13, op := Op.build _ #[(0, Operand.tmp 6), (1, Operand.tmp 9), (2, Operand.tmp 12)], type := _, pos := _, after := _, guard := none } : Oper)) (v := (.agg #[.int .i64 (C : Int), .int .i64 (C : Int), .int .i64 (C : Int), .slice (some ⟨gm, 0, none⟩) (C * C) (C * C), .slice (some ⟨gr, 0, none⟩) C C, .slice (some ⟨gc, 0, none⟩) C C])) rfl (by kernel_rfl) (by kernel_rfl) (by kernel_rfl) (fun _ _ _ h => h) (Or.inl ⟨by rfl, ?_⟩) (by assumption) ?_
              · intro w2 hSw; exact build_sys _ _ C gm gr gc _ _ _ _ rfl rfl rfl
              (try simp only [Act.put, List.setIfInBounds_toArray, List.set_cons_zero, List.set_cons_succ])
              obtain ⟨⟨z0, z1, z2, z3, z4, z5, z6⟩, zf⟩ := WK.out
              have y0 := zf 0
              have y1 := zf 1
              have y2 := zf 2
              have y3 := zf 3
              have y4 := zf 4
              have y5 := zf 5
              clear zf
              have NKA : kS ≠ ka := by have := L_kS.out; have := HKA.out; omega
              have BP : Bes (some kS) v54 ((((((v54.setCell ⟨kS, 0, none⟩ (.int .i64 (C : Int))).setCell ⟨kS, 1, none⟩ (.int .i64 (C : Int))).setCell ⟨kS, 2, none⟩ (.int .i64 (C : Int))).setCell ⟨kS, 3, none⟩ (.slice (some ⟨gm, 0, none⟩) (C * C) (C * C))).setCell ⟨kS, 4, none⟩ (.slice (some ⟨gr, 0, none⟩) C C)).setCell ⟨kS, 5, none⟩ (.slice (some ⟨gc, 0, none⟩) C C)) := (((((Bes.put v54 kS 0 _).set (p := ⟨kS, 1, none⟩) (.inr rfl) _).set (p := ⟨kS, 2, none⟩) (.inr rfl) _).set (p := ⟨kS, 3, none⟩) (.inr rfl) _).set (p := ⟨kS, 4, none⟩) (.inr rfl) _).set (p := ⟨kS, 5, none⟩) (.inr rfl) _
              have TB_ : TBox ((((((v54.setCell ⟨kS, 0, none⟩ (.int .i64 (C : Int))).setCell ⟨kS, 1, none⟩ (.int .i64 (C : Int))).setCell ⟨kS, 2, none⟩ (.int .i64 (C : Int))).setCell ⟨kS, 3, none⟩ (.slice (some ⟨gm, 0, none⟩) (C * C) (C * C))).setCell ⟨kS, 4, none⟩ (.slice (some ⟨gr, 0, none⟩) C C)).setCell ⟨kS, 5, none⟩ (.slice (some ⟨gc, 0, none⟩) C C)) kS (C : Int) (C : Int) (.slice (some ⟨gm, 0, none⟩) (C * C) (C * C)) (.slice (some ⟨gr, 0, none⟩) C C) (.slice (some ⟨gc, 0, none⟩) C C) := TBox.six _ _ _ _ _ _ _ (by rw [z0]; rfl) (by rw [z1]; rfl) (by rw [z2]; rfl) (by rw [z3]; rfl) (by rw [z4]; rfl) (by rw [z5]; rfl) z6
              refine wpAnyH_ready (rs := [10]) (by kernel_rfl) (by simp) ?_
              refine AllReadyH.cons (o := ({ dst := none, op := Op.store _ (Operand.tmp 3) (Operand.tmp 13), type := _, pos := _, after := _, guard := none } : Oper)) rfl (fun K hK => ?_) AllReadyH.nil
              rw [if_pos (by rfl)]
              refine store_sys _ C gm gr gc kS _ _ _ _ K _ rfl rfl (by rw [z0]; rfl) (by rw [z1]; rfl) (by rw [z2]; rfl) (by rw [z3]; rfl) (by rw [z4]; rfl) (by rw [z5]; rfl) y0 y1 y2 y3 y4 y5 ?_
              refine hK.out _ _ ?_ (fun hHeld => ?_)
              · exact (MA.out.bes BP (ne_some NKA)).cells
              clear hK K hHeld
              (try simp only [Act.put, List.setIfInBounds_toArray, List.set_cons_zero, List.set_cons_succ])
              refine wpAnyH_done (by kernel_rfl) ?_ _
              refine NoPanic.normal ?_
              clear z0 z1 z2 z3 z4 z5 z6 y0 y1 y2 y3 y4 y5
              go_wp2
              go_meet
              exact ⟨kS, gm, gr, gc, xs, rfl, rfl, rfl, ⟨N_kSgm.out, N_kSgr.out, N_kSgc.out, N_gmgr.out, N_gmgc.out, (Ne.symm N_gcgr.out), L_gm.out, L_gr.out, L_gc.out, L_kS.out⟩, TB_, RU.out.bes BP (ne_some N_kSgm.out), HC_, RR.out.bes BP (ne_some N_kSgr.out), RC.out.bes BP (ne_some N_kSgc.out), HBa.out.trans (BP.below _ HBa.out.size (fun k e => by injection e with e; have := L_kS.out; omega))⟩
        · go_simp
          have b_ : Below v49.heap.size v49 (v49.alloc (.cells ON 3)) := bmore (Below.refl _ _) _
          refine hK.out _ _ ?_ (fun hHeld => ?_)
          · exact (MA.out.below b_).cells
          clear hK K
          (try simp only [Act.put, List.setIfInBounds_toArray, List.set_cons_zero, List.set_cons_succ])
          have n_ : RowN (v49.alloc (.cells ON 3)) v49.heap.size C (fun _ => 0) := HON.out v49 _ rfl
          obtain ⟨gr, h_⟩ : ∃ k, k = v49.heap.size := ⟨_, rfl⟩
          rw [← h_] at n_ ⊢
          have L_gr : Hid (W0.heap.size ≤ gr) := by have := HBa.out.size; have := h_; show _ ≤ _; omega
          have N_kSgr : Hid (kS ≠ gr) := by have := WK.out.1.2.2.2.2.2.2; have := h_; show _ ≠ _; omega
          generalize (v49.alloc (.cells ON 3)) = v55 at n_ b_ hHeld ⊢
          replace MA : Hid (MBox _ _ _ _ _ _) := MA.out.below b_
          replace HBa : Hid (Below _ _ _) := bstep HBa.out b_
          replace WK : Hid (WT _ _) := WK.out.below b_
          have RR : Hid (RowN v55 gr C (fun _ => 0)) := n_
          clear n_ b_ h_
          refine wpAnyH_ready (rs := [1, 7]) (by kernel_rfl) (by simp) ?_
          refine (AllReadyH.cons (o := ({ dst := some 6, op := Op.call { callee := Callee.value (Operand.func _), args := #[Operand.tmp 5], argTypes := _ }, type := _, pos := _, after := _, guard := none } : Oper)) rfl (fun K hK => ?_) (AllReadyH.cons (o := ({ dst := some 12, op := Op.makeSlice _ (Operand.tmp 11) (Operand.tmp 11), type := _, pos := _, after := _, guard := none } : Oper)) rfl (fun K hK => ?_) AllReadyH.nil))
          · go_simp
            go_at_call 21
            refine (mClone C C S a len cap Z _ HH.out ((UZ.out.below BW.out).below HBa.out) hsq).mono ?_
            rintro e v56 ⟨gm, xs, rfl, hg_, hR_, hC_, hb_⟩
            (try go_wp2_with fail)
            have L_gm : Hid (W0.heap.size ≤ gm) := by have := HBa.out.size; have := hg_; show _ ≤ _; omega
            have N_kSgm : Hid (kS ≠ gm) := by have := WK.out.1.2.2.2.2.2.2; have := hg_; show _ ≠ _; omega
            have N_grgm : Hid (gr ≠ gm) := by have := RR.out.lt; have := hg_; show _ ≠ _; omega
            replace MA : Hid (MBox _ _ _ _ _ _) := MA.out.below hb_
            replace HBa : Hid (Below _ _ _) := bstep HBa.out hb_
            replace WK : Hid (WT _ _) := WK.out.below hb_
            replace RR : Hid (RowN _ _ _ _) := RR.out.below hb_
            have RU : Hid (RowU v56 gm xs) := hR_
            have HC_ : Hid (CutI xs Z S 0 0 C C C) := hC_
            refine hK.out _ _ ?_ (fun hHeld => ?_)
            · exact MA.out.cells
            clear hK K hb_ hg_ hR_ hC_
            (try simp only [Act.put, List.setIfInBounds_toArray, List.set_cons_zero, List.set_cons_succ])
            refine wpAnyH_ready (rs := [7]) (by kernel_rfl) (by simp) ?_
            refine (AllReadyH.cons (o := ({ dst := some 12, op := Op.makeSlice _ (Operand.tmp 11) (Operand.tmp 11), type := _, pos := _, after := _, guard := none } : Oper)) rfl (fun K hK => ?_) AllReadyH.nil)
            · go_simp
              have b_ : Below v56.heap.size v56 (v56.alloc (.cells ON 3)) := bmore (Below.refl _ _) _
              refine hK.out _ _ ?_ (fun hHeld => ?_)
              · exact (MA.out.below b_).cells
              clear hK K
              (try simp only [Act.put, List.setIfInBounds_toArray, List.set_cons_zero, List.set_cons_succ])
              have n_ : RowN (v56.alloc (.cells ON 3)) v56.heap.size C (fun _ => 0) := HON.out v56 _ rfl
              obtain ⟨gc, h_⟩ : ∃ k, k = v56.heap.size := ⟨_, rfl⟩
              rw [← h_] at n_ ⊢
              have L_gc : Hid (W0.heap.size ≤ gc) := by have := HBa.out.size; have := h_; show _ ≤ _; omega
              have N_kSgc : Hid (kS ≠ gc) := by have := WK.out.1.2.2.2.2.2.2; have := h_; show _ ≠ _; omega
              have N_grgc : Hid (gr ≠ gc) := by have := RR.out.lt; have := h_; show _ ≠ _; omega
              have N_gmgc : Hid (gm ≠ gc) := by have := RU.out.lt; have := h_; show _ ≠ _; omega
              generalize (v56.alloc (.cells ON 3)) = v57 at n_ b_ hHeld ⊢
              replace MA : Hid (MBox _ _ _ _ _ _) := MA.out.below b_
              replace HBa : Hid (Below _ _ _) := bstep HBa.out b_
              replace WK : Hid (WT _ _) := WK.out.below b_
              replace RR : Hid (RowN _ _ _ _) := RR.out.below b_
              replace RU : Hid (RowU _ _ _) := RU.out.below b_
              have RC : Hid (RowN v57 gc C (fun _ => 0)) := n_
              clear n_ b_ h_
              refine wpAnyH_take (i := 8) (oi := ({ dst := some 13, op := Op.build _ #[(0, Operand.tmp 6), (1, Operand.tmp 9), (2, Operand.tmp 12)], type := _, pos := _, after := _, guard := none } : Oper)) (v := (.agg #[.int .i64 (C : Int), .int .i64 (C : Int), .int .i64 (C : Int), .slice (some ⟨gm, 0, none⟩) (C * C) (C * C), .slice (some ⟨gr, 0, none⟩) C C, .slice (some ⟨gc, 0, none⟩) C C])) rfl (by kernel_rfl) (by kernel_rfl) (by kernel_rfl) (fun _ _ _ h => h) (Or.inl ⟨by rfl, ?_⟩) (by assumption) ?_
              · intro w2 hSw; exact build_sys _ _ C gm gr gc _ _ _ _ rfl rfl rfl
              (try simp only [Act.put, List.setIfInBounds_toArray, List.set_cons_zero, List.set_cons_succ])
              obtain ⟨⟨z0, z1, z2, z3, z4, z5, z6⟩, zf⟩ := WK.out
              have y0 := zf 0
              have y1 := zf 1
              have y2 := zf 2
              have y3 := zf 3
              have y4 := zf 4
              have y5 := zf 5
              clear zf
              have NKA : kS ≠ ka := by have := L_kS.out; have := HKA.out; omega
              have BP : Bes (some kS) v57 ((((((v57.setCell ⟨kS, 0, none⟩ (.int .i64 (C : Int))).setCell ⟨kS, 1, none⟩ (.int .i64 (C : Int))).setCell ⟨kS, 2, none⟩ (.int .i64 (C : Int))).setCell ⟨kS, 3, none⟩ (.slice (some ⟨gm, 0, none⟩) (C * C) (C * C))).setCell ⟨kS, 4, none⟩ (.slice (some ⟨gr, 0, none⟩) C C)).setCell ⟨kS, 5, none⟩ (.slice (some ⟨gc, 0, none⟩) C C)) := (((((Bes.put v57 kS 0 _).set (p := ⟨kS, 1, none⟩) (.inr rfl) _).set (p := ⟨kS, 2, none⟩) (.inr rfl) _).set (p := ⟨kS, 3, none⟩) (.inr rfl) _).set (p := ⟨kS, 4, none⟩) (.inr rfl) _).set (p := ⟨kS, 5, none⟩) (.inr rfl) _
              have TB_ : TBox ((((((v57.setCell ⟨kS, 0, none⟩ (.int .i64 (C : Int))).setCell ⟨kS, 1, none⟩ (.int .i64 (C : Int))).setCell ⟨kS, 2, none⟩ (.int .i64 (C : Int))).setCell ⟨kS, 3, none⟩ (.slice (some ⟨gm, 0, none⟩) (C * C) (C * C))).setCell ⟨kS, 4, none⟩ (.slice (some ⟨gr, 0, none⟩) C C)).setCell ⟨kS, 5, none⟩ (.slice (some ⟨gc, 0, none⟩) C C)) kS (C : Int) (C : Int) (.slice (some ⟨gm, 0, none⟩) (C * C) (C * C)) (.slice (some ⟨gr, 0, none⟩) C C) (.slice (some ⟨gc, 0, none⟩) C C) := TBox.six _ _ _ _ _ _ _ (by rw [z0]; rfl) (by rw [z1]; rfl) (by rw [z2]; rfl) (by rw [z3]; rfl) (by rw [z4]; rfl) (by rw [z5]; rfl) z6
              refine wpAnyH_ready (rs := [10]) (by kernel_rfl) (by simp) ?_
              refine AllReadyH.cons (o := ({ dst := none, op := Op.store _ (Operand.tmp 3) (Operand.tmp 13), type := _, pos := _, after := _, guard := none } : Oper)) rfl (fun K hK => ?_) AllReadyH.nil
              rw [if_pos (by rfl)]
              refine store_sys _ C gm gr gc kS _ _ _ _ K _ rfl rfl (by rw [z0]; rfl) (by rw [z1]; rfl) (by rw [z2]; rfl) (by rw [z3]; rfl) (by rw [z4]; rfl) (by rw [z5]; rfl) y0 y1 y2 y3 y4 y5 ?_
              refine hK.out _ _ ?_ (fun hHeld => ?_)
              · exact (MA.out.bes BP (ne_some NKA)).cells
              clear hK K hHeld
              (try simp only [Act.put, List.setIfInBounds_toArray, List.set_cons_zero, List.set_cons_succ])
              refine wpAnyH_done (by kernel_rfl) ?_ _
              refine NoPanic.normal ?_
              clear z0 z1 z2 z3 z4 z5 z6 y0 y1 y2 y3 y4 y5
              go_wp2
              go_meet
              exact ⟨kS, gm, gr, gc, xs, rfl, rfl, rfl, ⟨N_kSgm.out, N_kSgr.out, N_kSgc.out, (Ne.symm N_grgm.out), N_gmgc.out, N_grgc.out, L_gm.out, L_gr.out, L_gc.out, L_kS.out⟩, TB_, RU.out.bes BP (ne_some N_kSgm.out), HC_, RR.out.bes BP (ne_some N_kSgr.out), RC.out.bes BP (ne_some N_kSgc.out), HBa.out.trans (BP.below _ HBa.out.size (fun k e => by injection e with e; have := L_kS.out; omega))⟩
          · go_simp
            have b_ : Below v55.heap.size v55 (v55.alloc (.cells ON 3)) := bmore (Below.refl _ _) _
            refine hK.out _ _ ?_ (fun hHeld => ?_)
            · exact (MA.out.below b_).cells
            clear hK K
            (try simp only [Act.put, List.setIfInBounds_toArray, List.set_cons_zero, List.set_cons_succ])
            have n_ : RowN (v55.alloc (.cells ON 3)) v55.heap.size C (fun _ => 0) := HON.out v55 _ rfl
            obtain ⟨gc, h_⟩ : ∃ k, k = v55.heap.size := ⟨_, rfl⟩
            rw [← h_] at n_ ⊢
            have L_gc : Hid (W0.heap.size ≤ gc) := by have := HBa.out.size; have := h_; show _ ≤ _; omega
            have N_kSgc : Hid (kS ≠ gc) := by have := WK.out.1.2.2.2.2.2.2; have := h_; show _ ≠ _; omega
            have N_grgc : Hid (gr ≠ gc) := by have := RR.out.lt; have := h_; show _ ≠ _; omega
            generalize (v55.alloc (.cells ON 3)) = v58 at n_ b_ hHeld ⊢
            replace MA : Hid (MBox _ _ _ _ _ _) := MA.out.below b_
            replace HBa : Hid (Below _ _ _) := bstep HBa.out b_
            replace WK : Hid (WT _ _) := WK.out.below b_
            replace RR : Hid (RowN _ _ _ _) := RR.out.below b_
            have RC : Hid (RowN v58 gc C (fun _ => 0)) := n_
            clear n_ b_ h_
            refine wpAnyH_ready (rs := [1]) (by kernel_rfl) (by simp) ?_
            refine (AllReadyH.cons (o := ({ dst := some 6, op := Op.call { callee := Callee.value (Operand.func _), args := #[Operand.tmp 5], argTypes := _ }, type := _, pos := _, after := _, guard := none } : Oper)) rfl (fun K hK => ?_) AllReadyH.nil)
            · go_simp
              go_at_call 21
              refine (mClone C C S a len cap Z _ HH.out ((UZ.out.below BW.out).below HBa.out) hsq).mono ?_
              rintro e v59 ⟨gm, xs, rfl, hg_, hR_, hC_, hb_⟩
              (try go_wp2_with fail)
              have L_gm : Hid (W0.heap.size ≤ gm) := by have := HBa.out.size; have := hg_; show _ ≤ _; omega
              have N_kSgm : Hid (kS ≠ gm) := by have := WK.out.1.2.2.2.2.2.2; have := hg_; show _ ≠ _; omega
              have N_grgm : Hid (gr ≠ gm) := by have := RR.out.lt; have := hg_; show _ ≠ _; omega
              have N_gcgm : Hid (gc ≠ gm) := by have := RC.out.lt; have := hg_; show _ ≠ _; omega
              replace MA : Hid (MBox _ _ _ _ _ _) := MA.out.below hb_
              replace HBa : Hid (Below _ _ _) := bstep HBa.out hb_
              replace WK : Hid (WT _ _) := WK.out.below hb_
              replace RR : Hid (RowN _ _ _ _) := RR.out.below hb_
              replace RC : Hid (RowN _ _ _ _) := RC.out.below hb_
              have RU : Hid (RowU v59 gm xs) := hR_
              have HC_ : Hid (CutI xs Z S 0 0 C C C) := hC_
              refine hK.out _ _ ?_ (fun hHeld => ?_)
              · exact MA.out.cells
              clear hK K hb_ hg_ hR_ hC_
              (try simp only [Act.put, List.setIfInBounds_toArray, List.set_cons_zero, List.set_cons_succ])
              refine wpAnyH_take (i := 8) (oi := ({ dst := some 13, op := Op.build _ #[(0, Operand.tmp 6), (1, Operand.tmp 9), (2, Operand.tmp 12)], type := _, pos := _, after := _, guard := none } : Oper)) (v := (.agg #[.int .i64 (C : Int), .int .i64 (C : Int), .int .i64 (C : Int), .slice (some ⟨gm, 0, none⟩) (C * C) (C * C), .slice (some ⟨gr, 0, none⟩) C C, .slice (some ⟨gc, 0, none⟩) C C])) rfl (by kernel_rfl) (by kernel_rfl) (by kernel_rfl) (fun _ _ _ h => h) (Or.inl ⟨by rfl, ?_⟩) (by assumption) ?_
              · intro w2 hSw; exact build_sys _ _ C gm gr gc _ _ _ _ rfl rfl rfl
              (try simp only [Act.put, List.setIfInBounds_toArray, List.set_cons_zero, List.set_cons_succ])
              obtain ⟨⟨z0, z1, z2, z3, z4, z5, z6⟩, zf⟩ := WK.out
              have y0 := zf 0
              have y1 := zf 1
              have y2 := zf 2
              have y3 := zf 3
              have y4 := zf 4
              have y5 := zf 5
              clear zf
              have NKA : kS ≠ ka := by have := L_kS.out; have := HKA.out; omega
              have BP : Bes (some kS) v59 ((((((v59.setCell ⟨kS, 0, none⟩ (.int .i64 (C : Int))).setCell ⟨kS, 1, none⟩ (.int .i64 (C : Int))).setCell ⟨kS, 2, none⟩ (.int .i64 (C : Int))).setCell ⟨kS, 3, none⟩ (.slice (some ⟨gm, 0, none⟩) (C * C) (C * C))).setCell ⟨kS, 4, none⟩ (.slice (some ⟨gr, 0, none⟩) C C)).setCell ⟨kS, 5, none⟩ (.slice (some ⟨gc, 0, none⟩) C C)) := (((((Bes.put v59 kS 0 _).set (p := ⟨kS, 1, none⟩) (.inr rfl) _).set (p := ⟨kS, 2, none⟩) (.inr rfl) _).set (p := ⟨kS, 3, none⟩) (.inr rfl) _).set (p := ⟨kS, 4, none⟩) (.inr rfl) _).set (p := ⟨kS, 5, none⟩) (.inr rfl) _
              have TB_ : TBox ((((((v59.setCell ⟨kS, 0, none⟩ (.int .i64 (C : Int))).setCell ⟨kS, 1, none⟩ (.int .i64 (C : Int))).setCell ⟨kS, 2, none⟩ (.int .i64 (C : Int))).setCell ⟨kS, 3, none⟩ (.slice (some ⟨gm, 0, none⟩) (C * C) (C * C))).setCell ⟨kS, 4, none⟩ (.slice (some ⟨gr, 0, none⟩) C C)).setCell ⟨kS, 5, none⟩ (.slice (some ⟨gc, 0, none⟩) C C)) kS (C : Int) (C : Int) (.slice (some ⟨gm, 0, none⟩) (C * C) (C * C)) (.slice (some ⟨gr, 0, none⟩) C C) (.slice (some ⟨gc, 0, none⟩) C C) := TBox.six _ _ _ _ _ _ _ (by rw [z0]; rfl) (by rw [z1]; rfl) (by rw [z2]; rfl) (by rw [z3]; rfl) (by rw [z4]; rfl) (by rw [z5]; rfl) z6
              refine wpAnyH_ready (rs := [10]) (by kernel_rfl) (by simp) ?_
              refine AllReadyH.cons (o := ({ dst := none, op := Op.store _ (Operand.tmp 3) (Operand.tmp 13), type := _, pos := _, after := _, guard := none } : Oper)) rfl (fun K hK => ?_) AllReadyH.nil
              rw [if_pos (by rfl)]
              refine store_sys _ C gm gr gc kS _ _ _ _ K _ rfl rfl (by rw [z0]; rfl) (by rw [z1]; rfl) (by rw [z2]; rfl) (by rw [z3]; rfl) (by rw [z4]; rfl) (by rw [z5]; rfl) y0 y1 y2 y3 y4 y5 ?_
              refine hK.out _ _ ?_ (fun hHeld => ?_)
              · exact (MA.out.bes BP (ne_some NKA)).cells
              clear hK K hHeld
              (try simp only [Act.put, List.setIfInBounds_toArray, List.set_cons_zero, List.set_cons_succ])
              refine wpAnyH_done (by kernel_rfl) ?_ _
              refine NoPanic.normal ?_
              clear z0 z1 z2 z3 z4 z5 z6 y0 y1 y2 y3 y4 y5
              go_wp2
              go_meet
              exact ⟨kS, gm, gr, gc, xs, rfl, rfl, rfl, ⟨N_kSgm.out, N_kSgr.out, N_kSgc.out, (Ne.symm N_grgm.out), (Ne.symm N_gcgm.out), N_grgc.out, L_gm.out, L_gr.out, L_gc.out, L_kS.out⟩, TB_, RU.out.bes BP (ne_some N_kSgm.out), HC_, RR.out.bes BP (ne_some N_kSgr.out), RC.out.bes BP (ne_some N_kSgc.out), HBa.out.trans (BP.below _ HBa.out.size (fun k e => by injection e with e; have := L_kS.out; omega))⟩
        · go_simp
          have b_ : Below v49.heap.size v49 (v49.alloc (.cells ON 3)) := bmore (Below.refl _ _) _
          refine hK.out _ _ ?_ (fun hHeld => ?_)
          · exact (MA.out.below b_).cells
          clear hK K
          (try simp only [Act.put, List.setIfInBounds_toArray, List.set_cons_zero, List.set_cons_succ])
          have n_ : RowN (v49.alloc (.cells ON 3)) v49.heap.size C (fun _ => 0) := HON.out v49 _ rfl
          obtain ⟨gc, h_⟩ : ∃ k, k = v49.heap.size := ⟨_, rfl⟩
          rw [← h_] at n_ ⊢
          have L_gc : Hid (W0.heap.size ≤ gc) := by have := HBa.out.size; have := h_; show _ ≤ _; omega
          have N_kSgc : Hid (kS ≠ gc) := by have := WK.out.1.2.2.2.2.2.2; have := h_; show _ ≠ _; omega
          generalize (v49.alloc (.cells ON 3)) = v60 at n_ b_ hHeld ⊢
          replace MA : Hid (MBox _ _ _ _ _ _) := MA.out.below b_
          replace HBa : Hid (Below _ _ _) := bstep HBa.out b_
          replace WK : Hid (WT _ _) := WK.out.below b_
          have RC : Hid (RowN v60 gc C (fun _ => 0)) := n_
          clear n_ b_ h_
          refine wpAnyH_ready (rs := [1, 4]) (by kernel_rfl) (by simp) ?_
          refine (AllReadyH.cons (o := ({ dst := some 6, op := Op.call { callee := Callee.value (Operand.func _), args := #[Operand.tmp 5], argTypes := _ }, type := _, pos := _, after := _, guard := none } : Oper)) rfl (fun K hK => ?_) (AllReadyH.cons (o := ({ dst := some 9, op := Op.makeSlice _ (Operand.tmp 8) (Operand.tmp 8), type := _, pos := _, after := _, guard := none } : Oper)) rfl (fun K hK => ?_) AllReadyH.nil))
          · go_simp
            go_at_call 21
            refine (mClone C C S a len cap Z _ HH.out ((UZ.out.below BW.out).below HBa.out) hsq).mono ?_
            rintro e v61 ⟨gm, xs, rfl, hg_, hR_, hC_, hb_⟩
            (try go_wp2_with fail)
            have L_gm : Hid (W0.heap.size ≤ gm) := by have := HBa.out.size; have := hg_; show _ ≤ _; omega
            have N_kSgm : Hid (kS ≠ gm) := by have := WK.out.1.2.2.2.2.2.2; have := hg_; show _ ≠ _; omega
            have N_gcgm : Hid (gc ≠ gm) := by have := RC.out.lt; have := hg_; show _ ≠ _; omega
            replace MA : Hid (MBox _ _ _ _ _ _) := MA.out.below hb_
            replace HBa : Hid (Below _ _ _) := bstep HBa.out hb_
            replace WK : Hid (WT _ _) := WK.out.below hb_
            replace RC : Hid (RowN _ _ _ _) := RC.out.below hb_
            have RU : Hid (RowU v61 gm xs) := hR_
            have HC_ : Hid (CutI xs Z S 0 0 C C C) := hC_
            refine hK.out _ _ ?_ (fun hHeld => ?_)
            · exact MA.out.cells
            clear hK K hb_ hg_ hR_ hC_
            (try simp only [Act.put, List.setIfInBounds_toArray, List.set_cons_zero, List.set_cons_succ])
            refine wpAnyH_ready (rs := [4]) (by kernel_rfl) (by simp) ?_
            refine (AllReadyH.cons (o := ({ dst := some 9, op := Op.makeSlice _ (Operand.tmp 8) (Operand.tmp 8), type := _, pos := _, after := _, guard := none } : Oper)) rfl (fun K hK => ?_) AllReadyH.nil)
            · go_simp
              have b_ : Below v61.heap.size v61 (v61.alloc (.cells ON 3)) := bmore (Below.refl _ _) _
              refine hK.out _ _ ?_ (fun hHeld => ?_)
              · exact (MA.out.below b_).cells
              clear hK K
              (try simp only [Act.put, List.setIfInBounds_toArray, List.set_cons_zero, List.set_cons_succ])
              have n_ : RowN (v61.alloc (.cells ON 3)) v61.heap.size C (fun _ => 0) := HON.out v61 _ rfl
              obtain ⟨gr, h_⟩ : ∃ k, k = v61.heap.size := ⟨_, rfl⟩
              rw [← h_] at n_ ⊢
              have L_gr : Hid (W0.heap.size ≤ gr) := by have := HBa.out.size; have := h_; show _ ≤ _; omega
              have N_kSgr : Hid (kS ≠ gr) := by have := WK.out.1.2.2.2.2.2.2; have := h_; show _ ≠ _; omega
              have N_gcgr : Hid (gc ≠ gr) := by have := RC.out.lt; have := h_; show _ ≠ _; omega
              have N_gmgr : Hid (gm ≠ gr) := by have := RU.out.lt; have := h_; show _ ≠ _; omega
              generalize (v61.alloc (.cells ON 3)) = v62 at n_ b_ hHeld ⊢
              replace MA : Hid (MBox _ _ _ _ _ _) := MA.out.below b_
              replace HBa : Hid (Below _ _ _) := bstep HBa.out b_
              replace WK : Hid (WT _ _) := WK.out.below b_
              replace RC : Hid (RowN _ _ _ _) := RC.out.below b_
              replace RU : Hid (RowU _ _ _) := RU.out.below b_
              have RR : Hid (RowN v62 gr C (fun _ => 0)) := n_
              clear n_ b_ h_
              refine wpAnyH_take (i := 8) (oi := ({ dst := some 13, op := Op.build _ #[(0, Operand.tmp 6), (1, Operand.tmp 9), (2, Operand.tmp 12)], type := _, pos := _, after := _, guard := none } : Oper)) (v := (.agg #[.int .i64 (C : Int), .int .i64 (C : Int), .int .i64 (C : Int), .slice (some ⟨gm, 0, none⟩) (C * C) (C * C), .slice (some ⟨gr, 0, none⟩) C C, .slice (some ⟨gc, 0, none⟩) C C])) rfl (by kernel_rfl) (by kernel_rfl) (by kernel_rfl) (fun _ _ _ h => h) (Or.inl ⟨by rfl, ?_⟩) (by assumption) ?_
              · intro w2 hSw; exact build_sys _ _ C gm gr gc _ _ _ _ rfl rfl rfl
              (try simp only [Act.put, List.setIfInBounds_toArray, List.set_cons_zero, List.set_cons_succ])
              obtain ⟨⟨z0, z1, z2, z3, z4, z5, z6⟩, zf⟩ := WK.out
              have y0 := zf 0
              have y1 := zf 1
              have y2 := zf 2
              have y3 := zf 3
              have y4 := zf 4
              have y5 := zf 5
              clear zf
              have NKA : kS ≠ ka := by have := L_kS.out; have := HKA.out; omega
              have BP : Bes (some kS) v62 ((((((v62.setCell ⟨kS, 0, none⟩ (.int .i64 (C : Int))).setCell ⟨kS, 1, none⟩ (.int .i64 (C : Int))).setCell ⟨kS, 2, none⟩ (.int .i64 (C : Int))).setCell ⟨kS, 3, none⟩ (.slice (some ⟨gm, 0, none⟩) (C * C) (C * C))).setCell ⟨kS, 4, none⟩ (.slice (some ⟨gr, 0, none⟩) C C)).setCell ⟨kS, 5, none⟩ (.slice (some ⟨gc, 0, none⟩) C C)) := (((((Bes.put v62 kS 0 _).set (p := ⟨kS, 1, none⟩) (.inr rfl) _).set (p := ⟨kS, 2, none⟩) (.inr rfl) _).set (p := ⟨kS, 3, none⟩) (.inr rfl) _).set (p := ⟨kS, 4, none⟩) (.inr rfl) _).set (p := ⟨kS, 5, none⟩) (.inr rfl) _
              have TB_ : TBox ((((((v62.setCell ⟨kS, 0, none⟩ (.int .i64 (C : Int))).setCell ⟨kS, 1, none⟩ (.int .i64 (C : Int))).setCell ⟨kS, 2, none⟩ (.int .i64 (C : Int))).setCell ⟨kS, 3, none⟩ (.slice (some ⟨gm, 0, none⟩) (C * C) (C * C))).setCell ⟨kS, 4, none⟩ (.slice (some ⟨gr, 0, none⟩) C C)).setCell ⟨kS, 5, none⟩ (.slice (some ⟨gc, 0, none⟩) C C)) kS (C : Int) (C : Int) (.slice (some ⟨gm, 0, none⟩) (C * C) (C * C)) (.slice (some ⟨gr, 0, none⟩) C C) (.slice (some ⟨gc, 0, none⟩) C C) := TBox.six _ _ _ _ _ _ _ (by rw [z0]; rfl) (by rw [z1]; rfl) (by rw [z2]; rfl) (by rw [z3]; rfl) (by rw [z4]; rfl) (by rw [z5]; rfl) z6
              refine wpAnyH_ready (rs := [10]) (by kernel_rfl) (by simp) ?_
              refine AllReadyH.cons (o := ({ dst := none, op := Op.store _ (Operand.tmp 3) (Operand.tmp 13), type := _, pos := _, after := _, guard := none } : Oper)) rfl (fun K hK => ?_) AllReadyH.nil
              rw [if_pos (by rfl)]
              refine store_sys _ C gm gr gc kS _ _ _ _ K _ rfl rfl (by rw [z0]; rfl) (by rw [z1]; rfl) (by rw [z2]; rfl) (by rw [z3]; rfl) (by rw [z4]; rfl) (by rw [z5]; rfl) y0 y1 y2 y3 y4 y5 ?_
              refine hK.out _ _ ?_ (fun hHeld => ?_)
              · exact (MA.out.bes BP (ne_some NKA)).cells
              clear hK K hHeld
              (try simp only [Act.put, List.setIfInBounds_toArray, List.set_cons_zero, List.set_cons_succ])
              refine wpAnyH_done (by kernel_rfl) ?_ _
              refine NoPanic.normal ?_
              clear z0 z1 z2 z3 z4 z5 z6 y0 y1 y2 y3 y4 y5
              go_wp2
              go_meet
              exact ⟨kS, gm, gr, gc, xs, rfl, rfl, rfl, ⟨N_kSgm.out, N_kSgr.out, N_kSgc.out, N_gmgr.out, (Ne.symm N_gcgm.out), (Ne.symm N_gcgr.out), L_gm.out, L_gr.out, L_gc.out, L_kS.out⟩, TB_, RU.out.bes BP (ne_some N_kSgm.out), HC_, RR.out.bes BP (ne_some N_kSgr.out), RC.out.bes BP (ne_some N_kSgc.out), HBa.out.trans (BP.below _ HBa.out.size (fun k e => by injection e with e; have := L_kS.out; omega))⟩
          · go_simp
            have b_ : Below v60.heap.size v60 (v60.alloc (.cells ON 3)) := bmore (Below.refl _ _) _
            refine hK.out _ _ ?_ (fun hHeld => ?_)
            · exact (MA.out.below b_).cells
            clear hK K
            (try simp only [Act.put, List.setIfInBounds_toArray, List.set_cons_zero, List.set_cons_succ])
            have n_ : RowN (v60.alloc (.cells ON 3)) v60.heap.size C (fun _ => 0) := HON.out v60 _ rfl
            obtain ⟨gr, h_⟩ : ∃ k, k = v60.heap.size := ⟨_, rfl⟩
            rw [← h_] at n_ ⊢
            have L_gr : Hid (W0.heap.size ≤ gr) := by have := HBa.out.size; have := h_; show _ ≤ _; omega
            have N_kSgr : Hid (kS ≠ gr) := by have := WK.out.1.2.2.2.2.2.2; have := h_; show _ ≠ _; omega
            have N_gcgr : Hid (gc ≠ gr) := by have := RC.out.lt; have := h_; show _ ≠ _; omega
            generalize (v60.alloc (.cells ON 3)) = v63 at n_ b_ hHeld ⊢
            replace MA : Hid (MBox _ _ _ _ _ _) := MA.out.below b_
            replace HBa : Hid (Below _ _ _) := bstep HBa.out b_
            replace WK : Hid (WT _ _) := WK.out.below b_
            replace RC : Hid (RowN _ _ _ _) := RC.out.below b_
            have RR : Hid (RowN v63 gr C (fun _ => 0)) := n_
            clear n_ b_ h_
            refine wpAnyH_ready (rs := [1]) (by kernel_rfl) (by simp) ?_
            refine (AllReadyH.cons (o := ({ dst := some 6, op := Op.call { callee := Callee.value (Operand.func _), args := #[Operand.tmp 5], argTypes := _ }, type := _, pos := _, after := _, guard := none } : Oper)) rfl (fun K hK => ?_) AllReadyH.nil)
            · go_simp
              go_at_call 21
              refine (mClone C C S a len cap Z _ HH.out ((UZ.out.below BW.out).below HBa.out) hsq).mono ?_
              rintro e v64 ⟨gm, xs, rfl, hg_, hR_, hC_, hb_⟩
              (try go_wp2_with fail)
              have L_gm : Hid (W0.heap.size ≤ gm) := by have := HBa.out.size; have := hg_; show _ ≤ _; omega
              have N_kSgm : Hid (kS ≠ gm) := by have := WK.out.1.2.2.2.2.2.2; have := hg_; show _ ≠ _; omega
              have N_gcgm : Hid (gc ≠ gm) := by have := RC.out.lt; have := hg_; show _ ≠ _; omega
              have N_grgm : Hid (gr ≠ gm) := by have := RR.out.lt; have := hg_; show _ ≠ _; omega
              replace MA : Hid (MBox _ _ _ _ _ _) := MA.out.below hb_
              replace HBa : Hid (Below _ _ _) := bstep HBa.out hb_
              replace WK : Hid (WT _ _) := WK.out.below hb_
              replace RC : Hid (RowN _ _ _ _) := RC.out.below hb_
              replace RR : Hid (RowN _ _ _ _) := RR.out.below hb_
              have RU : Hid (RowU v64 gm xs) := hR_
              have HC_ : Hid (CutI xs Z S 0 0 C C C) := hC_
              refine hK.out _ _ ?_ (fun hHeld => ?_)
              · exact MA.out.cells
              clear hK K hb_ hg_ hR_ hC_
              (try simp only [Act.put, List.setIfInBounds_toArray, List.set_cons_zero, List.set_cons_succ])
              refine wpAnyH_take (i := 8) (oi := ({ dst := some 13, op := Op.build _ #[(0, Operand.tmp 6), (1, Operand.tmp 9), (2, Operand.tmp 12)], type := _, pos := _, after := _, guard := none } : Oper)) (v := (.agg #[.int .i64 (C : Int), .int .i64 (C : Int), .int .i64 (C : Int), .slice (some ⟨gm, 0, none⟩) (C * C) (C * C), .slice (some ⟨gr, 0, none⟩) C C, .slice (some ⟨gc, 0, none⟩) C C])) rfl (by kernel_rfl) (by kernel_rfl) (by kernel_rfl) (fun _ _ _ h => h) (Or.inl ⟨by rfl, ?_⟩) (by assumption) ?_
              · intro w2 hSw; exact build_sys _ _ C gm gr gc _ _ _ _ rfl rfl rfl
              (try simp only [Act.put, List.setIfInBounds_toArray, List.set_cons_zero, List.set_cons_succ])
              obtain ⟨⟨z0, z1, z2, z3, z4, z5, z6⟩, zf⟩ := WK.out
              have y0 := zf 0
              have y1 := zf 1
              have y2 := zf 2
              have y3 := zf 3
              have y4 := zf 4
              have y5 := zf 5
              clear zf
              have NKA : kS ≠ ka := by have := L_kS.out; have := HKA.out; omega
              have BP : Bes (some kS) v64 ((((((v64.setCell ⟨kS, 0, none⟩ (.int .i64 (C : Int))).setCell ⟨kS, 1, none⟩ (.int .i64 (C : Int))).setCell ⟨kS, 2, none⟩ (.int .i64 (C : Int))).setCell ⟨kS, 3, none⟩ (.slice (some ⟨gm, 0, none⟩) (C * C) (C * C))).setCell ⟨kS, 4, none⟩ (.slice (some ⟨gr, 0, none⟩) C C)).setCell ⟨kS, 5, none⟩ (.slice (some ⟨gc, 0, none⟩) C C)) := (((((Bes.put v64 kS 0 _).set (p := ⟨kS, 1, none⟩) (.inr rfl) _).set (p := ⟨kS, 2, none⟩) (.inr rfl) _).set (p := ⟨kS, 3, none⟩) (.inr rfl) _).set (p := ⟨kS, 4, none⟩) (.inr rfl) _).set (p := ⟨kS, 5, none⟩) (.inr rfl) _
              have TB_ : TBox ((((((v64.setCell ⟨kS, 0, none⟩ (.int .i64 (C : Int))).setCell ⟨kS, 1, none⟩ (.int .i64 (C : Int))).setCell ⟨kS, 2, none⟩ (.int .i64 (C : Int))).setCell ⟨kS, 3, none⟩ (.slice (some ⟨gm, 0, none⟩) (C * C) (C * C))).setCell ⟨kS, 4, none⟩ (.slice (some ⟨gr, 0, none⟩) C C)).setCell ⟨kS, 5, none⟩ (.slice (some ⟨gc, 0, none⟩) C C)) kS (C : Int) (C : Int) (.slice (some ⟨gm, 0, none⟩) (C * C) (C * C)) (.slice (some ⟨gr, 0, none⟩) C C) (.slice (some ⟨gc, 0, none⟩) C C) := TBox.six _ _ _ _ _ _ _ (by rw [z0]; rfl) (by rw [z1]; rfl) (by rw [z2]; rfl) (by rw [z3]; rfl) (by rw [z4]; rfl) (by rw [z5]; rfl) z6
              refine wpAnyH_ready (rs := [10]) (by kernel_rfl) (by simp) ?_
              refine AllReadyH.cons (o := ({ dst := none, op := Op.store _ (Operand.tmp 3) (Operand.tmp 13), type := _, pos := _, after := _, guard := none } : Oper)) rfl (fun K hK => ?_) AllReadyH.nil
              rw [if_pos (by rfl)]
              refine store_sys _ C gm gr gc kS _ _ _ _ K _ rfl rfl (by rw [z0]; rfl) (by rw [z1]; rfl) (by rw [z2]; rfl) (by rw [z3]; rfl) (by rw [z4]; rfl) (by rw [z5]; rfl) y0 y1 y2 y3 y4 y5 ?_
              refine hK.out _ _ ?_ (fun hHeld => ?_)
              · exact (MA.out.bes BP (ne_some NKA)).cells
              clear hK K hHeld
              (try simp only [Act.put, List.setIfInBounds_toArray, List.set_cons_zero, List.set_cons_succ])
              refine wpAnyH_done (by kernel_rfl) ?_ _
              refine NoPanic.normal ?_
              clear z0 z1 z2 z3 z4 z5 z6 y0 y1 y2 y3 y4 y5
              go_wp2
              go_meet
              exact ⟨kS, gm, gr, gc, xs, rfl, rfl, rfl, ⟨N_kSgm.out, N_kSgr.out, N_kSgc.out, (Ne.symm N_grgm.out), (Ne.symm N_gcgm.out), (Ne.symm N_gcgr.out), L_gm.out, L_gr.out, L_gc.out, L_kS.out⟩, TB_, RU.out.bes BP (ne_some N_kSgm.out), HC_, RR.out.bes BP (ne_some N_kSgr.out), RC.out.bes BP (ne_some N_kSgc.out), HBa.out.trans (BP.below _ HBa.out.size (fun k e => by injection e with e; have := L_kS.out; omega))⟩
  case rest =>
    obtain ⟨kS, gm, gr, gc, xs, rfl, rfl, rfl, HD, MT, RU, HC, RR, RC, BX⟩ := hcut
    obtain ⟨d1, d2, d3, d4, d5, d6, d7, d8, d9, d10⟩ := HD.out
    have hW0 := BW.out.size
    have G : Hid (w.heap.size ≤ gm ∧ w.heap.size ≤ gr ∧ w.heap.size ≤ gc ∧ gm ≠ gr ∧ gm ≠ gc ∧ gr ≠ gc) := ⟨by omega, by omega, by omega, d4, d5, d6⟩
    have HK : Hid (b2 < W0.heap.size) := AW.out.1.2.2.2.2.2.2
    have NB : Hid (gm ≠ b2 ∧ gr ≠ b2 ∧ gc ≠ b2) := by
      have := HK.out
      refine ⟨?_, ?_, ?_⟩ <;> omega
    have NS : Hid (kS ≠ gm ∧ kS ≠ gr ∧ kS ≠ gc) := ⟨d1, d2, d3⟩
    obtain ⟨w1, rfl⟩ : ∃ x, x = wc := ⟨wc, rfl⟩
    replace MA : Hid (MBox _ _ _ _ _ _) := MA.out.below BX.out
    replace AW : Hid (WT _ _) := AW.out.below BX.out
    replace BW : Hid (Below _ _ _) := bstep BW.out BX.out
    have RR0 : Hid (RowN w1 gr C (fun k => if k < 0 then k else 0)) := RR.out.congr (fun k _ => by rw [if_neg (Nat.not_lt_zero k)])
    have RC0 : Hid (RowN w1 gc C (fun k => if k < 0 then k else 0)) := RC.out.congr (fun k _ => by rw [if_neg (Nat.not_lt_zero k)])
    obtain ⟨q0, q1, q2, q3, q4⟩ := MA.out
    clear d1 d2 d3 d4 d5 d6 d7 d8 d9 d10 hW0 HD RR RC BX HK
    go_wp2_with fail
    clear q0 q1 q2 q3 q4 MA
    go_loopw [16] (fun i wr => ∃ (n : Nat), i = .int .i64 (n : Int) ∧ n ≤ C ∧ Hid (TBox wr kS (C : Int) (C : Int) (.slice (some ⟨gm, 0, none⟩) (C * C) (C * C)) (.slice (some ⟨gr, 0, none⟩) C C) (.slice (some ⟨gc, 0, none⟩) C C)) ∧ Hid (RowU wr gm xs) ∧ Hid (RowN wr gr C (fun k => if k < n then k else 0)) ∧ Hid (RowN wr gc C (fun k => if k < n then k else 0)) ∧ Hid (WT wr b2) ∧ Hid (Below w.heap.size w wr)) (fun i _ => C - (intOf i).toNat)
    case atStart => exact ⟨0, rfl, Nat.zero_le _, MT, RU, RR0, RC0, AW, BW⟩
    case round =>
      clear MT RU RR0 RC0 AW BW
      obtain ⟨n, rfl, hn, MT, RU, RR, RC, AW, BW⟩ := hrel
      obtain ⟨w1, rfl⟩ : ∃ x, x = wr := ⟨wr, rfl⟩
      obtain ⟨s1, s2, s3⟩ := NS.out
      obtain ⟨t0, t1, t2, t3, t4, t5⟩ := MT.out.cells
      by_cases hlt : (n : Int) < (C : Int)
      · have hnC : n < C := by omega
        have hg := G.out.2.2.2.2.2
        have r1 := RR.out.cellE n hnC (show (if n < n then n else 0) = 0 from if_neg (Nat.lt_irrefl n))
        have f1 := RR.out.frozen n
        have RC1 : RowN (w1.setCell ⟨gr, n, none⟩ (.int .i64 (n : Int))) gc C (fun k => if k < n then k else 0) := RC.out.setK hg _
        have r2 := RC1.cellE n hnC (show (if n < n then n else 0) = 0 from if_neg (Nat.lt_irrefl n))
        have f2 := RC1.frozen n
        obtain ⟨u0, u1, u2, u3, u4, u5⟩ := (MT.out.bes (Bes.put w1 gr n (.int .i64 (n : Int))) (ne_some (Ne.symm s2))).cells
        have step : ∀ k, k < C → (if k < n + 1 then k else 0) = if k = n then n else if k < n then k else 0 := fun k _ => by
          by_cases e : k = n
          · rw [if_pos e, if_pos (by omega), e]
          · rw [if_neg e]
            by_cases e2 : k < n
            · rw [if_pos e2, if_pos (by omega)]
            · rw [if_neg e2, if_neg (by omega)]
        have R2 : RowN ((w1.setCell ⟨gr, n, none⟩ (.int .i64 (n : Int))).setCell ⟨gc, n, none⟩ (.int .i64 (n : Int))).drew gr C (fun k => if k < n + 1 then k else 0) := (RowN.setK (RR.out.put n n step) (Ne.symm hg) _).drewK
        have R3 : RowN ((w1.setCell ⟨gr, n, none⟩ (.int .i64 (n : Int))).setCell ⟨gc, n, none⟩ (.int .i64 (n : Int))).drew gc C (fun k => if k < n + 1 then k else 0) := (RC1.put n n step).drewK
        have STEP : Hid (RowN ((w1.setCell ⟨gr, n, none⟩ (.int .i64 (n : Int))).setCell ⟨gc, n, none⟩ (.int .i64 (n : Int))).drew gr C (fun k => if k < n + 1 then k else 0) ∧ RowN ((w1.setCell ⟨gr, n, none⟩ (.int .i64 (n : Int))).setCell ⟨gc, n, none⟩ (.int .i64 (n : Int))).drew gc C (fun k => if k < n + 1 then k else 0)) := ⟨R2, R3⟩
        clear R2 R3 step RC1 hg
        go_wp2_with fail
        go_region
        clear r1 r2 f1 f2 u0 u1 u2 u3 u4 u5 t0 t1 t2 t3 t4 t5
        have B1 := Bes.put w1 gr n (.int .i64 (n : Int))
        have B2 : Bes (some gc) (w1.setCell ⟨gr, n, none⟩ (.int .i64 (n : Int))) ((w1.setCell ⟨gr, n, none⟩ (.int .i64 (n : Int))).setCell ⟨gc, n, none⟩ (.int .i64 (n : Int))).drew := (Bes.put _ gc n _).drew
        obtain ⟨hR, hC2⟩ := STEP.out
        obtain ⟨g1, g2, g3, g4, g5, g6⟩ := G.out
        obtain ⟨nb1, nb2, nb3⟩ := NB.out
        replace MT : Hid (TBox _ _ _ _ _ _ _) := (MT.out.bes B1 (ne_some (Ne.symm s2))).bes B2 (ne_some (Ne.symm s3))
        replace RU : Hid (RowU _ _ _) := (RU.out.bes B1 (ne_some (Ne.symm g4))).bes B2 (ne_some (Ne.symm g5))
        replace AW : Hid (WT _ _) := (AW.out.bes B1 (ne_some nb2)).bes B2 (ne_some nb3)
        replace BW : Hid (Below _ _ _) := Bes.old (Bes.old BW.out B1 g2) B2 g3
        clear STEP B1 B2 RR RC
        have RR : Hid (RowN _ gr C _) := hR
        have RC : Hid (RowN _ gc C _) := hC2
        clear hR hC2 g1 g2 g3 g4 g5 g6 nb1 nb2 nb3 s1 s2 s3
        generalize ((w1.setCell ⟨gr, n, none⟩ (.int .i64 (n : Int))).setCell ⟨gc, n, none⟩ (.int .i64 (n : Int))).drew = w2 at MT RU AW BW RR RC ⊢
        go_wp2
        go_roundw
        case rel => exact ⟨n + 1, by go_num, by omega, MT, RU, RR, RC, AW, BW⟩
        case measure => simp [intOf]; omega
      · obtain rfl : n = C := by omega
        obtain ⟨⟨z0, z1, z2, z3, z4, z5, z6⟩, zf⟩ := AW.out
        have y0 := zf 0
        have y1 := zf 1
        have y2 := zf 2
        have y3 := zf 3
        have y4 := zf 4
        have y5 := zf 5
        have NBK : Hid (b2 ≠ gm ∧ b2 ≠ gr ∧ b2 ≠ gc) := by
          obtain ⟨a1, a2, a3⟩ := NB.out
          exact ⟨Ne.symm a1, Ne.symm a2, Ne.symm a3⟩
        clear zf s1 s2 s3
        go_wp2
        refine bodyPost_ret (v := .agg #[.int .i64 (n : Int), .int .i64 (n : Int), .int .i64 (n : Int), .slice (some ⟨gm, 0, none⟩) (n * n) (n * n), .slice (some ⟨gr, 0, none⟩) n n, .slice (some ⟨gc, 0, none⟩) n n]) (by simp [results, Tryz.results50, go_sem, *]) rfl ?_
        have BP : ∀ a0 a1 a2 a3 a4 a5, Bes (some b2) w1 ((((((w1.setCell ⟨b2, 0, none⟩ a0).setCell ⟨b2, 1, none⟩ a1).setCell ⟨b2, 2, none⟩ a2).setCell ⟨b2, 3, none⟩ a3).setCell ⟨b2, 4, none⟩ a4).setCell ⟨b2, 5, none⟩ a5) := fun a0 a1 a2 a3 a4 a5 => (((((Bes.put w1 b2 0 _).set (p := ⟨b2, 1, none⟩) (.inr rfl) _).set (p := ⟨b2, 2, none⟩) (.inr rfl) _).set (p := ⟨b2, 3, none⟩) (.inr rfl) _).set (p := ⟨b2, 4, none⟩) (.inr rfl) _).set (p := ⟨b2, 5, none⟩) (.inr rfl) _
        have same : ∀ k, k < n → k = if k < n then k else 0 := fun k h => (if_pos h).symm
        obtain ⟨k1, k2, k3⟩ := NBK.out
        exact ⟨gm, gr, gc, rfl, G.out, ⟨xs, ⟨RU.out.bes (BP _ _ _ _ _ _) (ne_some k1), (RR.out.congr same).bes (BP _ _ _ _ _ _) (ne_some k2), (RC.out.congr same).bes (BP _ _ _ _ _ _) (ne_some k3)⟩, HC.out⟩, Bes.old BW.out (BP _ _ _ _ _ _) HB2.out⟩
end Go.Proofs.YtpakpgjbgehhjaaGreat

/-
  What solve's own reduce does to a system: each step's greatest number leads, or least does; and what is told. Conditions: a square matrix that is right, Finite; least is a number above zero; the Calc lies beside it.
-/
namespace Go.Proofs.YtpakpgjbgehhjaaGreat
open Go.RowKit
set_option linter.unusedVariables false
set_option linter.unusedSimpArgs false

/-- Nothing that was there has turned but the system's blocks and the Calc's. -/
structure BesM (gm gr gc : Nat) (c : Option Nat) (w w' : World) : Prop where
  os : w'.os = w.os
  tape : w'.tape = w.tape
  output : w'.output = w.output
  size : w.heap.size ≤ w'.heap.size
  block : ∀ k, k < w.heap.size → c ≠ some k → k ≠ gm → k ≠ gr → k ≠ gc → w'.heap[k]? = w.heap[k]?
theorem BesM.trans {gm gr gc : Nat} {c : Option Nat} {a b d : World} (h : BesM gm gr gc c a b) (k : BesM gm gr gc c b d) : BesM gm gr gc c a d :=
  ⟨k.os.trans h.os, k.tape.trans h.tape, k.output.trans h.output, Nat.le_trans h.size k.size, fun i hi hc h1 h2 h3 => (k.block i (Nat.lt_of_lt_of_le hi h.size) hc h1 h2 h3).trans (h.block i hi hc h1 h2 h3)⟩
theorem BesM.of {gm gr gc : Nat} {c : Option Nat} {w w' : World} (h : Below w.heap.size w w') : BesM gm gr gc c w w' := ⟨h.os, h.tape, h.output, h.size, fun k hk _ _ _ _ => h.block k hk⟩
theorem BesM.mat {gm gr gc : Nat} {c : Option Nat} {w w' : World} (h : Bes (some gm) w w') : BesM gm gr gc c w w' := ⟨h.os, h.tape, h.output, h.size, fun k hk _ h1 _ _ => h.block k hk (fun e => h1 (Option.some.inj e).symm)⟩
theorem BesM.two {gm gr gc : Nat} {c : Option Nat} {w w' : World} (h : Bes2 (some gr) gc w w') : BesM gm gr gc c w w' := ⟨h.os, h.tape, h.output, h.size, fun k hk _ _ h2 h3 => h.block k hk (fun e => h2 (Option.some.inj e).symm) h3⟩
theorem BesM.calc {gm gr gc : Nat} {c : Option Nat} {w w' : World} (h : Bes2 c gm w w') : BesM gm gr gc c w w' := ⟨h.os, h.tape, h.output, h.size, fun k hk hc h1 _ _ => h.block k hk hc h1⟩
theorem BesM.old {gm gr gc : Nat} {c : Option Nat} {u w w' : World} (h : Bes c u w) (k : BesM gm gr gc c w w') (h1 : u.heap.size ≤ gm) (h2 : u.heap.size ≤ gr) (h3 : u.heap.size ≤ gc) : Bes c u w' :=
  ⟨k.os.trans h.os, k.tape.trans h.tape, k.output.trans h.output, Nat.le_trans h.size k.size, fun i hi hc => (k.block i (Nat.lt_of_lt_of_le hi h.size) hc (by omega) (by omega) (by omega)).trans (h.block i hi hc)⟩
theorem BesM.cellK {gm gr gc : Nat} {c : Option Nat} {w w' : World} (h : BesM gm gr gc c w w') {b o : Nat} (hb : b < w.heap.size) (h0 : c ≠ some b) (h1 : b ≠ gm) (h2 : b ≠ gr) (h3 : b ≠ gc) : w'.cell? ⟨b, o, none⟩ = w.cell? ⟨b, o, none⟩ := World.cell?_of_block (w := w) (a := ⟨b, o, none⟩) (h.block b hb h0 h1 h2 h3)
theorem TBox.besM {w w' : World} {c : Option Nat} {gm gr gc b : Nat} {C S : Int} {s u v : Value} (h : TBox w b C S s u v) (hb : BesM gm gr gc c w w') (h0 : c ≠ some b) (h1 : b ≠ gm) (h2 : b ≠ gr) (h3 : b ≠ gc) : TBox w' b C S s u v := by
  obtain ⟨a0, a1, a2, a3, a4, a5, a6⟩ := h
  exact ⟨(hb.cellK a6 h0 h1 h2 h3).trans a0, (hb.cellK a6 h0 h1 h2 h3).trans a1, (hb.cellK a6 h0 h1 h2 h3).trans a2, (hb.cellK a6 h0 h1 h2 h3).trans a3, (hb.cellK a6 h0 h1 h2 h3).trans a4, (hb.cellK a6 h0 h1 h2 h3).trans a5, Nat.lt_of_lt_of_le a6 hb.size⟩
theorem URow.besM {w w' : World} {c : Option Nat} {gm gr gc : Nat} {a : Option Addr} {len cap : Nat} {Z : Nat → Int} (h : URow w a len cap Z) (hb : BesM gm gr gc c w w') (h0 : Apt c a len) (h1 : Apt (some gm) a len) (h2 : Apt (some gr) a len) (h3 : Apt (some gc) a len) : URow w' a len cap Z := by
  obtain ⟨k1, k2, k3, k4⟩ := h
  refine ⟨k1, k2, k3, fun hp => ?_⟩
  obtain ⟨b, o, e, hlt, hcell⟩ := k4 hp
  have := hb.size
  exact ⟨b, o, e, by omega, fun i hi => (hb.cellK hlt (h0 hp b o none e) (fun g => h1 hp b o none e (by rw [g])) (fun g => h2 hp b o none e (by rw [g])) (fun g => h3 hp b o none e (by rw [g]))).trans (hcell i hi)⟩
theorem Bes2.cellK {c : Option Nat} {g : Nat} {w w' : World} (h : Bes2 c g w w') {b o : Nat} (hb : b < w.heap.size) (h1 : c ≠ some b) (h2 : b ≠ g) : w'.cell? ⟨b, o, none⟩ = w.cell? ⟨b, o, none⟩ := World.cell?_of_block (w := w) (a := ⟨b, o, none⟩) (h.block b hb h1 h2)
theorem Bes2.frozenK {c : Option Nat} {g : Nat} {w w' : World} (h : Bes2 c g w w') {b o : Nat} (hb : b < w.heap.size) (h1 : c ≠ some b) (h2 : b ≠ g) : w'.frozen? ⟨b, o, none⟩ = w.frozen? ⟨b, o, none⟩ := World.frozen?_of_block (w := w) (a := ⟨b, o, none⟩) (h.block b hb h1 h2)
theorem TBox.bes2 {w w' : World} {c : Option Nat} {g b : Nat} {C S : Int} {s u v : Value} (h : TBox w b C S s u v) (hb : Bes2 c g w w') (h1 : c ≠ some b) (h2 : b ≠ g) : TBox w' b C S s u v := by
  obtain ⟨a0, a1, a2, a3, a4, a5, a6⟩ := h
  exact ⟨(hb.cellK a6 h1 h2).trans a0, (hb.cellK a6 h1 h2).trans a1, (hb.cellK a6 h1 h2).trans a2, (hb.cellK a6 h1 h2).trans a3, (hb.cellK a6 h1 h2).trans a4, (hb.cellK a6 h1 h2).trans a5, Nat.lt_of_lt_of_le a6 hb.size⟩
theorem IsCalc.bes2 {w w' : World} {p : Value} {c d : Option Nat} {g : Nat} {F : Int} (h : IsCalc w p c F) (hb : Bes2 d g w w') (hd : ∀ k, c = some k → d ≠ some k) (hg : ∀ k, c = some k → k ≠ g) : IsCalc w' p c F := by
  rcases h with h | ⟨k, h1, h2, h3, h4, h5⟩
  · exact .inl h
  · exact .inr ⟨k, h1, h2, Nat.lt_of_lt_of_le h3 hb.size, (hb.cellK h3 (hd k h2) (hg k h2)).trans h4, (hb.frozenK h3 (hd k h2) (hg k h2)).trans h5⟩
set_option maxHeartbeats 8000000 in
set_option maxRecDepth 100000 in
theorem yReduce (p : Value) (c : Option Nat) (F l : Int) (C D M gm gr gc : Nat) (x0 : List Int) (w : World) (hc : IsCalc w p c F) (F0 : 0 ≤ F) (F1 : F ≤ 31) (h : Rgt (C : Int) (C : Int) (C : Int) D) (hC : C ≤ 1000) (R : RdI C D x0 x0 (fun k => k) (fun k => k) 0 M false l F F) (S : Sy w C gm gr gc x0 (fun k => k) (fun k => k)) (l0 : 0 < l) (l1 : l < 9218868437227405312) (n1 : c ≠ some gm) (n2 : c ≠ some gr) (n3 : c ≠ some gc) (nrc : gr ≠ gc) (ngr : gm ≠ gr) (ngc : gm ≠ gc) :
    Calls Tryz.prog 51 #[.agg #[.int .i64 (C : Int), .int .i64 (C : Int), .int .i64 (C : Int), .slice (some ⟨gm, 0, none⟩) D D, .slice (some ⟨gr, 0, none⟩) C C, .slice (some ⟨gc, 0, none⟩) C C], p, .int .u64 l] w fun e w' => ∃ tl, e = .returned (.bool tl) ∧ (∃ xs rs cs G, Sy w' C gm gr gc xs rs cs ∧ IsCalc w' p c G ∧ RdI C D x0 xs rs cs C M tl l F G) ∧ BesM gm gr gc c w w' := by
  have HH : Hid (Rgt (C : Int) (C : Int) (C : Int) D) := h
  have RD : Hid (RdI C D x0 x0 (fun k => k) (fun k => k) 0 M false l F F) := R
  have SS0 : Hid (Sy w C gm gr gc x0 (fun k => k) (fun k => k)) := S
  have CC0 : Hid (IsCalc w p c F) := hc
  have N1 : Hid (c ≠ some gm) := n1
  have N2 : Hid (c ≠ some gr) := n2
  have N3 : Hid (c ≠ some gc) := n3
  have NR : Hid (gm ≠ gr) := ngr
  have NC : Hid (gm ≠ gc) := ngc
  have NRC : Hid (gr ≠ gc) := nrc
  have L0 : Hid (0 < l) := l0
  have L1 : Hid (l < 9218868437227405312) := l1
  have l2 : 0 ≤ l := by omega
  have l3 : l < 18446744073709551616 := by omega
  clear hc h R S n1 n2 n3 ngr ngc nrc l0 l1
  go_enter Tryz.func51, Tryz.ntmps51
  go_upto_region 1 with fail
  have mT := TBox.madeS w (C : Int) (C : Int) (.slice (some ⟨gm, 0, none⟩) D D) (.slice (some ⟨gr, 0, none⟩) C C) (.slice (some ⟨gc, 0, none⟩) C C)
  have b0 : Below w.heap.size w (w.alloc (.cells #[.int .i64 (C : Int), .int .i64 (C : Int), .int .i64 (C : Int), .slice (some ⟨gm, 0, none⟩) D D, .slice (some ⟨gr, 0, none⟩) C C, .slice (some ⟨gc, 0, none⟩) C C] 82)) := bmore (Below.refl _ _) _
  generalize (w.alloc (.cells #[.int .i64 (C : Int), .int .i64 (C : Int), .int .i64 (C : Int), .slice (some ⟨gm, 0, none⟩) D D, .slice (some ⟨gr, 0, none⟩) C C, .slice (some ⟨gc, 0, none⟩) C C] 82)) = W0 at mT b0 ⊢
  obtain ⟨kt, hkt⟩ : ∃ k, k = w.heap.size := ⟨_, rfl⟩
  rw [← hkt] at mT ⊢
  have NK1 : Hid (gm ≠ kt) := by have := SS0.out.mat.lt; show _ ≠ _; omega
  have NK2 : Hid (gr ≠ kt) := by have := SS0.out.rows.lt; show _ ≠ _; omega
  have NK3 : Hid (gc ≠ kt) := by have := SS0.out.cols.lt; show _ ≠ _; omega
  have N4 : Hid (c ≠ some kt) := fun e => by have := CC0.out.lt _ e; omega
  have SS : Hid (Sy W0 C gm gr gc x0 (fun k => k) (fun k => k)) := SS0.out.below b0
  have CC : Hid (IsCalc W0 p c F) := CC0.out.later b0
  have MT : Hid (TBox W0 kt (C : Int) (C : Int) (.slice (some ⟨gm, 0, none⟩) D D) (.slice (some ⟨gr, 0, none⟩) C C) (.slice (some ⟨gc, 0, none⟩) C C)) := mT
  have BB : Hid (BesM gm gr gc c w W0) := BesM.of b0
  clear mT b0 hkt SS0 CC0
  obtain ⟨t0, t1, t2, t3, t4, t5⟩ := MT.out.cells
  go_wp2_with fail
  clear t0 t1 t2 t3 t4 t5
  go_loopw [7, 12] (fun q i wr => ∃ (n : Nat) (tl : Bool) (xs : List Int) (rs cs : Nat → Nat) (G : Int), q = .bool tl ∧ i = .int .i64 (n : Int) ∧ n ≤ C ∧ Hid (RdI C D x0 xs rs cs n M tl l F G) ∧ Hid (Sy wr C gm gr gc xs rs cs) ∧ Hid (IsCalc wr p c G) ∧ Hid (TBox wr kt (C : Int) (C : Int) (.slice (some ⟨gm, 0, none⟩) D D) (.slice (some ⟨gr, 0, none⟩) C C) (.slice (some ⟨gc, 0, none⟩) C C)) ∧ Hid (BesM gm gr gc c w wr)) (fun _ i _ => C - (intOf i).toNat)
  case atStart => exact ⟨0, false, x0, _, _, F, rfl, rfl, Nat.zero_le _, RD, SS, CC, MT, BB⟩
  case round =>
    clear RD SS CC MT BB
    obtain ⟨n, tl, xs, rs, cs, G, rfl, rfl, hnC, RD, SS, CC, MT, BB⟩ := hrel
    obtain ⟨w1, rfl⟩ : ∃ x, x = wr := ⟨wr, rfl⟩
    obtain ⟨t0, t1, t2, t3, t4, t5⟩ := MT.out.cells
    by_cases hlt : (n : Int) < (C : Int)
    · go_wp2_with fail
      refine (yLead C D gm gr gc xs rs cs n w1 HH.out hC RD.out.idx SS.out (by omega) NRC.out NR.out NC.out).mono ?_
      rintro e w2 ⟨rfl, row, col, hl_, hS_, hb_⟩
      have LD : Hid (LdI (vw xs rs cs C) C n row col C n) := hl_
      replace MT : Hid (TBox _ _ _ _ _ _ _) := MT.out.bes2 hb_ (ne_some NK2.out) NK3.out.symm
      replace CC : Hid (IsCalc _ _ _ _) := CC.out.bes2 hb_ (fun k e1 e2 => N2.out (e1.trans e2.symm)) (fun k e1 e2 => N3.out (by rw [e1, e2]))
      replace BB : Hid (BesM _ _ _ _ _ _) := BB.out.trans (BesM.two hb_)
      have SI : Hid (SyI C D xs (fun k => rs (sw n row k)) (fun k => cs (sw n col k))) := RD.out.idx.swp n row n col (by omega) LD.out.rb (by omega) LD.out.cb
      obtain ⟨rs2, hrs2⟩ : ∃ f, f = fun k => rs (sw n row k) := ⟨_, rfl⟩
      obtain ⟨cs2, hcs2⟩ : ∃ f, f = fun k => cs (sw n col k) := ⟨_, rfl⟩
      rw [← hrs2, ← hcs2] at SI hS_
      have HRS : Hid (rs2 = fun k => rs (sw n row k)) := hrs2
      have HCS : Hid (cs2 = fun k => cs (sw n col k)) := hcs2
      clear SS
      have SS : Hid (Sy w2 C gm gr gc xs rs2 cs2) := hS_
      have EV : Hid (vw xs rs2 cs2 C n n = vw xs rs cs C row col) := by
        show vw xs rs2 cs2 C n n = vw xs rs cs C row col
        rw [hrs2, hcs2]
        show xs[rs (sw n row n) * C + cs (sw n col n)]?.getD 0 = _
        rw [show sw n row n = row by unfold sw; rw [if_pos rfl], show sw n col n = col by unfold sw; rw [if_pos rfl]]
        rfl
      clear hl_ hb_ hS_ hrs2 hcs2 t0 t1 t2 t3 t4 t5
      obtain ⟨a0, a1⟩ := vw_rng SI.out n n
      obtain ⟨av, hav⟩ : ∃ a, vw xs rs2 cs2 C n n = a := ⟨_, rfl⟩
      have E3 : Hid (vw xs rs2 cs2 C n n = av) := hav
      rw [hav] at a0 a1
      obtain ⟨ax, hax⟩ : ∃ a, av % 9223372036854775808 = a := ⟨_, rfl⟩
      have HA : Hid (_ = _) := hax
      clear hav hax
      obtain ⟨t0, t1, t2, t3, t4, t5⟩ := MT.out.cells
      go_wp2_with fail
      refine (zAt C D gm gr gc xs rs2 cs2 n n w2 HH.out hC SI.out SS.out (by omega) (by omega)).mono ?_
      rintro e w3 ⟨rfl, hb_⟩
      rw [E3.out]
      replace BB : Hid (BesM _ _ _ _ _ _) := BB.out.trans (BesM.of hb_); replace SS : Hid (Sy _ _ _ _ _ _ _ _) := SS.out.below hb_; replace CC : Hid (IsCalc _ _ _ _) := CC.out.later hb_; replace MT : Hid (TBox _ _ _ _ _ _ _) := MT.out.below hb_
      clear hb_ t0 t1 t2 t3 t4 t5
      go_wp2_with fail
      refine (yAbs av w3 a0 a1).mono ?_
      rintro e w4 ⟨rfl, hb_⟩
      rw [HA.out]
      replace BB : Hid (BesM _ _ _ _ _ _) := BB.out.trans (BesM.of hb_); replace SS : Hid (Sy _ _ _ _ _ _ _ _) := SS.out.below hb_; replace CC : Hid (IsCalc _ _ _ _) := CC.out.later hb_; replace MT : Hid (TBox _ _ _ _ _ _ _) := MT.out.below hb_
      clear hb_ a0 a1
      by_cases hg : ax < l
      · obtain ⟨t0, t1, t2, t3, t4, t5⟩ := MT.out.cells
        go_wp2_with fail
        refine (zSet C D gm gr gc xs rs2 cs2 n n l w4 HH.out hC SI.out SS.out (by omega) (by omega) l2 l3 NR.out NC.out).mono ?_
        rintro e w5 ⟨rfl, ⟨zs, hI_, hS_, hv_⟩, hb_⟩
        replace CC : Hid (IsCalc _ _ _ _) := CC.out.bes hb_ (fun k e1 e2 => N1.out (e1.trans e2.symm))
        replace MT : Hid (TBox _ _ _ _ _ _ _) := MT.out.bes hb_ (ne_some NK1.out)
        replace BB : Hid (BesM _ _ _ _ _ _) := BB.out.trans (BesM.mat hb_)
        clear SS
        have SS : Hid (Sy w5 C gm gr gc zs rs2 cs2) := hS_
        have SI2 : Hid (SyI C D zs rs2 cs2) := hI_
        have HV : Hid (∀ i' k', i' < C → k' < C → vw zs rs2 cs2 C i' k' = if i' = n ∧ k' = n then l else vw xs rs2 cs2 C i' k') := hv_
        clear hb_ hI_ hS_ hv_ t0 t1 t2 t3 t4 t5
        obtain ⟨t0, t1, t2, t3, t4, t5⟩ := MT.out.cells
        go_wp2_with fail
        refine (yTake p c G C D gm gr gc zs rs2 cs2 n w5 CC.out RD.out.rng.1 RD.out.rng.2 HH.out hC SI2.out SS.out (by omega) N1.out N2.out N3.out NR.out NC.out).mono ?_
        rintro e w6 ⟨rfl, ys, G', hI_, hS_, hC_, hT_, hb_⟩
        replace MT : Hid (TBox _ _ _ _ _ _ _) := MT.out.bes2 hb_ N4.out NK1.out.symm
        replace BB : Hid (BesM _ _ _ _ _ _) := BB.out.trans (BesM.calc hb_)
        have RD2 : Hid (RdI C D x0 ys rs2 cs2 (n + 1) M true l F G') := by
          have hr := HRS.out
          have hc := HCS.out
          subst hr hc
          have q := RD.out.step (now := true) (x1 := zs) (ys := ys) (G' := G') (row := row) (col := col) (by omega) LD.out.ra LD.out.rb LD.out.ca LD.out.cb (fun i k h1 h2 h3 h4 => LD.out.top i k h1 h3 h4 (.inl h2)) L0.out L1.out (by rw [← EV.out, E3.out, HA.out]; rw [if_pos rfl]; exact hg) (fun i k hi hk => by rw [HV.out i k hi hk]; simp) hI_ hT_
          rw [Bool.or_true] at q
          exact q
        have S6 : Hid (Sy w6 C gm gr gc ys rs2 cs2) := hS_
        have C6 : Hid (IsCalc w6 p c G') := hC_
        clear SS CC RD hI_ hS_ hC_ hT_ hb_ t0 t1 t2 t3 t4 t5
        go_wp2
        go_roundw
        case rel => exact ⟨n + 1, true, ys, rs2, cs2, G', rfl, by go_num, by omega, RD2, S6, C6, MT, BB⟩
        case measure => simp [intOf]; omega
      · have hg2 : decide (ax < l) = false := decide_eq_false hg
        obtain ⟨t0, t1, t2, t3, t4, t5⟩ := MT.out.cells
        go_wp2_with fail
        refine (yTake p c G C D gm gr gc xs rs2 cs2 n w4 CC.out RD.out.rng.1 RD.out.rng.2 HH.out hC SI.out SS.out (by omega) N1.out N2.out N3.out NR.out NC.out).mono ?_
        rintro e w6 ⟨rfl, ys, G', hI_, hS_, hC_, hT_, hb_⟩
        replace MT : Hid (TBox _ _ _ _ _ _ _) := MT.out.bes2 hb_ N4.out NK1.out.symm
        replace BB : Hid (BesM _ _ _ _ _ _) := BB.out.trans (BesM.calc hb_)
        have RD2 : Hid (RdI C D x0 ys rs2 cs2 (n + 1) M tl l F G') := by
          have hr := HRS.out
          have hc := HCS.out
          subst hr hc
          have q := RD.out.step (now := false) (x1 := xs) (ys := ys) (G' := G') (row := row) (col := col) (by omega) LD.out.ra LD.out.rb LD.out.ca LD.out.cb (fun i k h1 h2 h3 h4 => LD.out.top i k h1 h3 h4 (.inl h2)) L0.out L1.out (by rw [← EV.out, E3.out, HA.out]; rw [if_neg (by simp)]; omega) (fun i k hi hk => by rw [if_neg (fun g => by simp at g)]) hI_ hT_
          rw [Bool.or_false] at q
          exact q
        have S6 : Hid (Sy w6 C gm gr gc ys rs2 cs2) := hS_
        have C6 : Hid (IsCalc w6 p c G') := hC_
        clear SS CC RD hI_ hS_ hC_ hT_ hb_ t0 t1 t2 t3 t4 t5
        go_wp2
        go_roundw
        case rel => exact ⟨n + 1, tl, ys, rs2, cs2, G', rfl, by go_num, by omega, RD2, S6, C6, MT, BB⟩
        case measure => simp [intOf]; omega
    · obtain rfl : n = C := by omega
      go_wp2
      go_ret
      cases tl
      · exact .inl ⟨ret_eq rfl, ⟨xs, rs, cs, SS.out, G, CC.out, RD.out⟩, BB.out⟩
      · exact .inr ⟨ret_eq rfl, ⟨xs, rs, cs, SS.out, G, CC.out, RD.out⟩, BB.out⟩
end Go.Proofs.YtpakpgjbgehhjaaGreat
