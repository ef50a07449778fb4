/-
  The law VecNorms returns true at every input (any slice of patterns), and leaves its argument as it was. No conditions.
-/
import Derived.Test.YtokgfeeaoioegaaRows
import Derived.WalkKit
import Derived.ProofKit
import Derived.OpenShut
import Derived.Test.YtokgfeeaoioegaaGrO
import Derived.Test.YtokgfeeaoioegaaGrP
import Derived.ShutString
import Derived.ChangeOld
import Derived.Below
namespace Go.Proofs.Ytokgfeeaoioegaa.vecNorms
open Go.ChangeShapes Go.WideShapes Go.ChangeAt Go.RowKit
open Go.ChangeMaps (open_string shut_string)
set_option linter.unusedVariables false

theorem own : ownKnob Try.prog.godebug = none := by kernel_rfl
theorem laidOut : laidOutB Try.prog = true := by kernel_rfl

/-- WHAT THE WALK IS TOLD OF A SLICE OF INTEGERS THAT CAME IN: it is nil; or it leads to a row of 'cap' cells, the numbers 'zs' (the first 'len' are its elements, the rest its spare room), each fitting its kind. -/
def IsRow (k : IntKind) (w : World) (a : Option Addr) (len cap : Nat) (zs : List Int) : Prop :=
  (a = none ∧ len = 0 ∧ cap = 0 ∧ zs = []) ∨
  ∃ x, a = some x ∧ len ≤ cap ∧ cap ≤ maxLen ∧ zs.length = cap ∧ (∀ i, i < zs.length → w.cell? (x.add i) = some (.int k (zs.getD i 0))) ∧ ∀ n ∈ zs, (Lit.int k n).wf = true

set_option linter.unusedSimpArgs false
theorem row_of (w : World) (a : Option Addr) (len cap : Nat) (zs : List Int) (h : IsRow .u64 w a len cap zs) : URow w a len cap (fun i => zs.getD i 0) := by
  rcases h with ⟨rfl, rfl, rfl, rfl⟩ | ⟨x, rfl, h1, h2, h3, h4, h5⟩
  · exact ⟨Nat.le_refl _, Nat.zero_le _, fun i => by simp, fun h => absurd h (Nat.lt_irrefl 0)⟩
  · refine ⟨h1, h2, fun i => ?_, fun hp => ?_⟩
    · show 0 ≤ zs.getD i 0 ∧ zs.getD i 0 < 18446744073709551616
      rcases Nat.lt_or_ge i zs.length with g | g
      · have hm : zs.getD i 0 ∈ zs := by
          rw [List.getD_eq_getElem?_getD, List.getElem?_eq_getElem g]
          exact List.getElem_mem g
        obtain ⟨q1, q2⟩ := bounds_u64 (h5 _ hm)
        exact ⟨q1, by omega⟩
      · rw [List.getD_eq_getElem?_getD, List.getElem?_eq_none g]
        simp
    · obtain ⟨b, o, s⟩ := x
      have hs : s = none := by simpa [Addr.add] using World.cell?_spot (h4 0 (by omega))
      subst hs
      have hb : b < w.heap.size := by
        have := World.block_lt_of_cell? _ _ (h4 0 (by omega))
        simpa [Addr.add] using this
      refine ⟨b, o, rfl, hb, fun i hi => ?_⟩
      have := h4 i (by omega)
      rw [add_plain] at this
      exact this
theorem calc_cell {w : World} {k : Nat} {F : Int} (h : IsCalc w (.pointer (some ⟨k, 0, none⟩)) (some k) F) : w.cell? ⟨k, 0, none⟩ = some (.int .u8 F) ∧ w.frozen? ⟨k, 0, none⟩ = false ∧ k < w.heap.size := by
  rcases h with ⟨_, h⟩ | ⟨j, _, h2, h3, h4, h5⟩
  · cases h
  · injection h2 with h2
    subst h2
    exact ⟨h4, h5, h3⟩
set_option maxRecDepth 100000 in
set_option maxHeartbeats 8000000 in
theorem walk (a0 : Option Addr) (len0 cap0 : Nat) (z0 : List Int) (w : World) (w0 : IsRow .u64 w a0 len0 cap0 z0) :
    Calls Try.prog 11 #[.slice a0 len0 cap0] w fun e w' => e = .returned (.bool true) ∧ Below w.heap.size w w' := by
  have hx := row_of w a0 len0 cap0 z0 w0
  generalize (fun i => z0.getD i 0) = X at hx
  clear w0
  obtain ⟨lx, cx⟩ := hx.lenB
  have HX : Hid (URow w a0 len0 cap0 X) := hx
  clear hx
  by_cases hl : 40 < len0
  · have hl2 : (40 : Int) < (len0 : Int) := by omega
    go_enter Try.func11, Try.ntmps11
    go_wp2_with fail
    refine (lHead10 _).mono ?_
    rintro e w1 ⟨rfl, hb1⟩
    go_wp2
    go_ret
    exact ⟨ret_eq rfl, hb1⟩
  have hl2 : ¬ (40 : Int) < (len0 : Int) := by omega
  have hdl : decide ((40 : Int) < (len0 : Int)) = false := decide_eq_false hl2
  go_enter Try.func11, Try.ntmps11
  go_wp2_with fail
  refine (lHead10 _).mono ?_
  rintro e w1 ⟨rfl, hb1⟩
  have BW : Hid (Below w.heap.size w w1) := hb1
  have hz := hb1.size
  clear hb1
  go_wp2_with fail
  refine (vNrmW _ (some w1.heap.size) _ len0 _ X _ (calc_new w1) (HX.out.below (bmore BW.out _)) (HX.out.apt (fun k e => by injection e with e; omega)) (by omega)).mono ?_
  rintro e w2 ⟨r, FR, rfl, d0, d1, hfin, hnot, hC, hB⟩
  obtain ⟨kc, hkc⟩ : ∃ k, k = w1.heap.size := ⟨_, rfl⟩
  rw [← hkc] at hC hB ⊢
  have OC : Hid (w.heap.size ≤ kc) := by show _ ≤ _; omega
  replace BW : Hid (Below w.heap.size w w2) := (bmore BW.out _).trans (hB.below _ (by simp; omega) (fun k e => by injection e with e; omega))
  have HC : Hid (IsCalc w2 (.pointer (some ⟨kc, 0, none⟩)) (some kc) FR) := hC
  have UX : Hid (URow w2 a0 len0 cap0 X) := HX.out.below BW.out
  have HFIN : Hid (FinX X len0 → bits .and .u8 FR 6 = 0 → Norm2 X len0 r) := hfin
  have HNOT : Hid (¬ FinX X len0 → FR = 0 ∧ ∃ t, Great len0 X r t) := hnot
  have LC : Hid (kc < w2.heap.size) := hC.lt _ rfl
  clear hC hB hkc hz hfin hnot
  go_wp2_with fail
  have m0_ := BoxF.made w2 (.bool false) (.slice none 0 0) (.int .i64 0) (.slice none 0 0) 44
  have b_ : Below w2.heap.size w2 (w2.alloc (.cells #[.bool false, .slice none 0 0, .int .i64 0, .slice none 0 0] 44)) := bmore (Below.refl _ _) _
  obtain ⟨k_s, hk_s⟩ : ∃ k, k = w2.heap.size := ⟨_, rfl⟩
  have L_s : Hid (w.heap.size ≤ k_s) := by rw [hk_s]; exact Nat.le_trans BW.out.size (by omega)
  have K_sc : Hid (k_s ≠ kc) := by have := LC.out; show _ ≠ _; omega
  rw [← hk_s] at m0_ ⊢
  generalize (w2.alloc (.cells #[.bool false, .slice none 0 0, .int .i64 0, .slice none 0 0] 44)) = w1_ at m0_ b_ ⊢
  replace BW : Hid (Below _ _ _) := bstep BW.out b_
  replace HC : Hid (IsCalc _ _ _ _) := HC.out.later b_
  replace UX : Hid (URow _ _ _ _ _) := UX.out.below b_
  replace LC : Hid (_ < _) := Nat.lt_of_lt_of_le LC.out (Below.size b_)
  have b_s : Hid (BoxF w1_ k_s (.bool false) (.slice none 0 0) (.int .i64 0) (.slice none 0 0)) := m0_
  clear b_ m0_ hk_s
  obtain ⟨B0, hB0⟩ : ∃ B, B = w1_.heap.size := ⟨_, rfl⟩
  have KB_s : Hid (k_s < B0) := by rw [hB0]; exact b_s.out.2.2
  have ZB0 : Hid (B0 ≤ w1_.heap.size) := by show _ ≤ _; omega
  clear hB0
  go_loopw [31] (fun i wr => ∃ (j : Nat) (s_n : Bool) (s_a : Option Addr) (s_m s_c : Nat) (s_p : Int), i = .int .i64 (j : Int) ∧ j ≤ len0 ∧ Hid (∀ i, i < j → mag (X i) < 9218868437227405312) ∧ Hid (BoxF wr k_s (.bool s_n) (.slice s_a s_m s_c) (.int .i64 s_p) (.slice none 0 0)) ∧ Hid (Tell wr B0 (.agg #[.bool s_n, .slice s_a s_m s_c, .int .i64 s_p, .slice none 0 0]) 34 (34 + j) (((sqs (fun i => V (mag (X i))) j : Nat) : Int) * 268435456)) ∧ Hid (Below w.heap.size w wr) ∧ Hid (IsCalc wr (.pointer (some ⟨kc, 0, none⟩)) (some kc) FR) ∧ Hid (URow wr a0 len0 cap0 X) ∧ Hid (B0 ≤ wr.heap.size)) (fun i _ => len0 - (intOf i).toNat)
  case atStart => exact ⟨0, false, none, 0, 0, 0, rfl, Nat.zero_le _, (fun i h => absurd h (Nat.not_lt_zero _)), b_s, (Tell.zero _ _ _ _ _ (by simp)).eq (by simp [sqs]), BW, HC, UX, ZB0⟩
  case round =>
    have NCS : Hid (k_s ≠ kc) := K_sc
    clear b_s BW UX ZB0 HC LC
    obtain ⟨j, s_n, s_a, s_m, s_c, s_p, rfl, hj_, FIN, b_s, t_s, BW, HC, UX, ZB0⟩ := hrel
    obtain ⟨w2_, rfl⟩ : ∃ x, x = wr := ⟨wr, rfl⟩
    by_cases hlt : (j : Int) < (len0 : Int)
    · skip
      obtain ⟨_, _, zx, fx⟩ := UX.out
      obtain ⟨b1, o1, e_1, l_q1, e1⟩ := fx (by omega)
      have q1 := e1 j (by omega)
      obtain ⟨x0, x1⟩ := zx j
      clear zx fx e1
      obtain ⟨x, hxx⟩ : ∃ x, X j = x := ⟨_, rfl⟩
      rw [hxx] at q1 x0 x1
      have HXX : Hid (_ = _) := hxx
      clear hxx
      subst e_1
      go_wp2_with fail
      refine (dOf x _ x0 x1).mono ?_
      rintro e w3_ ⟨a_v, rfl, ht_, hb_⟩
      obtain ⟨a_n, a_a, a_m, a_c, a_p, rfl, ht2_⟩ := ht_.numform
      replace ht2_ := ht2_.base (b' := B0) ZB0.out
      clear ht_
      replace BW : Hid (Below _ _ _) := bstep BW.out hb_
      replace HC : Hid (IsCalc _ _ _ _) := HC.out.later hb_
      replace UX : Hid (URow _ _ _ _ _) := UX.out.below hb_
      replace b_s : Hid (BoxF _ _ _ _ _ _) := b_s.out.below hb_
      replace t_s : Hid (Tell _ _ _ _ _ _) := t_s.out.below hb_
      replace ZB0 : Hid (_ ≤ _) := Nat.le_trans ZB0.out (Below.size hb_)
      clear hb_
      go_upto_region 12 with fail
      have mB_ := BoxF.made w3_ (.bool a_n) (.slice a_a a_m a_c) (.int .i64 a_p) (.slice none 0 0) 44
      have tB_ := ht2_.alloc (.cells #[.bool a_n, .slice a_a a_m a_c, .int .i64 a_p, .slice none 0 0] 44)
      have b_ := bmore (Below.refl w3_.heap.size w3_) (.cells #[.bool a_n, .slice a_a a_m a_c, .int .i64 a_p, .slice none 0 0] 44)
      clear ht2_
      generalize (w3_.alloc (.cells #[.bool a_n, .slice a_a a_m a_c, .int .i64 a_p, .slice none 0 0] 44)) = w4_ at mB_ b_ tB_ ⊢
      obtain ⟨k_a, hk_a⟩ : ∃ k, k = w3_.heap.size := ⟨_, rfl⟩
      have N_sa : Hid (k_s ≠ k_a) := by have := b_s.out.2.2; show _ ≠ _; omega
      rw [← hk_a] at mB_ ⊢
      replace BW : Hid (Below _ _ _) := bstep BW.out b_
      replace HC : Hid (IsCalc _ _ _ _) := HC.out.later b_
      replace UX : Hid (URow _ _ _ _ _) := UX.out.below b_
      replace b_s : Hid (BoxF _ _ _ _ _ _) := b_s.out.below b_
      replace t_s : Hid (Tell _ _ _ _ _ _) := t_s.out.below b_
      replace ZB0 : Hid (_ ≤ _) := Nat.le_trans ZB0.out (Below.size b_)
      have b_a : Hid (BoxF w4_ k_a (.bool a_n) (.slice a_a a_m a_c) (.int .i64 a_p) (.slice none 0 0)) := mB_
      have t_a : Hid (Tell w4_ B0 (.agg #[.bool a_n, .slice a_a a_m a_c, .int .i64 a_p, .slice none 0 0]) 17 17 (xv x)) := tB_
      clear mB_ b_ tB_ hk_a
      clear l_q1 q1
      by_cases fnx : mag x < 9218868437227405312
      case neg =>
        have hdx : decide (mag x < 9218868437227405312) = false := decide_eq_false fnx
        obtain ⟨hFR, t, hG⟩ := HNOT.out (fun h => fnx (by have := h j (by omega); rw [HXX.out] at this; exact this))
        obtain ⟨c1, c2, c3⟩ := calc_cell HC.out
        rw [hFR] at c1
        have HG : Hid (Great _ _ _ _) := hG
        clear hG hFR
        go_wp2_with fail
        refine (oGreat _ len0 _ X _ UX.out (by omega)).mono ?_
        rintro e wz ⟨B', t', rfl, hg, rfl⟩
        obtain rfl := hg.only HG.out
        clear hg
        go_wp2
        go_ret
        exact ⟨ret_eq rfl, BW.out⟩
      have hdx : decide (mag x < 9218868437227405312) = true := decide_eq_true fnx
      have FNX : Hid (mag x < 9218868437227405312) := fnx
      clear fnx
      obtain ⟨⟨b_s_0, b_s_1, b_s_2, b_s_3⟩, ⟨b_s_5, b_s_6, b_s_7, b_s_8⟩, b_s_4⟩ := b_s.out
      obtain ⟨⟨b_a_0, b_a_1, b_a_2, b_a_3⟩, ⟨b_a_5, b_a_6, b_a_7, b_a_8⟩, b_a_4⟩ := b_a.out
      go_wp2_with fail
      clear b_s_0 b_s_1 b_s_2 b_s_3 b_s_4 b_s_5 b_s_6 b_s_7 b_s_8 b_a_0 b_a_1 b_a_2 b_a_3 b_a_4 b_a_5 b_a_6 b_a_7 b_a_8
      have HBa : Hid (Below w4_.heap.size w4_ w4_.drew) := (Below.refl _ _).drew
      have hfz_ := fun (w' : World) (h : Below w4_.heap.size w4_ w') => b_s.out.below h
      refine wp_region_noPanic ?_
      refine AnyT.start (T := (fun w' => (w'.cell? ⟨k_s, 0, none⟩ = some (.bool s_n) ∧ w'.cell? ⟨k_s, 1, none⟩ = some (.slice s_a s_m s_c) ∧ w'.cell? ⟨k_s, 2, none⟩ = some (.int .i64 s_p) ∧ w'.cell? ⟨k_s, 3, none⟩ = some (.slice none 0 0)) ∧ (w'.cell? ⟨k_a, 0, none⟩ = some (.bool a_n) ∧ w'.cell? ⟨k_a, 1, none⟩ = some (.slice a_a a_m a_c) ∧ w'.cell? ⟨k_a, 2, none⟩ = some (.int .i64 a_p) ∧ w'.cell? ⟨k_a, 3, none⟩ = some (.slice none 0 0)))) (z := 5) (by kernel_rfl) ?_
      have hHeld0 := (⟨b_s.out.drew.cells, b_a.out.drew.cells⟩ : (fun w' => (w'.cell? ⟨k_s, 0, none⟩ = some (.bool s_n) ∧ w'.cell? ⟨k_s, 1, none⟩ = some (.slice s_a s_m s_c) ∧ w'.cell? ⟨k_s, 2, none⟩ = some (.int .i64 s_p) ∧ w'.cell? ⟨k_s, 3, none⟩ = some (.slice none 0 0)) ∧ (w'.cell? ⟨k_a, 0, none⟩ = some (.bool a_n) ∧ w'.cell? ⟨k_a, 1, none⟩ = some (.slice a_a a_m a_c) ∧ w'.cell? ⟨k_a, 2, none⟩ = some (.int .i64 a_p) ∧ w'.cell? ⟨k_a, 3, none⟩ = some (.slice none 0 0))) w4_.drew)
      refine AnyT.take (i := 0) (oi := ({ dst := some 57, op := Op.load _ (Operand.tmp 5), type := _, pos := _, after := _, guard := none } : Oper)) (v := ?_) rfl (by kernel_rfl) (by kernel_rfl) (by kernel_rfl) (by kernel_rfl) (fun _ _ _ h => h) (Or.inl ⟨by rfl, ?_⟩) hHeld0 ?_
      rotate_left
      · intro w' hSw; (try dsimp only at hSw); go_simp <;> (try with_reducible rfl)
      (try simp only [Act.put, List.setIfInBounds_toArray, List.set_cons_zero, List.set_cons_succ])
      refine AnyT.take (i := 1) (oi := ({ dst := some 58, op := Op.load _ (Operand.tmp 8), type := _, pos := _, after := _, guard := none } : Oper)) (v := ?_) rfl (by kernel_rfl) (by kernel_rfl) (by kernel_rfl) (by kernel_rfl) (fun _ _ _ h => h) (Or.inl ⟨by rfl, ?_⟩) hHeld0 ?_
      rotate_left
      · intro w' hSw; (try dsimp only at hSw); go_simp <;> (try with_reducible rfl)
      (try simp only [Act.put, List.setIfInBounds_toArray, List.set_cons_zero, List.set_cons_succ])
      refine AnyT.take (i := 2) (oi := ({ dst := some 59, op := Op.load _ (Operand.tmp 8), type := _, pos := _, after := _, guard := none } : Oper)) (v := ?_) rfl (by kernel_rfl) (by kernel_rfl) (by kernel_rfl) (by kernel_rfl) (fun _ _ _ h => h) (Or.inl ⟨by rfl, ?_⟩) hHeld0 ?_
      rotate_left
      · intro w' hSw; (try dsimp only at hSw); go_simp <;> (try with_reducible rfl)
      (try simp only [Act.put, List.setIfInBounds_toArray, List.set_cons_zero, List.set_cons_succ])
      refine AnyT.one (i := 3) (o := ({ dst := some 60, op := Op.call { callee := Callee.value (Operand.func _), args := #[Operand.tmp 58, Operand.tmp 59], argTypes := _ }, type := _, pos := _, after := _, guard := none } : Oper)) (by kernel_rfl) rfl (fun K hK => ?_)
      go_simp
      refine (dMul _ _ _ B0 17 17 17 17 _ _ (t_a.out.below HBa.out) (t_a.out.below HBa.out) (by omega) (by omega) (by omega) (by omega) (by omega) (by omega)).mono ?_
      rintro e Wq0_ ⟨r1x0_v, rfl, ht_, hb_⟩
      obtain ⟨r1x0_n, r1x0_a, r1x0_m, r1x0_c, r1x0_p, rfl, ht2_⟩ := ht_.numform
      clear ht_
      have t_r1x0 : Hid (Tell Wq0_ B0 (.agg #[.bool r1x0_n, .slice r1x0_a r1x0_m r1x0_c, .int .i64 r1x0_p, .slice none 0 0]) 34 34 (xv x * xv x)) := ht2_.base (by have := ZB0.out; have := Below.size HBa.out; show B0 ≤ _; omega)
      clear ht2_
      replace HBa : Hid (Below w4_.heap.size w4_ Wq0_) := bstep HBa.out hb_
      clear hb_
      (try go_wp2_with fail)
      refine hK.out _ _ (fun _ => ⟨(b_s.out.below HBa.out).cells, (b_a.out.below HBa.out).cells⟩) (fun hHeld1 => ?_)
      replace hHeld0 := hHeld1 (by decide)
      clear hK K hHeld1
      (try simp only [Act.put, List.setIfInBounds_toArray, List.set_cons_zero, List.set_cons_succ])
      refine AnyT.one (i := 4) (o := ({ dst := some 61, op := Op.call { callee := Callee.value (Operand.func _), args := #[Operand.tmp 57, Operand.tmp 60], argTypes := _ }, type := _, pos := _, after := _, guard := none } : Oper)) (by kernel_rfl) rfl (fun K hK => ?_)
      go_simp
      refine (dAdd _ _ _ B0 34 (34 + (j : Int)) _ _ (t_s.out.below HBa.out) ((t_r1x0.out).wide (34 + (j : Int)) (by omega)) (by omega) (by omega) (by omega)).mono ?_
      rintro e Wq1_ ⟨r1x1_v, rfl, ht_, hb_⟩
      obtain ⟨r1x1_n, r1x1_a, r1x1_m, r1x1_c, r1x1_p, rfl, ht2_⟩ := ht_.numform
      clear ht_
      have t_r1x1 : Hid (Tell Wq1_ B0 (.agg #[.bool r1x1_n, .slice r1x1_a r1x1_m r1x1_c, .int .i64 r1x1_p, .slice none 0 0]) 34 (34 + (j : Int) + 1) (((sqs (fun i => V (mag (X i))) j : Nat) : Int) * 268435456 + xv x * xv x)) := ht2_.base (by have := ZB0.out; have := Below.size HBa.out; show B0 ≤ _; omega)
      clear ht2_
      replace t_r1x0 : Hid (Tell _ _ _ _ _ _) := t_r1x0.out.below hb_
      replace HBa : Hid (Below w4_.heap.size w4_ Wq1_) := bstep HBa.out hb_
      clear hb_
      (try go_wp2_with fail)
      refine hK.out _ _ (fun _ => ⟨(b_s.out.below HBa.out).cells, (b_a.out.below HBa.out).cells⟩) (fun hHeld1 => ?_)
      replace hHeld0 := hHeld1 (by decide)
      clear hK K hHeld1
      (try simp only [Act.put, List.setIfInBounds_toArray, List.set_cons_zero, List.set_cons_succ])
      refine AnyT.one (i := 5) (o := ({ dst := none, op := Op.store _ (Operand.tmp 5) (Operand.tmp 61), type := _, pos := _, after := _, guard := none } : Oper)) (by kernel_rfl) rfl (fun K hK => ?_)
      clear hHeld0
      obtain ⟨⟨z0_, z1_, z2_, z3_⟩, ⟨z5_, z6_, z7_, z8_⟩, z4_⟩ := hfz_ _ HBa.out
      go_simp
      refine hK.out _ _ (fun h => absurd rfl h) (fun _ => ?_)
      clear hK K
      (try simp only [Act.put, List.setIfInBounds_toArray, List.set_cons_zero, List.set_cons_succ])
      refine AnyT.done (by kernel_rfl) ?_
      refine NoPanic.normal ?_
      have bs_ := bes_puts Wq1_ k_s (.bool r1x1_n) (.slice r1x1_a r1x1_m r1x1_c) (.int .i64 r1x1_p) (.slice none 0 0)
      have mB_ := (b_s.out.below HBa.out).put (.bool r1x1_n) (.slice r1x1_a r1x1_m r1x1_c) (.int .i64 r1x1_p) (.slice none 0 0)
      have tB_ := t_r1x1.out.put (b := k_s) KB_s.out (.bool r1x1_n) (.slice r1x1_a r1x1_m r1x1_c) (.int .i64 r1x1_p) (.slice none 0 0)
      clear z0_ z1_ z2_ z3_ z4_ z5_ z6_ z7_ z8_ hfz_
      replace BW : Hid (Below _ _ _) := bstep BW.out HBa.out
      replace HC : Hid (IsCalc _ _ _ _) := HC.out.later HBa.out
      replace UX : Hid (URow _ _ _ _ _) := UX.out.below HBa.out
      replace b_s : Hid (BoxF _ _ _ _ _ _) := b_s.out.below HBa.out
      replace t_s : Hid (Tell _ _ _ _ _ _) := t_s.out.below HBa.out
      replace ZB0 : Hid (_ ≤ _) := Nat.le_trans ZB0.out (Below.size HBa.out)
      replace b_a : Hid (BoxF _ _ _ _ _ _) := b_a.out.below HBa.out
      replace t_a : Hid (Tell _ _ _ _ _ _) := t_a.out.below HBa.out
      replace BW : Hid (Below _ _ _) := Bes.old BW.out bs_ L_s.out
      replace HC : Hid (IsCalc _ _ _ _) := HC.out.bes bs_ (fun i e1 e2 => NCS.out ((Option.some.inj e2).trans (Option.some.inj e1).symm))
      replace UX : Hid (URow _ _ _ _ _) := UX.out.puts (HX.out.apt (fun k e => by injection e with e; rw [← e]; exact L_s.out)) (.bool r1x1_n) (.slice r1x1_a r1x1_m r1x1_c) (.int .i64 r1x1_p) (.slice none 0 0)
      replace ZB0 : Hid (_ ≤ _) := Nat.le_trans ZB0.out (Bes.size bs_)
      replace b_a : Hid (BoxF _ _ _ _ _ _) := b_a.out.puts N_sa.out (.bool r1x1_n) (.slice r1x1_a r1x1_m r1x1_c) (.int .i64 r1x1_p) (.slice none 0 0)
      replace t_a : Hid (Tell _ _ _ _ _ _) := t_a.out.put (b := k_s) KB_s.out (.bool r1x1_n) (.slice r1x1_a r1x1_m r1x1_c) (.int .i64 r1x1_p) (.slice none 0 0)
      replace b_s : Hid (BoxF _ _ _ _ _ _) := mB_
      replace t_s : Hid (Tell _ B0 (.agg #[.bool r1x1_n, .slice r1x1_a r1x1_m r1x1_c, .int .i64 r1x1_p, .slice none 0 0]) 34 (34 + (j : Int) + 1) (((sqs (fun i => V (mag (X i))) j : Nat) : Int) * 268435456 + xv x * xv x)) := tB_
      clear mB_ tB_ bs_ HBa t_r1x0 t_r1x1
      generalize ((((Wq1_.setCell ⟨k_s, 0, none⟩ (.bool r1x1_n)).setCell ⟨k_s, 1, none⟩ (.slice r1x1_a r1x1_m r1x1_c)).setCell ⟨k_s, 2, none⟩ (.int .i64 r1x1_p)).setCell ⟨k_s, 3, none⟩ (.slice none 0 0)) = w5_ at BW HC UX b_s t_s ZB0 b_a t_a ⊢
      have XE := xv_sq x FNX.out
      have ES : ((sqs (fun i => V (mag (X i))) j : Nat) : Int) * 268435456 + xv x * xv x = ((sqs (fun i => V (mag (X i))) (j + 1) : Nat) : Int) * 268435456 := by
        show _ = ((sqs (fun i => V (mag (X i))) j + V (mag (X j)) * V (mag (X j)) : Nat) : Int) * 268435456
        rw [HXX.out, XE, Int.natCast_add, Int.natCast_mul, Int.add_mul]
      have TS : Hid (Tell _ _ _ 34 (34 + ((j + 1 : Nat) : Int)) (((sqs (fun i => V (mag (X i))) (j + 1) : Nat) : Int) * 268435456)) := (t_s.out.wide _ (by omega)).eq ES
      have FN2 : Hid (∀ i, i < j + 1 → mag (X i) < 9218868437227405312) := fun i hi => by
        rcases Nat.lt_or_ge i j with g | g
        · exact FIN.out i g
        · obtain rfl : i = j := by omega
          rw [HXX.out]
          exact FNX.out
      clear XE ES t_s t_a b_a
      go_wp2
      go_roundw
      case rel => exact ⟨j + 1, _, _, _, _, _, by go_num, by omega, FN2, b_s, TS, BW, HC, UX, ZB0⟩
      case measure => simp [intOf]; omega
    · obtain rfl : len0 = j := by omega
      obtain ⟨c1, c2, c3⟩ := calc_cell HC.out
      obtain ⟨G, hG⟩ : ∃ G, bits .and .u8 FR 6 = G := ⟨_, rfl⟩
      by_cases hG0 : G = 0
      case neg =>
        have hg0 : (G == 0) = false := by rw [beq_eq_false_iff_ne]; exact hG0
        go_wp2
        go_ret
        exact ⟨ret_eq rfl, BW.out⟩
      subst hG0
      obtain ⟨fd, hhi, hlo⟩ := HFIN.out FIN.out hG
      have HLO : Hid (_ ≤ _) := hlo
      have HHI : Hid (_ ≤ _) := hhi
      have FD_ : Hid (mag r < 9218868437227405312) := fd
      have hdd : decide (mag r < 9218868437227405312) = true := decide_eq_true fd
      have hw4 : IntKind.i64.wrap ((len0 : Int) + 4) = (len0 : Int) + 4 := by rw [IntKind.wrap_i64]; omega
      clear fd hlo hhi FIN UX HC c2 c3
      go_upto_region 19 with fail
      clear c1 hG
      go_wp2_with fail
      refine (dOf r _ d0 d1).mono ?_
      rintro e w3_ ⟨g_v, rfl, ht_, hb_⟩
      obtain ⟨g_n, g_a, g_m, g_c, g_p, rfl, ht2_⟩ := ht_.numform
      replace ht2_ := ht2_.base (b' := B0) ZB0.out
      clear ht_
      replace BW : Hid (Below _ _ _) := bstep BW.out hb_
      replace b_s : Hid (BoxF _ _ _ _ _ _) := b_s.out.below hb_
      replace t_s : Hid (Tell _ _ _ _ _ _) := t_s.out.below hb_
      replace ZB0 : Hid (_ ≤ _) := Nat.le_trans ZB0.out (Below.size hb_)
      clear hb_
      go_upto_region 22 with fail
      have mB_ := BoxF.made w3_ (.bool g_n) (.slice g_a g_m g_c) (.int .i64 g_p) (.slice none 0 0) 44
      have tB_ := ht2_.alloc (.cells #[.bool g_n, .slice g_a g_m g_c, .int .i64 g_p, .slice none 0 0] 44)
      have b_ := bmore (Below.refl w3_.heap.size w3_) (.cells #[.bool g_n, .slice g_a g_m g_c, .int .i64 g_p, .slice none 0 0] 44)
      clear ht2_
      generalize (w3_.alloc (.cells #[.bool g_n, .slice g_a g_m g_c, .int .i64 g_p, .slice none 0 0] 44)) = w4_ at mB_ b_ tB_ ⊢
      obtain ⟨k_g, hk_g⟩ : ∃ k, k = w3_.heap.size := ⟨_, rfl⟩
      have N_sg : Hid (k_s ≠ k_g) := by have := b_s.out.2.2; show _ ≠ _; omega
      rw [← hk_g] at mB_ ⊢
      replace BW : Hid (Below _ _ _) := bstep BW.out b_
      replace b_s : Hid (BoxF _ _ _ _ _ _) := b_s.out.below b_
      replace t_s : Hid (Tell _ _ _ _ _ _) := t_s.out.below b_
      replace ZB0 : Hid (_ ≤ _) := Nat.le_trans ZB0.out (Below.size b_)
      have b_g : Hid (BoxF w4_ k_g (.bool g_n) (.slice g_a g_m g_c) (.int .i64 g_p) (.slice none 0 0)) := mB_
      have t_g : Hid (Tell w4_ B0 (.agg #[.bool g_n, .slice g_a g_m g_c, .int .i64 g_p, .slice none 0 0]) 17 17 (xv r)) := tB_
      clear mB_ b_ tB_ hk_g
      go_wp2_with fail
      refine (dInt ((len0 : Int) + 4) _ (by omega) (by omega)).mono ?_
      rintro e w5_ ⟨r1x0_v, rfl, ht_, hb_⟩
      obtain ⟨r1x0_n, r1x0_a, r1x0_m, r1x0_c, r1x0_p, rfl, ht2_⟩ := ht_.numform
      have t_r1x0 : Hid (Tell w5_ B0 (.agg #[.bool r1x0_n, .slice r1x0_a r1x0_m r1x0_c, .int .i64 r1x0_p, .slice none 0 0]) 0 2 ((len0 : Int) + 4)) := ht2_.base ZB0.out
      clear ht_ ht2_
      replace BW : Hid (Below _ _ _) := bstep BW.out hb_
      replace b_s : Hid (BoxF _ _ _ _ _ _) := b_s.out.below hb_
      replace t_s : Hid (Tell _ _ _ _ _ _) := t_s.out.below hb_
      replace ZB0 : Hid (_ ≤ _) := Nat.le_trans ZB0.out (Below.size hb_)
      replace b_g : Hid (BoxF _ _ _ _ _ _) := b_g.out.below hb_
      replace t_g : Hid (Tell _ _ _ _ _ _) := t_g.out.below hb_
      clear hb_
      go_wp2_with fail
      refine (dTwoAt (-53) 1 1 2048 _ (by decide) (by decide) (by decide) (by decide)).mono ?_
      rintro e w6_ ⟨r1x1_v, rfl, ht_, hb_⟩
      obtain ⟨r1x1_n, r1x1_a, r1x1_m, r1x1_c, r1x1_p, rfl, ht2_⟩ := ht_.numform
      have t_r1x1 : Hid (Tell w6_ B0 (.agg #[.bool r1x1_n, .slice r1x1_a r1x1_m r1x1_c, .int .i64 r1x1_p, .slice none 0 0]) 1 1 (2048)) := ht2_.base ZB0.out
      clear ht_ ht2_
      replace BW : Hid (Below _ _ _) := bstep BW.out hb_
      replace b_s : Hid (BoxF _ _ _ _ _ _) := b_s.out.below hb_
      replace t_s : Hid (Tell _ _ _ _ _ _) := t_s.out.below hb_
      replace ZB0 : Hid (_ ≤ _) := Nat.le_trans ZB0.out (Below.size hb_)
      replace b_g : Hid (BoxF _ _ _ _ _ _) := b_g.out.below hb_
      replace t_g : Hid (Tell _ _ _ _ _ _) := t_g.out.below hb_
      replace t_r1x0 : Hid (Tell _ _ _ _ _ _) := t_r1x0.out.below hb_
      clear hb_
      go_wp2_with fail
      refine (dMul _ _ _ B0 0 1 2 1 _ _ t_r1x0.out t_r1x1.out (by omega) (by omega) (by omega) (by omega) (by omega) (by omega)).mono ?_
      rintro e w7_ ⟨e_v, rfl, ht_, hb_⟩
      obtain ⟨e_n, e_a, e_m, e_c, e_p, rfl, ht2_⟩ := ht_.numform
      replace ht2_ := ht2_.base (b' := B0) ZB0.out
      clear ht_
      replace BW : Hid (Below _ _ _) := bstep BW.out hb_
      replace b_s : Hid (BoxF _ _ _ _ _ _) := b_s.out.below hb_
      replace t_s : Hid (Tell _ _ _ _ _ _) := t_s.out.below hb_
      replace ZB0 : Hid (_ ≤ _) := Nat.le_trans ZB0.out (Below.size hb_)
      replace b_g : Hid (BoxF _ _ _ _ _ _) := b_g.out.below hb_
      replace t_g : Hid (Tell _ _ _ _ _ _) := t_g.out.below hb_
      replace t_r1x0 : Hid (Tell _ _ _ _ _ _) := t_r1x0.out.below hb_
      replace t_r1x1 : Hid (Tell _ _ _ _ _ _) := t_r1x1.out.below hb_
      clear hb_
      go_upto_region 23 with fail
      have mB_ := BoxF.made w7_ (.bool e_n) (.slice e_a e_m e_c) (.int .i64 e_p) (.slice none 0 0) 44
      have tB_ := ht2_.alloc (.cells #[.bool e_n, .slice e_a e_m e_c, .int .i64 e_p, .slice none 0 0] 44)
      have b_ := bmore (Below.refl w7_.heap.size w7_) (.cells #[.bool e_n, .slice e_a e_m e_c, .int .i64 e_p, .slice none 0 0] 44)
      clear ht2_
      generalize (w7_.alloc (.cells #[.bool e_n, .slice e_a e_m e_c, .int .i64 e_p, .slice none 0 0] 44)) = w8_ at mB_ b_ tB_ ⊢
      obtain ⟨k_e, hk_e⟩ : ∃ k, k = w7_.heap.size := ⟨_, rfl⟩
      have N_se : Hid (k_s ≠ k_e) := by have := b_s.out.2.2; show _ ≠ _; omega
      have N_ge : Hid (k_g ≠ k_e) := by have := b_g.out.2.2; show _ ≠ _; omega
      rw [← hk_e] at mB_ ⊢
      replace BW : Hid (Below _ _ _) := bstep BW.out b_
      replace b_s : Hid (BoxF _ _ _ _ _ _) := b_s.out.below b_
      replace t_s : Hid (Tell _ _ _ _ _ _) := t_s.out.below b_
      replace ZB0 : Hid (_ ≤ _) := Nat.le_trans ZB0.out (Below.size b_)
      replace b_g : Hid (BoxF _ _ _ _ _ _) := b_g.out.below b_
      replace t_g : Hid (Tell _ _ _ _ _ _) := t_g.out.below b_
      replace t_r1x0 : Hid (Tell _ _ _ _ _ _) := t_r1x0.out.below b_
      replace t_r1x1 : Hid (Tell _ _ _ _ _ _) := t_r1x1.out.below b_
      have b_e : Hid (BoxF w8_ k_e (.bool e_n) (.slice e_a e_m e_c) (.int .i64 e_p) (.slice none 0 0)) := mB_
      have t_e : Hid (Tell w8_ B0 (.agg #[.bool e_n, .slice e_a e_m e_c, .int .i64 e_p, .slice none 0 0]) 1 3 (((len0 : Int) + 4) * 2048)) := tB_
      clear mB_ b_ tB_ hk_e
      clear t_r1x0 t_r1x1
      obtain ⟨⟨b_e_0, b_e_1, b_e_2, b_e_3⟩, ⟨b_e_5, b_e_6, b_e_7, b_e_8⟩, b_e_4⟩ := b_e.out
      go_wp2_with fail
      clear b_e_0 b_e_1 b_e_2 b_e_3 b_e_4 b_e_5 b_e_6 b_e_7 b_e_8
      go_cut [15] (fun t wx => ∃ (k_lo : Nat) (lo_n : Bool) (lo_a : Option Addr) (lo_m lo_c : Nat) (lo_p : Int), t = .pointer (some ⟨k_lo, 0, none⟩) ∧ Hid (k_s ≠ k_lo) ∧ Hid (k_g ≠ k_lo) ∧ Hid (k_e ≠ k_lo) ∧ Hid (BoxF wx k_lo (.bool lo_n) (.slice lo_a lo_m lo_c) (.int .i64 lo_p) (.slice none 0 0)) ∧ Hid (Tell wx B0 (.agg #[.bool lo_n, .slice lo_a lo_m lo_c, .int .i64 lo_p, .slice none 0 0]) 1 4 (18446744073709551616 - ((len0 : Int) + 4) * 2048)) ∧ Hid (Below w.heap.size w wx) ∧ Hid (BoxF wx k_s (.bool s_n) (.slice s_a s_m s_c) (.int .i64 s_p) (.slice none 0 0)) ∧ Hid (Tell wx B0 (.agg #[.bool s_n, .slice s_a s_m s_c, .int .i64 s_p, .slice none 0 0]) 34 (34 + (len0 : Int)) (((sqs (fun i => V (mag (X i))) len0 : Nat) : Int) * 268435456)) ∧ Hid (B0 ≤ wx.heap.size) ∧ Hid (BoxF wx k_g (.bool g_n) (.slice g_a g_m g_c) (.int .i64 g_p) (.slice none 0 0)) ∧ Hid (Tell wx B0 (.agg #[.bool g_n, .slice g_a g_m g_c, .int .i64 g_p, .slice none 0 0]) 17 17 (xv r)) ∧ Hid (BoxF wx k_e (.bool e_n) (.slice e_a e_m e_c) (.int .i64 e_p) (.slice none 0 0)) ∧ Hid (Tell wx B0 (.agg #[.bool e_n, .slice e_a e_m e_c, .int .i64 e_p, .slice none 0 0]) 1 3 (((len0 : Int) + 4) * 2048)))
      case first =>
        have HBa : Hid (Below w8_.heap.size w8_ w8_) := Below.refl _ _
        have dh : ∀ w : World, w.drew.heap = w.heap := fun _ => rfl
        have ct : Cnt 1 := Cnt.mk _
        go_region_held3 (fun w' => (w'.cell? ⟨k_e, 0, none⟩ = some (.bool e_n) ∧ w'.cell? ⟨k_e, 1, none⟩ = some (.slice e_a e_m e_c) ∧ w'.cell? ⟨k_e, 2, none⟩ = some (.int .i64 e_p) ∧ w'.cell? ⟨k_e, 3, none⟩ = some (.slice none 0 0))) (exact (b_e.out.below (by with_reducible repeat (first | (refine Below.drew ?_) | (refine bmore ?_ _) | (refine Below.setCell ?_ (by first | omega | (simp [dh] <;> omega)) _) | exact HBa.out | exact Below.refl _ _))).cells) (first | (have ck : Cnt 1 := ct; go_at_call 30; refine (dInt 1 _ (by omega) (by omega)).mono ?_; rintro e Wq0_ ⟨r2x0_v, rfl, ht_, hb_⟩; obtain ⟨r2x0_n, r2x0_a, r2x0_m, r2x0_c, r2x0_p, rfl, ht2_⟩ := ht_.numform; clear ht_; obtain ⟨pc0, pf0⟩ := bcell hb_; have hr0 : ∀ b, b < _ → b < Wq0_.heap.size := (fun b h => Nat.lt_of_lt_of_le h hb_.size); have hq0 := hb_.size; (try simp [dh] at hq0); have hbt_ : Below w8_.heap.size w8_ Wq0_ := bstep (by with_reducible repeat (first | (refine Below.drew ?_) | (refine bmore ?_ _) | (refine Below.setCell ?_ (by first | omega | (simp [dh] <;> omega)) _) | exact (Below.refl _ _) | exact Below.refl _ _)) hb_; have t_r2x0 : Hid (Tell Wq0_ B0 (.agg #[.bool r2x0_n, .slice r2x0_a r2x0_m r2x0_c, .int .i64 r2x0_p, .slice none 0 0]) 0 2 (1)) := ht2_.base (Nat.le_trans ZB0.out (Below.size (B := w8_.heap.size) (by with_reducible repeat (first | (refine Below.drew ?_) | (refine bmore ?_ _) | (refine Below.setCell ?_ (by first | omega | (simp [dh] <;> omega)) _) | exact HBa.out | exact Below.refl _ _)))); clear ht2_; replace HBa : Hid (Below w8_.heap.size w8_ Wq0_) := bstep HBa.out hbt_; have hsz0 := HBa.out.size; replace ct : Cnt 2 := Cnt.mk _; clear hb_ hbt_ ck) | (have ck : Cnt 2 := ct; go_at_call 50; refine (dSub _ _ _ B0 1 3 _ _ (((t_r2x0.out.below (by with_reducible repeat (first | (refine Below.drew ?_) | (refine bmore ?_ _) | (refine Below.setCell ?_ (by first | omega | (simp [dh] <;> omega)) _) | exact (Below.refl _ _) | exact Below.refl _ _))).up 1 3 (by omega) (by omega)).eq (show (1 : Int) * pw (1 - 0) = 18446744073709551616 by decide)) (t_e.out.below (by with_reducible repeat (first | (refine Below.drew ?_) | (refine bmore ?_ _) | (refine Below.setCell ?_ (by first | omega | (simp [dh] <;> omega)) _) | exact HBa.out | exact Below.refl _ _))) (by omega) (by omega) (by omega)).mono ?_; rintro e Wq1_ ⟨r2x1_v, rfl, ht_, hb_⟩; obtain ⟨r2x1_n, r2x1_a, r2x1_m, r2x1_c, r2x1_p, rfl, ht2_⟩ := ht_.numform; clear ht_; obtain ⟨pc1, pf1⟩ := bcell hb_; have hr1 : ∀ b, b < _ → b < Wq1_.heap.size := (fun b h => Nat.lt_of_lt_of_le h hb_.size); have hq1 := hb_.size; (try simp [dh] at hq1); have hbt_ : Below Wq0_.heap.size Wq0_ Wq1_ := bstep (by with_reducible repeat (first | (refine Below.drew ?_) | (refine bmore ?_ _) | (refine Below.setCell ?_ (by first | omega | (simp [dh] <;> omega)) _) | exact (Below.refl _ _) | exact Below.refl _ _)) hb_; obtain ⟨Br_, hBr_, t_r2x1⟩ := tell_base ht2_; have hBq_ : w8_.heap.size ≤ Br_ := (by rw [hBr_]; exact Below.size (B := w8_.heap.size) (by with_reducible repeat (first | (refine Below.drew ?_) | (refine bmore ?_ _) | (refine Below.setCell ?_ (by first | omega | (simp [dh] <;> omega)) _) | exact HBa.out | exact Below.refl _ _))); (try simp [dh] at hBr_); clear ht2_; replace t_r2x1 : Tell Wq1_ Br_ (.agg #[.bool r2x1_n, .slice r2x1_a r2x1_m r2x1_c, .int .i64 r2x1_p, .slice none 0 0]) 1 4 (18446744073709551616 - ((len0 : Int) + 4) * 2048) := t_r2x1; replace t_r2x0 : Hid (Tell _ _ _ _ _ _) := t_r2x0.out.below hbt_; replace HBa : Hid (Below w8_.heap.size w8_ Wq1_) := bstep HBa.out hbt_; have hsz1 := HBa.out.size; replace ct : Cnt 3 := Cnt.mk _; clear hb_ hbt_ ck))
        all_goals
          go_wp2
          go_meet
          refine ⟨_, r2x1_n, r2x1_a, r2x1_m, r2x1_c, r2x1_p, rfl, (by have := b_s.out.2.2; show _ ≠ _; first | omega | (simp [dh] <;> omega)), (by have := b_g.out.2.2; show _ ≠ _; first | omega | (simp [dh] <;> omega)), (by have := b_e.out.2.2; show _ ≠ _; first | omega | (simp [dh] <;> omega)), (by show BoxF _ _ _ _ _ _; first | (with_reducible exact BoxF.made _ _ _ _ _ _) | (with_reducible refine BoxF.four ?_ ?_ ?_ ?_ ?_ ?_ ?_ ?_ ?_) <;> (first | (simp [go_sem, pc0, pf0, hr0, pc1, pf1, hr1]; done) | (simp [dh]; omega) | omega)), (by show Tell _ _ _ _ _ _; refine Tell.base (b := Br_) ?_ (Nat.le_trans ZB0.out hBq_); with_reducible repeat (first | exact t_r2x1 | (refine Tell.drew ?_) | (refine Tell.alloc ?_ _) | (refine Tell.set ?_ (by first | omega | (simp [dh] <;> omega)) _))), bstep BW.out (by with_reducible repeat (first | (refine Below.drew ?_) | (refine bmore ?_ _) | (refine Below.setCell ?_ (by first | omega | (simp [dh] <;> omega)) _) | exact HBa.out | exact Below.refl _ _)), b_s.out.below (by with_reducible repeat (first | (refine Below.drew ?_) | (refine bmore ?_ _) | (refine Below.setCell ?_ (by first | omega | (simp [dh] <;> omega)) _) | exact HBa.out | exact Below.refl _ _)), t_s.out.below (by with_reducible repeat (first | (refine Below.drew ?_) | (refine bmore ?_ _) | (refine Below.setCell ?_ (by first | omega | (simp [dh] <;> omega)) _) | exact HBa.out | exact Below.refl _ _)), Nat.le_trans ZB0.out (Below.size (B := w8_.heap.size) (by with_reducible repeat (first | (refine Below.drew ?_) | (refine bmore ?_ _) | (refine Below.setCell ?_ (by first | omega | (simp [dh] <;> omega)) _) | exact HBa.out | exact Below.refl _ _))), b_g.out.below (by with_reducible repeat (first | (refine Below.drew ?_) | (refine bmore ?_ _) | (refine Below.setCell ?_ (by first | omega | (simp [dh] <;> omega)) _) | exact HBa.out | exact Below.refl _ _)), t_g.out.below (by with_reducible repeat (first | (refine Below.drew ?_) | (refine bmore ?_ _) | (refine Below.setCell ?_ (by first | omega | (simp [dh] <;> omega)) _) | exact HBa.out | exact Below.refl _ _)), b_e.out.below (by with_reducible repeat (first | (refine Below.drew ?_) | (refine bmore ?_ _) | (refine Below.setCell ?_ (by first | omega | (simp [dh] <;> omega)) _) | exact HBa.out | exact Below.refl _ _)), t_e.out.below (by with_reducible repeat (first | (refine Below.drew ?_) | (refine bmore ?_ _) | (refine Below.setCell ?_ (by first | omega | (simp [dh] <;> omega)) _) | exact HBa.out | exact Below.refl _ _))⟩
      case rest =>
        clear BW b_s t_s ZB0 b_g t_g b_e t_e
        obtain ⟨k_lo, lo_n, lo_a, lo_m, lo_c, lo_p, rfl, N_slo, N_glo, N_elo, b_lo, t_lo, BW, b_s, t_s, ZB0, b_g, t_g, b_e, t_e⟩ := hcut
        obtain ⟨w9_, rfl⟩ : ∃ x, x = wc := ⟨wc, rfl⟩
        obtain ⟨⟨b_e_0, b_e_1, b_e_2, b_e_3⟩, ⟨b_e_5, b_e_6, b_e_7, b_e_8⟩, b_e_4⟩ := b_e.out
        go_wp2_with fail
        clear b_e_0 b_e_1 b_e_2 b_e_3 b_e_4 b_e_5 b_e_6 b_e_7 b_e_8
        go_cut [16] (fun t wx => ∃ (k_hi : Nat) (hi_n : Bool) (hi_a : Option Addr) (hi_m hi_c : Nat) (hi_p : Int), t = .pointer (some ⟨k_hi, 0, none⟩) ∧ Hid (k_s ≠ k_hi) ∧ Hid (k_g ≠ k_hi) ∧ Hid (k_e ≠ k_hi) ∧ Hid (k_lo ≠ k_hi) ∧ Hid (BoxF wx k_hi (.bool hi_n) (.slice hi_a hi_m hi_c) (.int .i64 hi_p) (.slice none 0 0)) ∧ Hid (Tell wx B0 (.agg #[.bool hi_n, .slice hi_a hi_m hi_c, .int .i64 hi_p, .slice none 0 0]) 1 4 (18446744073709551616 + ((len0 : Int) + 4) * 2048)) ∧ Hid (Below w.heap.size w wx) ∧ Hid (BoxF wx k_s (.bool s_n) (.slice s_a s_m s_c) (.int .i64 s_p) (.slice none 0 0)) ∧ Hid (Tell wx B0 (.agg #[.bool s_n, .slice s_a s_m s_c, .int .i64 s_p, .slice none 0 0]) 34 (34 + (len0 : Int)) (((sqs (fun i => V (mag (X i))) len0 : Nat) : Int) * 268435456)) ∧ Hid (B0 ≤ wx.heap.size) ∧ Hid (BoxF wx k_g (.bool g_n) (.slice g_a g_m g_c) (.int .i64 g_p) (.slice none 0 0)) ∧ Hid (Tell wx B0 (.agg #[.bool g_n, .slice g_a g_m g_c, .int .i64 g_p, .slice none 0 0]) 17 17 (xv r)) ∧ Hid (BoxF wx k_e (.bool e_n) (.slice e_a e_m e_c) (.int .i64 e_p) (.slice none 0 0)) ∧ Hid (Tell wx B0 (.agg #[.bool e_n, .slice e_a e_m e_c, .int .i64 e_p, .slice none 0 0]) 1 3 (((len0 : Int) + 4) * 2048)) ∧ Hid (BoxF wx k_lo (.bool lo_n) (.slice lo_a lo_m lo_c) (.int .i64 lo_p) (.slice none 0 0)) ∧ Hid (Tell wx B0 (.agg #[.bool lo_n, .slice lo_a lo_m lo_c, .int .i64 lo_p, .slice none 0 0]) 1 4 (18446744073709551616 - ((len0 : Int) + 4) * 2048)))
        case first =>
          have HBa : Hid (Below w9_.heap.size w9_ w9_) := Below.refl _ _
          have dh : ∀ w : World, w.drew.heap = w.heap := fun _ => rfl
          have ct : Cnt 1 := Cnt.mk _
          go_region_held3 (fun w' => (w'.cell? ⟨k_e, 0, none⟩ = some (.bool e_n) ∧ w'.cell? ⟨k_e, 1, none⟩ = some (.slice e_a e_m e_c) ∧ w'.cell? ⟨k_e, 2, none⟩ = some (.int .i64 e_p) ∧ w'.cell? ⟨k_e, 3, none⟩ = some (.slice none 0 0))) (exact (b_e.out.below (by with_reducible repeat (first | (refine Below.drew ?_) | (refine bmore ?_ _) | (refine Below.setCell ?_ (by first | omega | (simp [dh] <;> omega)) _) | exact HBa.out | exact Below.refl _ _))).cells) (first | (have ck : Cnt 1 := ct; go_at_call 30; refine (dInt 1 _ (by omega) (by omega)).mono ?_; rintro e Wq0_ ⟨r3x0_v, rfl, ht_, hb_⟩; obtain ⟨r3x0_n, r3x0_a, r3x0_m, r3x0_c, r3x0_p, rfl, ht2_⟩ := ht_.numform; clear ht_; obtain ⟨pc0, pf0⟩ := bcell hb_; have hr0 : ∀ b, b < _ → b < Wq0_.heap.size := (fun b h => Nat.lt_of_lt_of_le h hb_.size); have hq0 := hb_.size; (try simp [dh] at hq0); have hbt_ : Below w9_.heap.size w9_ Wq0_ := bstep (by with_reducible repeat (first | (refine Below.drew ?_) | (refine bmore ?_ _) | (refine Below.setCell ?_ (by first | omega | (simp [dh] <;> omega)) _) | exact (Below.refl _ _) | exact Below.refl _ _)) hb_; have t_r3x0 : Hid (Tell Wq0_ B0 (.agg #[.bool r3x0_n, .slice r3x0_a r3x0_m r3x0_c, .int .i64 r3x0_p, .slice none 0 0]) 0 2 (1)) := ht2_.base (Nat.le_trans ZB0.out (Below.size (B := w9_.heap.size) (by with_reducible repeat (first | (refine Below.drew ?_) | (refine bmore ?_ _) | (refine Below.setCell ?_ (by first | omega | (simp [dh] <;> omega)) _) | exact HBa.out | exact Below.refl _ _)))); clear ht2_; replace HBa : Hid (Below w9_.heap.size w9_ Wq0_) := bstep HBa.out hbt_; have hsz0 := HBa.out.size; replace ct : Cnt 2 := Cnt.mk _; clear hb_ hbt_ ck) | (have ck : Cnt 2 := ct; go_at_call 31; refine (dAdd _ _ _ B0 1 3 _ _ (((t_r3x0.out.below (by with_reducible repeat (first | (refine Below.drew ?_) | (refine bmore ?_ _) | (refine Below.setCell ?_ (by first | omega | (simp [dh] <;> omega)) _) | exact (Below.refl _ _) | exact Below.refl _ _))).up 1 3 (by omega) (by omega)).eq (show (1 : Int) * pw (1 - 0) = 18446744073709551616 by decide)) (t_e.out.below (by with_reducible repeat (first | (refine Below.drew ?_) | (refine bmore ?_ _) | (refine Below.setCell ?_ (by first | omega | (simp [dh] <;> omega)) _) | exact HBa.out | exact Below.refl _ _))) (by omega) (by omega) (by omega)).mono ?_; rintro e Wq1_ ⟨r3x1_v, rfl, ht_, hb_⟩; obtain ⟨r3x1_n, r3x1_a, r3x1_m, r3x1_c, r3x1_p, rfl, ht2_⟩ := ht_.numform; clear ht_; obtain ⟨pc1, pf1⟩ := bcell hb_; have hr1 : ∀ b, b < _ → b < Wq1_.heap.size := (fun b h => Nat.lt_of_lt_of_le h hb_.size); have hq1 := hb_.size; (try simp [dh] at hq1); have hbt_ : Below Wq0_.heap.size Wq0_ Wq1_ := bstep (by with_reducible repeat (first | (refine Below.drew ?_) | (refine bmore ?_ _) | (refine Below.setCell ?_ (by first | omega | (simp [dh] <;> omega)) _) | exact (Below.refl _ _) | exact Below.refl _ _)) hb_; obtain ⟨Br_, hBr_, t_r3x1⟩ := tell_base ht2_; have hBq_ : w9_.heap.size ≤ Br_ := (by rw [hBr_]; exact Below.size (B := w9_.heap.size) (by with_reducible repeat (first | (refine Below.drew ?_) | (refine bmore ?_ _) | (refine Below.setCell ?_ (by first | omega | (simp [dh] <;> omega)) _) | exact HBa.out | exact Below.refl _ _))); (try simp [dh] at hBr_); clear ht2_; replace t_r3x1 : Tell Wq1_ Br_ (.agg #[.bool r3x1_n, .slice r3x1_a r3x1_m r3x1_c, .int .i64 r3x1_p, .slice none 0 0]) 1 4 (18446744073709551616 + ((len0 : Int) + 4) * 2048) := t_r3x1; replace t_r3x0 : Hid (Tell _ _ _ _ _ _) := t_r3x0.out.below hbt_; replace HBa : Hid (Below w9_.heap.size w9_ Wq1_) := bstep HBa.out hbt_; have hsz1 := HBa.out.size; replace ct : Cnt 3 := Cnt.mk _; clear hb_ hbt_ ck))
          all_goals
            go_wp2
            go_meet
            refine ⟨_, r3x1_n, r3x1_a, r3x1_m, r3x1_c, r3x1_p, rfl, (by have := b_s.out.2.2; show _ ≠ _; first | omega | (simp [dh] <;> omega)), (by have := b_g.out.2.2; show _ ≠ _; first | omega | (simp [dh] <;> omega)), (by have := b_e.out.2.2; show _ ≠ _; first | omega | (simp [dh] <;> omega)), (by have := b_lo.out.2.2; show _ ≠ _; first | omega | (simp [dh] <;> omega)), (by show BoxF _ _ _ _ _ _; first | (with_reducible exact BoxF.made _ _ _ _ _ _) | (with_reducible refine BoxF.four ?_ ?_ ?_ ?_ ?_ ?_ ?_ ?_ ?_) <;> (first | (simp [go_sem, pc0, pf0, hr0, pc1, pf1, hr1]; done) | (simp [dh]; omega) | omega)), (by show Tell _ _ _ _ _ _; refine Tell.base (b := Br_) ?_ (Nat.le_trans ZB0.out hBq_); with_reducible repeat (first | exact t_r3x1 | (refine Tell.drew ?_) | (refine Tell.alloc ?_ _) | (refine Tell.set ?_ (by first | omega | (simp [dh] <;> omega)) _))), bstep BW.out (by with_reducible repeat (first | (refine Below.drew ?_) | (refine bmore ?_ _) | (refine Below.setCell ?_ (by first | omega | (simp [dh] <;> omega)) _) | exact HBa.out | exact Below.refl _ _)), b_s.out.below (by with_reducible repeat (first | (refine Below.drew ?_) | (refine bmore ?_ _) | (refine Below.setCell ?_ (by first | omega | (simp [dh] <;> omega)) _) | exact HBa.out | exact Below.refl _ _)), t_s.out.below (by with_reducible repeat (first | (refine Below.drew ?_) | (refine bmore ?_ _) | (refine Below.setCell ?_ (by first | omega | (simp [dh] <;> omega)) _) | exact HBa.out | exact Below.refl _ _)), Nat.le_trans ZB0.out (Below.size (B := w9_.heap.size) (by with_reducible repeat (first | (refine Below.drew ?_) | (refine bmore ?_ _) | (refine Below.setCell ?_ (by first | omega | (simp [dh] <;> omega)) _) | exact HBa.out | exact Below.refl _ _))), b_g.out.below (by with_reducible repeat (first | (refine Below.drew ?_) | (refine bmore ?_ _) | (refine Below.setCell ?_ (by first | omega | (simp [dh] <;> omega)) _) | exact HBa.out | exact Below.refl _ _)), t_g.out.below (by with_reducible repeat (first | (refine Below.drew ?_) | (refine bmore ?_ _) | (refine Below.setCell ?_ (by first | omega | (simp [dh] <;> omega)) _) | exact HBa.out | exact Below.refl _ _)), b_e.out.below (by with_reducible repeat (first | (refine Below.drew ?_) | (refine bmore ?_ _) | (refine Below.setCell ?_ (by first | omega | (simp [dh] <;> omega)) _) | exact HBa.out | exact Below.refl _ _)), t_e.out.below (by with_reducible repeat (first | (refine Below.drew ?_) | (refine bmore ?_ _) | (refine Below.setCell ?_ (by first | omega | (simp [dh] <;> omega)) _) | exact HBa.out | exact Below.refl _ _)), b_lo.out.below (by with_reducible repeat (first | (refine Below.drew ?_) | (refine bmore ?_ _) | (refine Below.setCell ?_ (by first | omega | (simp [dh] <;> omega)) _) | exact HBa.out | exact Below.refl _ _)), t_lo.out.below (by with_reducible repeat (first | (refine Below.drew ?_) | (refine bmore ?_ _) | (refine Below.setCell ?_ (by first | omega | (simp [dh] <;> omega)) _) | exact HBa.out | exact Below.refl _ _))⟩
        case rest =>
          clear BW b_s t_s ZB0 b_g t_g b_e t_e b_lo t_lo
          obtain ⟨k_hi, hi_n, hi_a, hi_m, hi_c, hi_p, rfl, N_shi, N_ghi, N_ehi, N_lohi, b_hi, t_hi, BW, b_s, t_s, ZB0, b_g, t_g, b_e, t_e, b_lo, t_lo⟩ := hcut
          obtain ⟨w10_, rfl⟩ : ∃ x, x = wc := ⟨wc, rfl⟩
          obtain ⟨⟨b_g_0, b_g_1, b_g_2, b_g_3⟩, ⟨b_g_5, b_g_6, b_g_7, b_g_8⟩, b_g_4⟩ := b_g.out
          go_wp2_with fail
          refine (dMul _ _ _ B0 17 17 17 17 _ _ t_g.out t_g.out (by omega) (by omega) (by omega) (by omega) (by omega) (by omega)).mono ?_
          rintro e w11_ ⟨q_v, rfl, ht_, hb_⟩
          obtain ⟨q_n, q_a, q_m, q_c, q_p, rfl, ht2_⟩ := ht_.numform
          replace ht2_ := ht2_.base (b' := B0) ZB0.out
          clear ht_
          clear b_g_0 b_g_1 b_g_2 b_g_3 b_g_4 b_g_5 b_g_6 b_g_7 b_g_8
          replace BW : Hid (Below _ _ _) := bstep BW.out hb_
          replace b_s : Hid (BoxF _ _ _ _ _ _) := b_s.out.below hb_
          replace t_s : Hid (Tell _ _ _ _ _ _) := t_s.out.below hb_
          replace ZB0 : Hid (_ ≤ _) := Nat.le_trans ZB0.out (Below.size hb_)
          replace b_g : Hid (BoxF _ _ _ _ _ _) := b_g.out.below hb_
          replace t_g : Hid (Tell _ _ _ _ _ _) := t_g.out.below hb_
          replace b_e : Hid (BoxF _ _ _ _ _ _) := b_e.out.below hb_
          replace t_e : Hid (Tell _ _ _ _ _ _) := t_e.out.below hb_
          replace b_lo : Hid (BoxF _ _ _ _ _ _) := b_lo.out.below hb_
          replace t_lo : Hid (Tell _ _ _ _ _ _) := t_lo.out.below hb_
          replace b_hi : Hid (BoxF _ _ _ _ _ _) := b_hi.out.below hb_
          replace t_hi : Hid (Tell _ _ _ _ _ _) := t_hi.out.below hb_
          clear hb_
          go_upto_region 26 with fail
          have mB_ := BoxF.made w11_ (.bool q_n) (.slice q_a q_m q_c) (.int .i64 q_p) (.slice none 0 0) 44
          have tB_ := ht2_.alloc (.cells #[.bool q_n, .slice q_a q_m q_c, .int .i64 q_p, .slice none 0 0] 44)
          have b_ := bmore (Below.refl w11_.heap.size w11_) (.cells #[.bool q_n, .slice q_a q_m q_c, .int .i64 q_p, .slice none 0 0] 44)
          clear ht2_
          generalize (w11_.alloc (.cells #[.bool q_n, .slice q_a q_m q_c, .int .i64 q_p, .slice none 0 0] 44)) = w12_ at mB_ b_ tB_ ⊢
          obtain ⟨k_q, hk_q⟩ : ∃ k, k = w11_.heap.size := ⟨_, rfl⟩
          have N_sq : Hid (k_s ≠ k_q) := by have := b_s.out.2.2; show _ ≠ _; omega
          have N_gq : Hid (k_g ≠ k_q) := by have := b_g.out.2.2; show _ ≠ _; omega
          have N_eq : Hid (k_e ≠ k_q) := by have := b_e.out.2.2; show _ ≠ _; omega
          have N_loq : Hid (k_lo ≠ k_q) := by have := b_lo.out.2.2; show _ ≠ _; omega
          have N_hiq : Hid (k_hi ≠ k_q) := by have := b_hi.out.2.2; show _ ≠ _; omega
          rw [← hk_q] at mB_ ⊢
          replace BW : Hid (Below _ _ _) := bstep BW.out b_
          replace b_s : Hid (BoxF _ _ _ _ _ _) := b_s.out.below b_
          replace t_s : Hid (Tell _ _ _ _ _ _) := t_s.out.below b_
          replace ZB0 : Hid (_ ≤ _) := Nat.le_trans ZB0.out (Below.size b_)
          replace b_g : Hid (BoxF _ _ _ _ _ _) := b_g.out.below b_
          replace t_g : Hid (Tell _ _ _ _ _ _) := t_g.out.below b_
          replace b_e : Hid (BoxF _ _ _ _ _ _) := b_e.out.below b_
          replace t_e : Hid (Tell _ _ _ _ _ _) := t_e.out.below b_
          replace b_lo : Hid (BoxF _ _ _ _ _ _) := b_lo.out.below b_
          replace t_lo : Hid (Tell _ _ _ _ _ _) := t_lo.out.below b_
          replace b_hi : Hid (BoxF _ _ _ _ _ _) := b_hi.out.below b_
          replace t_hi : Hid (Tell _ _ _ _ _ _) := t_hi.out.below b_
          have b_q : Hid (BoxF w12_ k_q (.bool q_n) (.slice q_a q_m q_c) (.int .i64 q_p) (.slice none 0 0)) := mB_
          have t_q : Hid (Tell w12_ B0 (.agg #[.bool q_n, .slice q_a q_m q_c, .int .i64 q_p, .slice none 0 0]) 34 34 (xv r * xv r)) := tB_
          clear mB_ b_ tB_ hk_q
          have hsq := xv_sq r FD_.out
          obtain ⟨ca, hca⟩ : ∃ c, cmpZ (xv r * xv r * pw (36 - 34)) (((sqs (fun i => V (mag (X i))) len0 : Nat) : Int) * 268435456 * (18446744073709551616 - ((len0 : Int) + 4) * 2048) * (18446744073709551616 - ((len0 : Int) + 4) * 2048)) = c := ⟨_, rfl⟩
          obtain ⟨cb, hcb⟩ : ∃ c, cmpZ (xv r * xv r * pw (36 - 34)) (((sqs (fun i => V (mag (X i))) len0 : Nat) : Int) * 268435456 * (18446744073709551616 + ((len0 : Int) + 4) * 2048) * (18446744073709551616 + ((len0 : Int) + 4) * 2048)) = c := ⟨_, rfl⟩
          have hca0 : 0 ≤ ca := by
            rw [← hca]
            exact cmp_nonneg _ _ (norms_lo _ _ _ _ hsq (by omega) HLO.out)
          have hcb0 : cb ≤ 0 := by
            rw [← hcb]
            exact cmp_nonpos _ _ (norms_hi _ _ _ _ hsq HHI.out)
          have HCA : Hid (_ = _) := hca
          have HCB : Hid (_ = _) := hcb
          clear hca hcb hsq
          obtain ⟨⟨b_q_0, b_q_1, b_q_2, b_q_3⟩, ⟨b_q_5, b_q_6, b_q_7, b_q_8⟩, b_q_4⟩ := b_q.out
          obtain ⟨⟨b_s_0, b_s_1, b_s_2, b_s_3⟩, ⟨b_s_5, b_s_6, b_s_7, b_s_8⟩, b_s_4⟩ := b_s.out
          obtain ⟨⟨b_lo_0, b_lo_1, b_lo_2, b_lo_3⟩, ⟨b_lo_5, b_lo_6, b_lo_7, b_lo_8⟩, b_lo_4⟩ := b_lo.out
          obtain ⟨⟨b_hi_0, b_hi_1, b_hi_2, b_hi_3⟩, ⟨b_hi_5, b_hi_6, b_hi_7, b_hi_8⟩, b_hi_4⟩ := b_hi.out
          go_wp2_with fail
          clear b_q_0 b_q_1 b_q_2 b_q_3 b_q_4 b_q_5 b_q_6 b_q_7 b_q_8 b_s_0 b_s_1 b_s_2 b_s_3 b_s_4 b_s_5 b_s_6 b_s_7 b_s_8 b_lo_0 b_lo_1 b_lo_2 b_lo_3 b_lo_4 b_lo_5 b_lo_6 b_lo_7 b_lo_8 b_hi_0 b_hi_1 b_hi_2 b_hi_3 b_hi_4 b_hi_5 b_hi_6 b_hi_7 b_hi_8
          have ct : Cnt 1 := Cnt.mk _
          have HBa : Hid (Below w12_.heap.size w12_ w12_) := Below.refl _ _
          go_region_held3 (fun w' => (w'.cell? ⟨k_q, 0, none⟩ = some (.bool q_n) ∧ w'.cell? ⟨k_q, 1, none⟩ = some (.slice q_a q_m q_c) ∧ w'.cell? ⟨k_q, 2, none⟩ = some (.int .i64 q_p) ∧ w'.cell? ⟨k_q, 3, none⟩ = some (.slice none 0 0)) ∧ (w'.cell? ⟨k_s, 0, none⟩ = some (.bool s_n) ∧ w'.cell? ⟨k_s, 1, none⟩ = some (.slice s_a s_m s_c) ∧ w'.cell? ⟨k_s, 2, none⟩ = some (.int .i64 s_p) ∧ w'.cell? ⟨k_s, 3, none⟩ = some (.slice none 0 0)) ∧ (w'.cell? ⟨k_lo, 0, none⟩ = some (.bool lo_n) ∧ w'.cell? ⟨k_lo, 1, none⟩ = some (.slice lo_a lo_m lo_c) ∧ w'.cell? ⟨k_lo, 2, none⟩ = some (.int .i64 lo_p) ∧ w'.cell? ⟨k_lo, 3, none⟩ = some (.slice none 0 0)) ∧ (w'.cell? ⟨k_hi, 0, none⟩ = some (.bool hi_n) ∧ w'.cell? ⟨k_hi, 1, none⟩ = some (.slice hi_a hi_m hi_c) ∧ w'.cell? ⟨k_hi, 2, none⟩ = some (.int .i64 hi_p) ∧ w'.cell? ⟨k_hi, 3, none⟩ = some (.slice none 0 0))) (exact ⟨(b_q.out.below (by with_reducible repeat (first | (refine Below.drew ?_) | (refine bmore ?_ _) | exact HBa.out | exact Below.refl _ _))).cells, (b_s.out.below (by with_reducible repeat (first | (refine Below.drew ?_) | (refine bmore ?_ _) | exact HBa.out | exact Below.refl _ _))).cells, (b_lo.out.below (by with_reducible repeat (first | (refine Below.drew ?_) | (refine bmore ?_ _) | exact HBa.out | exact Below.refl _ _))).cells, (b_hi.out.below (by with_reducible repeat (first | (refine Below.drew ?_) | (refine bmore ?_ _) | exact HBa.out | exact Below.refl _ _))).cells⟩) (first | (have ck : Cnt 1 := ct; go_at_call 32; refine (dMul _ _ _ B0 34 1 (34 + (len0 : Int)) 4 _ _ (t_s.out.below (by with_reducible repeat (first | (refine Below.drew ?_) | (refine bmore ?_ _) | exact HBa.out | exact Below.refl _ _))) (t_lo.out.below (by with_reducible repeat (first | (refine Below.drew ?_) | (refine bmore ?_ _) | exact HBa.out | exact Below.refl _ _))) (by omega) (by omega) (by omega) (by omega) (by omega) (by omega)).mono ?_; rintro e Wq0_ ⟨r5x0_v, rfl, ht_, hb_⟩; obtain ⟨r5x0_n, r5x0_a, r5x0_m, r5x0_c, r5x0_p, rfl, ht2_⟩ := ht_.numform; clear ht_; have hbt_ : Below w12_.heap.size w12_ Wq0_ := bstep (by with_reducible repeat (first | (refine Below.drew ?_) | (refine bmore ?_ _) | exact (Below.refl _ _) | exact Below.refl _ _)) hb_; have t_r5x0 : Hid (Tell Wq0_ B0 (.agg #[.bool r5x0_n, .slice r5x0_a r5x0_m r5x0_c, .int .i64 r5x0_p, .slice none 0 0]) 35 ((34 + (len0 : Int)) + 4) (((sqs (fun i => V (mag (X i))) len0 : Nat) : Int) * 268435456 * (18446744073709551616 - ((len0 : Int) + 4) * 2048))) := ht2_.base (Nat.le_trans ZB0.out (Below.size (B := w12_.heap.size) (by with_reducible repeat (first | (refine Below.drew ?_) | (refine bmore ?_ _) | exact HBa.out | exact Below.refl _ _)))); clear ht2_; replace HBa : Hid (Below w12_.heap.size w12_ Wq0_) := bstep HBa.out hbt_; replace ct : Cnt 2 := Cnt.mk _; clear hb_ hbt_ ck) | (have ck : Cnt 2 := ct; go_at_call 32; refine (dMul _ _ _ B0 35 1 ((34 + (len0 : Int)) + 4) 4 _ _ (t_r5x0.out.below (by with_reducible repeat (first | (refine Below.drew ?_) | (refine bmore ?_ _) | exact (Below.refl _ _) | exact Below.refl _ _))) (t_lo.out.below (by with_reducible repeat (first | (refine Below.drew ?_) | (refine bmore ?_ _) | exact HBa.out | exact Below.refl _ _))) (by omega) (by omega) (by omega) (by omega) (by omega) (by omega)).mono ?_; rintro e Wq1_ ⟨r5x1_v, rfl, ht_, hb_⟩; obtain ⟨r5x1_n, r5x1_a, r5x1_m, r5x1_c, r5x1_p, rfl, ht2_⟩ := ht_.numform; clear ht_; have hbt_ : Below Wq0_.heap.size Wq0_ Wq1_ := bstep (by with_reducible repeat (first | (refine Below.drew ?_) | (refine bmore ?_ _) | exact (Below.refl _ _) | exact Below.refl _ _)) hb_; have t_r5x1 : Hid (Tell Wq1_ B0 (.agg #[.bool r5x1_n, .slice r5x1_a r5x1_m r5x1_c, .int .i64 r5x1_p, .slice none 0 0]) 36 ((34 + (len0 : Int)) + 4 + 4) (((sqs (fun i => V (mag (X i))) len0 : Nat) : Int) * 268435456 * (18446744073709551616 - ((len0 : Int) + 4) * 2048) * (18446744073709551616 - ((len0 : Int) + 4) * 2048))) := ht2_.base (Nat.le_trans ZB0.out (Below.size (B := w12_.heap.size) (by with_reducible repeat (first | (refine Below.drew ?_) | (refine bmore ?_ _) | exact HBa.out | exact Below.refl _ _)))); clear ht2_; replace t_r5x0 : Hid (Tell _ _ _ _ _ _) := t_r5x0.out.below hbt_; replace HBa : Hid (Below w12_.heap.size w12_ Wq1_) := bstep HBa.out hbt_; replace ct : Cnt 3 := Cnt.mk _; clear hb_ hbt_ ck) | (have ck : Cnt 3 := ct; go_at_call 35; refine (dCmp _ _ _ B0 36 ((34 + (len0 : Int)) + 4 + 4) _ _ ((t_q.out.below (by with_reducible repeat (first | (refine Below.drew ?_) | (refine bmore ?_ _) | exact HBa.out | exact Below.refl _ _))).up 36 ((34 + (len0 : Int)) + 4 + 4) (by omega) (by omega)) (t_r5x1.out.below (by with_reducible repeat (first | (refine Below.drew ?_) | (refine bmore ?_ _) | exact (Below.refl _ _) | exact Below.refl _ _))) (by omega) (by omega)).mono ?_; rintro e Wq2_ ⟨rfl, hb_⟩; rw [HCA.out]; have hbt_ : Below Wq1_.heap.size Wq1_ Wq2_ := bstep (by with_reducible repeat (first | (refine Below.drew ?_) | (refine bmore ?_ _) | exact (Below.refl _ _) | exact Below.refl _ _)) hb_; replace t_r5x0 : Hid (Tell _ _ _ _ _ _) := t_r5x0.out.below hbt_; replace t_r5x1 : Hid (Tell _ _ _ _ _ _) := t_r5x1.out.below hbt_; replace HBa : Hid (Below w12_.heap.size w12_ Wq2_) := bstep HBa.out hbt_; replace ct : Cnt 4 := Cnt.mk _; clear hb_ hbt_ ck) | (have ck : Cnt 4 := ct; go_at_call 32; refine (dMul _ _ _ B0 34 1 (34 + (len0 : Int)) 4 _ _ (t_s.out.below (by with_reducible repeat (first | (refine Below.drew ?_) | (refine bmore ?_ _) | exact HBa.out | exact Below.refl _ _))) (t_hi.out.below (by with_reducible repeat (first | (refine Below.drew ?_) | (refine bmore ?_ _) | exact HBa.out | exact Below.refl _ _))) (by omega) (by omega) (by omega) (by omega) (by omega) (by omega)).mono ?_; rintro e Wq3_ ⟨r5x3_v, rfl, ht_, hb_⟩; obtain ⟨r5x3_n, r5x3_a, r5x3_m, r5x3_c, r5x3_p, rfl, ht2_⟩ := ht_.numform; clear ht_; have hbt_ : Below Wq2_.heap.size Wq2_ Wq3_ := bstep (by with_reducible repeat (first | (refine Below.drew ?_) | (refine bmore ?_ _) | exact (Below.refl _ _) | exact Below.refl _ _)) hb_; have t_r5x3 : Hid (Tell Wq3_ B0 (.agg #[.bool r5x3_n, .slice r5x3_a r5x3_m r5x3_c, .int .i64 r5x3_p, .slice none 0 0]) 35 ((34 + (len0 : Int)) + 4) (((sqs (fun i => V (mag (X i))) len0 : Nat) : Int) * 268435456 * (18446744073709551616 + ((len0 : Int) + 4) * 2048))) := ht2_.base (Nat.le_trans ZB0.out (Below.size (B := w12_.heap.size) (by with_reducible repeat (first | (refine Below.drew ?_) | (refine bmore ?_ _) | exact HBa.out | exact Below.refl _ _)))); clear ht2_; replace t_r5x0 : Hid (Tell _ _ _ _ _ _) := t_r5x0.out.below hbt_; replace t_r5x1 : Hid (Tell _ _ _ _ _ _) := t_r5x1.out.below hbt_; replace HBa : Hid (Below w12_.heap.size w12_ Wq3_) := bstep HBa.out hbt_; replace ct : Cnt 5 := Cnt.mk _; clear hb_ hbt_ ck) | (have ck : Cnt 5 := ct; go_at_call 32; refine (dMul _ _ _ B0 35 1 ((34 + (len0 : Int)) + 4) 4 _ _ (t_r5x3.out.below (by with_reducible repeat (first | (refine Below.drew ?_) | (refine bmore ?_ _) | exact (Below.refl _ _) | exact Below.refl _ _))) (t_hi.out.below (by with_reducible repeat (first | (refine Below.drew ?_) | (refine bmore ?_ _) | exact HBa.out | exact Below.refl _ _))) (by omega) (by omega) (by omega) (by omega) (by omega) (by omega)).mono ?_; rintro e Wq4_ ⟨r5x4_v, rfl, ht_, hb_⟩; obtain ⟨r5x4_n, r5x4_a, r5x4_m, r5x4_c, r5x4_p, rfl, ht2_⟩ := ht_.numform; clear ht_; have hbt_ : Below Wq3_.heap.size Wq3_ Wq4_ := bstep (by with_reducible repeat (first | (refine Below.drew ?_) | (refine bmore ?_ _) | exact (Below.refl _ _) | exact Below.refl _ _)) hb_; have t_r5x4 : Hid (Tell Wq4_ B0 (.agg #[.bool r5x4_n, .slice r5x4_a r5x4_m r5x4_c, .int .i64 r5x4_p, .slice none 0 0]) 36 ((34 + (len0 : Int)) + 4 + 4) (((sqs (fun i => V (mag (X i))) len0 : Nat) : Int) * 268435456 * (18446744073709551616 + ((len0 : Int) + 4) * 2048) * (18446744073709551616 + ((len0 : Int) + 4) * 2048))) := ht2_.base (Nat.le_trans ZB0.out (Below.size (B := w12_.heap.size) (by with_reducible repeat (first | (refine Below.drew ?_) | (refine bmore ?_ _) | exact HBa.out | exact Below.refl _ _)))); clear ht2_; replace t_r5x0 : Hid (Tell _ _ _ _ _ _) := t_r5x0.out.below hbt_; replace t_r5x1 : Hid (Tell _ _ _ _ _ _) := t_r5x1.out.below hbt_; replace t_r5x3 : Hid (Tell _ _ _ _ _ _) := t_r5x3.out.below hbt_; replace HBa : Hid (Below w12_.heap.size w12_ Wq4_) := bstep HBa.out hbt_; replace ct : Cnt 6 := Cnt.mk _; clear hb_ hbt_ ck) | (have ck : Cnt 6 := ct; go_at_call 35; refine (dCmp _ _ _ B0 36 ((34 + (len0 : Int)) + 4 + 4) _ _ ((t_q.out.below (by with_reducible repeat (first | (refine Below.drew ?_) | (refine bmore ?_ _) | exact HBa.out | exact Below.refl _ _))).up 36 ((34 + (len0 : Int)) + 4 + 4) (by omega) (by omega)) (t_r5x4.out.below (by with_reducible repeat (first | (refine Below.drew ?_) | (refine bmore ?_ _) | exact (Below.refl _ _) | exact Below.refl _ _))) (by omega) (by omega)).mono ?_; rintro e Wq5_ ⟨rfl, hb_⟩; rw [HCB.out]; have hbt_ : Below Wq4_.heap.size Wq4_ Wq5_ := bstep (by with_reducible repeat (first | (refine Below.drew ?_) | (refine bmore ?_ _) | exact (Below.refl _ _) | exact Below.refl _ _)) hb_; replace t_r5x0 : Hid (Tell _ _ _ _ _ _) := t_r5x0.out.below hbt_; replace t_r5x1 : Hid (Tell _ _ _ _ _ _) := t_r5x1.out.below hbt_; replace t_r5x3 : Hid (Tell _ _ _ _ _ _) := t_r5x3.out.below hbt_; replace t_r5x4 : Hid (Tell _ _ _ _ _ _) := t_r5x4.out.below hbt_; replace HBa : Hid (Below w12_.heap.size w12_ Wq5_) := bstep HBa.out hbt_; replace ct : Cnt 7 := Cnt.mk _; clear hb_ hbt_ ck))
          replace BW : Hid (Below _ _ _) := bstep BW.out HBa.out
          replace b_s : Hid (BoxF _ _ _ _ _ _) := b_s.out.below HBa.out
          replace t_s : Hid (Tell _ _ _ _ _ _) := t_s.out.below HBa.out
          replace ZB0 : Hid (_ ≤ _) := Nat.le_trans ZB0.out (Below.size HBa.out)
          replace b_g : Hid (BoxF _ _ _ _ _ _) := b_g.out.below HBa.out
          replace t_g : Hid (Tell _ _ _ _ _ _) := t_g.out.below HBa.out
          replace b_e : Hid (BoxF _ _ _ _ _ _) := b_e.out.below HBa.out
          replace t_e : Hid (Tell _ _ _ _ _ _) := t_e.out.below HBa.out
          replace b_lo : Hid (BoxF _ _ _ _ _ _) := b_lo.out.below HBa.out
          replace t_lo : Hid (Tell _ _ _ _ _ _) := t_lo.out.below HBa.out
          replace b_hi : Hid (BoxF _ _ _ _ _ _) := b_hi.out.below HBa.out
          replace t_hi : Hid (Tell _ _ _ _ _ _) := t_hi.out.below HBa.out
          replace b_q : Hid (BoxF _ _ _ _ _ _) := b_q.out.below HBa.out
          replace t_q : Hid (Tell _ _ _ _ _ _) := t_q.out.below HBa.out
          clear HBa ct t_r5x0 t_r5x1 t_r5x3 t_r5x4
          go_wp2
          go_ret
          exact ⟨ret_eq rfl, BW.out⟩

/-! ### THE ROW's STEP: WRITTEN OUT: LEAVE IT -/
set_option maxRecDepth 100000 in
theorem lifted (os : Os) (started : os.Started) (H : Type) (enc : TypeId × Value → H) :
    ReturnsInHanded {} Try.checked os 11 .any (Rows.vecNormsSpec.pre6 enc Try.prog Try.f11 Rows.vecNormsRow.domain false) (Rows.vecNormsSpec.post enc Try.prog Try.f11 false true false false) := by
  refine returnsInHanded_of_change (C := Try.checked) own started (by kernel_rfl) Try.func11
    (ChangeSpec.witness6 (enc := enc) (C := Try.checked) false ⟨#[], #[.slice none 0 0], []⟩ 8 (by kernel_rfl) (by kernel_rfl) (by kernel_rfl) (by kernel_rfl)) ?_
  intro W base args ds gs before hval0 hW hcnd _
  have hval : ∀ (j : Nat) t v, Try.f11.params[j]? = some t → args[j]? = some v → Value.okWide Try.prog W .any base t v := hval0
  have hW' := hW
  obtain ⟨p, q, hA0, hV, rfl, hfz, hnd⟩ := hW
  have hA : DataW.TrodAll enc Try.prog W 0 (fun _ => true) true Try.f11.params.toList args.toList ds p := hA0
  rw [Try.params11] at hA hval
  obtain ⟨v0, vs0, d0, ds0, p0, q0, hargs, rfl, rfl, h0, r0⟩ := trodAll_cons hA
  obtain ⟨rfl, rfl, rfl⟩ := trodAll_nil r0
  obtain rfl : args = #[v0] := by cases args; simp_all
  obtain ⟨rfl, rfl⟩ := trodVars_none hV
  obtain ⟨a0, len0, cap0, rfl⟩ := okWide_slice Try.underlying23 (hval 0 23 v0 rfl rfl)
  have k0 := h0
  have lt0 : ∀ x ∈ p0, x.block < W.heap.size := by obtain ⟨m, hm⟩ := k0; exact DataW.trod_lt m _ _ _ hm
  obtain ⟨z0, w0⟩ : ∃ zs, IsRow .u64 W a0 len0 cap0 zs := by
    obtain ⟨fuel, hf⟩ := h0
    rcases open_ints Try.underlying23 Try.underlying26 (by kernel_rfl) hf with ⟨hcs, _⟩ | ⟨x, l, c, zs, hcs, _, hl, hm, hz, _, hcell, hwz⟩
    · simp [Value.cells] at hcs
      obtain ⟨rfl, rfl, rfl⟩ := hcs
      exact ⟨[], .inl ⟨rfl, rfl, rfl, rfl⟩⟩
    · simp [Value.cells] at hcs
      obtain ⟨rfl, rfl, rfl⟩ := hcs
      exact ⟨zs, .inr ⟨_, rfl, hl, hm, by simpa using hz, hcell, hwz⟩⟩
  clear hA0 hval0
  refine (walk a0 len0 cap0 z0 W w0).mono fun e W' ⟨he, bel⟩ => ?_
  subst he
  exact ⟨_, rfl, _, _, _, [], _, [], hW', trodAll_mk1 (shut_bool Try.underlying4 _), (trodAll_cons_mk (Below.trod laidOut (by kernel_rfl) (of_decide_eq_true (by kernel_rfl)) k0 bel lt0) trodAll_mk0), rfl, bel.frame _, fun h => by cases h⟩

theorem over : Rows.vecNormsRow.holds Try.pinned (OpenSpec.ofChange Rows.vecNormsSpec) :=
  OpenClaim.holds_of_wide 11 Try.f11 rfl rfl rfl rfl rfl rfl rfl ⟨rfl, rfl, rfl, rfl, rfl⟩ rfl rfl rfl rfl rfl (by kernel_rfl) Try.func11 (by kernel_rfl)
    (of_decide_eq_true (by kernel_rfl)) (by unfold Func.isWrapper; first | (rw [if_pos (by decide +kernel)]; kernel_rfl) | (rw [if_neg (by decide +kernel)]; exact ⟨rfl, rfl⟩))
    (fun os started H enc _ => lifted os started H enc)

/-- ████ THE STATEMENT ████ -/
theorem proved : Rows.VecNormsSaid := over
#print axioms proved
end Go.Proofs.Ytokgfeeaoioegaa.vecNorms
