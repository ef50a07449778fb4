/-
  The law VecPowers returns true at every input (any slice of patterns, any power), and leaves its argument as it was. No conditions.
-/
import Derived.Test.YtokgfeeaoioegaaRows
import Derived.WalkKit
import Derived.ProofKit
import Derived.OpenShut
import Derived.Test.YtokgfeeaoioegaaGrO
import Derived.Test.YtokgfeeaoioegaaGrP
import Derived.ShutString
import Derived.ChangeOld
import Derived.Below
namespace Go.Proofs.Ytokgfeeaoioegaa.vecPowers
open Go.ChangeShapes Go.WideShapes Go.ChangeAt Go.RowKit
open Go.ChangeMaps (open_string shut_string)
set_option linter.unusedVariables false

theorem own : ownKnob Try.prog.godebug = none := by kernel_rfl
theorem laidOut : laidOutB Try.prog = true := by kernel_rfl

/-- WHAT THE WALK IS TOLD OF A SLICE OF INTEGERS THAT CAME IN: it is nil; or it leads to a row of 'cap' cells, the numbers 'zs' (the first 'len' are its elements, the rest its spare room), each fitting its kind. -/
def IsRow (k : IntKind) (w : World) (a : Option Addr) (len cap : Nat) (zs : List Int) : Prop :=
  (a = none ∧ len = 0 ∧ cap = 0 ∧ zs = []) ∨
  ∃ x, a = some x ∧ len ≤ cap ∧ cap ≤ maxLen ∧ zs.length = cap ∧ (∀ i, i < zs.length → w.cell? (x.add i) = some (.int k (zs.getD i 0))) ∧ ∀ n ∈ zs, (Lit.int k n).wf = true

set_option linter.unusedSimpArgs false
theorem row_of (w : World) (a : Option Addr) (len cap : Nat) (zs : List Int) (h : IsRow .u64 w a len cap zs) : URow w a len cap (fun i => zs.getD i 0) := by
  rcases h with ⟨rfl, rfl, rfl, rfl⟩ | ⟨x, rfl, h1, h2, h3, h4, h5⟩
  · exact ⟨Nat.le_refl _, Nat.zero_le _, fun i => by simp, fun h => absurd h (Nat.lt_irrefl 0)⟩
  · refine ⟨h1, h2, fun i => ?_, fun hp => ?_⟩
    · show 0 ≤ zs.getD i 0 ∧ zs.getD i 0 < 18446744073709551616
      rcases Nat.lt_or_ge i zs.length with g | g
      · have hm : zs.getD i 0 ∈ zs := by
          rw [List.getD_eq_getElem?_getD, List.getElem?_eq_getElem g]
          exact List.getElem_mem g
        obtain ⟨q1, q2⟩ := bounds_u64 (h5 _ hm)
        exact ⟨q1, by omega⟩
      · rw [List.getD_eq_getElem?_getD, List.getElem?_eq_none g]
        simp
    · obtain ⟨b, o, s⟩ := x
      have hs : s = none := by simpa [Addr.add] using World.cell?_spot (h4 0 (by omega))
      subst hs
      have hb : b < w.heap.size := by
        have := World.block_lt_of_cell? _ _ (h4 0 (by omega))
        simpa [Addr.add] using this
      refine ⟨b, o, rfl, hb, fun i hi => ?_⟩
      have := h4 i (by omega)
      rw [add_plain] at this
      exact this
/-- Whether the first j are finite. -/
def FinB (fb : Bool) (X : Nat → Int) (j : Nat) : Prop := fb = true ↔ ∀ i, i < j → mag (X i) < 9218868437227405312
set_option maxRecDepth 100000 in
set_option maxHeartbeats 8000000 in
theorem walk (a0 : Option Addr) (len0 cap0 : Nat) (z0 : List Int) (a1 : Int) (w : World) (w0 : IsRow .u64 w a0 len0 cap0 z0) (w1 : (Lit.int .i64 a1).wf = true) :
    Calls Try.prog 13 #[.slice a0 len0 cap0, .int .i64 a1] w fun e w' => e = .returned (.bool true) ∧ Below w.heap.size w w' := by
  have hx := row_of w a0 len0 cap0 z0 w0
  generalize (fun i => z0.getD i 0) = X at hx
  obtain ⟨n0, n1⟩ := bounds_i64 w1
  clear w0 w1
  obtain ⟨lx, cx⟩ := hx.lenB
  have HX : Hid (URow w a0 len0 cap0 X) := hx
  clear hx
  by_cases hl : 50 < len0
  · have hl2 : (50 : Int) < (len0 : Int) := by omega
    go_enter Try.func13, Try.ntmps13
    go_wp2_with fail
    refine (lHead10 _).mono ?_
    rintro e w1 ⟨rfl, hb1⟩
    go_wp2
    go_ret
    exact ⟨ret_eq rfl, hb1⟩
  have hl2 : ¬ (50 : Int) < (len0 : Int) := by omega
  have hdl : decide ((50 : Int) < (len0 : Int)) = false := decide_eq_false hl2
  go_enter Try.func13, Try.ntmps13
  go_wp2_with fail
  refine (lHead10 _).mono ?_
  rintro e w1 ⟨rfl, hb1⟩
  have BW : Hid (Below w.heap.size w w1) := hb1
  clear hb1
  go_wp2_with fail
  refine (vUnit _ len0 _ X a1 _ (HX.out.below BW.out) (by omega) n0 n1).mono ?_
  rintro e w2 ⟨rfl, hu, hb2⟩
  have UX : Hid (URow w2 a0 len0 cap0 X) := HX.out.below (bstep BW.out hb2)
  obtain ⟨gu, hgu⟩ : ∃ g, g = w1.heap.size := ⟨_, rfl⟩
  rw [← hgu] at hu ⊢
  obtain ⟨Un, hUn⟩ : ∃ U, U = unitS X (max a1 (-9223372036854775807)) := ⟨_, rfl⟩
  rw [← hUn] at hu
  have LU : Hid (gu < w2.heap.size ∨ len0 = 0) := by
    rcases Nat.eq_zero_or_pos len0 with h | h
    · exact .inr h
    · exact .inl (hu.cellg 0 h).1
  have UU : Hid (URow w2 (some ⟨gu, 0, none⟩) len0 len0 Un) := hu
  have HUN : Hid (∀ i, Un i = (scaleS (X i) (-(min (max a1 (-20000)) 20000))).1) := fun i => by rw [hUn]; exact unit_clamp X a1 i
  replace BW : Hid (Below w.heap.size w w2) := bstep BW.out hb2
  clear hb2 hu hgu hUn
  have LB : Hid (w2.heap.size ≤ w2.heap.size) := Nat.le_refl _
  go_wp2_with fail
  have hz2 : ∀ k, k = w2.heap.size → len0 ≠ 0 → k ≠ gu := fun k hk h e => by rcases LU.out with g | g <;> omega
  have m0_ := BoxF.made w2 (.bool false) (.slice none 0 0) (.int .i64 0) (.slice none 0 0) 44
  have b_ : Below w2.heap.size w2 (w2.alloc (.cells #[.bool false, .slice none 0 0, .int .i64 0, .slice none 0 0] 44)) := bmore (Below.refl _ _) _
  obtain ⟨k_m, hk_m⟩ : ∃ k, k = w2.heap.size := ⟨_, rfl⟩
  have L_m : Hid (w.heap.size ≤ k_m) := by rw [hk_m]; exact Nat.le_trans BW.out.size (by omega)
  have NMU : Hid (len0 ≠ 0 → k_m ≠ gu) := hz2 _ hk_m
  clear hz2
  rw [← hk_m] at m0_ ⊢
  generalize (w2.alloc (.cells #[.bool false, .slice none 0 0, .int .i64 0, .slice none 0 0] 44)) = w1_ at m0_ b_ ⊢
  replace BW : Hid (Below _ _ _) := bstep BW.out b_
  replace UX : Hid (URow _ _ _ _ _) := UX.out.below b_
  replace UU : Hid (URow _ _ _ _ _) := UU.out.below b_
  replace LB : Hid (_ ≤ _) := Nat.le_trans LB.out (Below.size b_)
  have b_m : Hid (BoxF w1_ k_m (.bool false) (.slice none 0 0) (.int .i64 0) (.slice none 0 0)) := m0_
  clear b_ m0_ hk_m
  obtain ⟨B0, hB0⟩ : ∃ B, B = w1_.heap.size := ⟨_, rfl⟩
  have KB_m : Hid (k_m < B0) := by rw [hB0]; exact b_m.out.2.2
  have ZB0 : Hid (B0 ≤ w1_.heap.size) := by show _ ≤ _; omega
  have AU : Hid (Apt (some k_m) (some ⟨gu, 0, none⟩) len0) := fun hp b o s e ec => by
    injection e with e
    injection e with e1
    injection ec with ec
    exact NMU.out (by omega) (ec.trans e1.symm)
  clear hB0 LB
  go_loopw [7, 32] (fun f i wr => ∃ (j : Nat) (fb : Bool) (m_n : Bool) (m_a : Option Addr) (m_m m_c : Nat) (m_p : Int), f = .bool fb ∧ i = .int .i64 (j : Int) ∧ j ≤ len0 ∧ Hid (FinB fb X j) ∧ Hid (BoxF wr k_m (.bool m_n) (.slice m_a m_m m_c) (.int .i64 m_p) (.slice none 0 0)) ∧ Hid (Tell wr B0 (.agg #[.bool m_n, .slice m_a m_m m_c, .int .i64 m_p, .slice none 0 0]) 17 17 (mxv X j)) ∧ Hid (Below w.heap.size w wr) ∧ Hid (URow wr a0 len0 cap0 X) ∧ Hid (URow wr (some ⟨gu, 0, none⟩) len0 len0 Un) ∧ Hid (B0 ≤ wr.heap.size)) (fun _ i _ => len0 - (intOf i).toNat)
  case atStart => exact ⟨0, true, false, none, 0, 0, 0, rfl, rfl, Nat.zero_le _, ⟨fun _ i h => absurd h (Nat.not_lt_zero _), fun _ => rfl⟩, b_m, (Tell.zero _ _ _ _ _ (by decide)).eq rfl, BW, UX, UU, ZB0⟩
  case round =>
    clear b_m BW UX UU ZB0
    obtain ⟨j, fb, m_n, m_a, m_m, m_c, m_p, rfl, rfl, hj_, FB, b_m, t_m, BW, UX, UU, ZB0⟩ := hrel
    obtain ⟨w2_, rfl⟩ : ∃ x, x = wr := ⟨wr, rfl⟩
    by_cases hlt : (j : Int) < (len0 : Int)
    · skip
      obtain ⟨_, _, zx, fx⟩ := UX.out
      obtain ⟨b1, o1, e_1, l_q1, e1⟩ := fx (by omega)
      have q1 := e1 j (by omega)
      obtain ⟨l_q2, q2⟩ := UU.out.cellg j (by omega)
      obtain ⟨x0, x1⟩ := zx j
      clear zx fx e1
      have SU := HUN.out j
      obtain ⟨x, hxx⟩ : ∃ x, X j = x := ⟨_, rfl⟩
      obtain ⟨uv, huv⟩ : ∃ x, Un j = x := ⟨_, rfl⟩
      rw [hxx] at q1 x0 x1 SU
      rw [huv] at q2 SU
      have HXX : Hid (_ = _) := hxx
      have HSU : Hid (_ = _) := SU
      clear hxx huv SU
      subst e_1
      obtain ⟨AV, hAV⟩ : ∃ A : Int, A = ((xv x).natAbs : Int) := ⟨_, rfl⟩
      have HAV : Hid (_ = _) := hAV.symm
      clear hAV
      by_cases hlo : a1 < -20000
      · have hlo2 : a1 ≤ -20000 := by omega
        have hlo3 : ¬ -20000 ≤ a1 := by omega
        have hlo4 : ¬ -20000 < a1 := by omega
        go_wp2_with fail
        refine (mScale x _ _ x0 x1 (by omega) (by omega)).mono ?_
        rintro e w3_ ⟨rfl, hb_⟩
        rw [show (scaleS x (20000)).1 = uv by rw [HSU.out]; congr 2; omega]
        replace q2 := (Below.cell (p := ⟨gu, j, none⟩) hb_ l_q2).trans q2
        replace BW : Hid (Below _ _ _) := bstep BW.out hb_
        replace UX : Hid (URow _ _ _ _ _) := UX.out.below hb_
        replace UU : Hid (URow _ _ _ _ _) := UU.out.below hb_
        replace b_m : Hid (BoxF _ _ _ _ _ _) := b_m.out.below hb_
        replace t_m : Hid (Tell _ _ _ _ _ _) := t_m.out.below hb_
        replace ZB0 : Hid (_ ≤ _) := Nat.le_trans ZB0.out (Below.size hb_)
        clear hb_
        go_wp2_with fail
        refine (dOf x _ x0 x1).mono ?_
        rintro e w4_ ⟨a_v, rfl, ht_, hb_⟩
        obtain ⟨a_n, a_a, a_m, a_c, a_p, rfl, ht2_⟩ := ht_.numform
        replace ht2_ := ht2_.base (b' := B0) ZB0.out
        clear ht_
        replace BW : Hid (Below _ _ _) := bstep BW.out hb_
        replace UX : Hid (URow _ _ _ _ _) := UX.out.below hb_
        replace UU : Hid (URow _ _ _ _ _) := UU.out.below hb_
        replace b_m : Hid (BoxF _ _ _ _ _ _) := b_m.out.below hb_
        replace t_m : Hid (Tell _ _ _ _ _ _) := t_m.out.below hb_
        replace ZB0 : Hid (_ ≤ _) := Nat.le_trans ZB0.out (Below.size hb_)
        clear hb_
        go_upto_region 17 with fail
        have mB_ := BoxF.made w4_ (.bool a_n) (.slice a_a a_m a_c) (.int .i64 a_p) (.slice none 0 0) 44
        have tB_ := ht2_.alloc (.cells #[.bool a_n, .slice a_a a_m a_c, .int .i64 a_p, .slice none 0 0] 44)
        have b_ := bmore (Below.refl w4_.heap.size w4_) (.cells #[.bool a_n, .slice a_a a_m a_c, .int .i64 a_p, .slice none 0 0] 44)
        clear ht2_
        generalize (w4_.alloc (.cells #[.bool a_n, .slice a_a a_m a_c, .int .i64 a_p, .slice none 0 0] 44)) = w5_ at mB_ b_ tB_ ⊢
        obtain ⟨k_a, hk_a⟩ : ∃ k, k = w4_.heap.size := ⟨_, rfl⟩
        have N_ma : Hid (k_m ≠ k_a) := by have := b_m.out.2.2; show _ ≠ _; omega
        rw [← hk_a] at mB_ ⊢
        replace BW : Hid (Below _ _ _) := bstep BW.out b_
        replace UX : Hid (URow _ _ _ _ _) := UX.out.below b_
        replace UU : Hid (URow _ _ _ _ _) := UU.out.below b_
        replace b_m : Hid (BoxF _ _ _ _ _ _) := b_m.out.below b_
        replace t_m : Hid (Tell _ _ _ _ _ _) := t_m.out.below b_
        replace ZB0 : Hid (_ ≤ _) := Nat.le_trans ZB0.out (Below.size b_)
        have b_a : Hid (BoxF w5_ k_a (.bool a_n) (.slice a_a a_m a_c) (.int .i64 a_p) (.slice none 0 0)) := mB_
        have t_a : Hid (Tell w5_ B0 (.agg #[.bool a_n, .slice a_a a_m a_c, .int .i64 a_p, .slice none 0 0]) 17 17 (xv x)) := tB_
        clear mB_ b_ tB_ hk_a
        clear q1 q2 l_q1 l_q2 HSU
        by_cases fnx : mag x < 9218868437227405312
        · have hdx : decide (mag x < 9218868437227405312) = true := decide_eq_true fnx
          have FNX : Hid (mag x < 9218868437227405312) := fnx
          clear fnx
          cases fb
          · skip
            have FB2 : Hid (FinB false X (j + 1)) := ⟨fun h => absurd h (by decide), fun h => FB.out.2 (fun i hi => h i (by omega))⟩
            clear FB FNX
            obtain ⟨c, hc⟩ : ∃ c, cmpZ AV (mxv X j) = c := ⟨_, rfl⟩
            have HC : Hid (_ = _) := hc
            have EM : Hid (mxv X (j + 1) = if mxv X j < AV then AV else mxv X j) := by show (if mxv X j < ((xv (X j)).natAbs : Int) then ((xv (X j)).natAbs : Int) else mxv X j) = _; rw [HXX.out, HAV.out]
            by_cases hgt : mxv X j < AV
            · skip
              have hc1 : c = 1 := by rw [← hc]; exact (cmp_gt _ _).1 hgt
              subst hc1
              have HGT : Hid (mxv X j < AV) := hgt
              clear hc hgt
              obtain ⟨⟨b_a_0, b_a_1, b_a_2, b_a_3⟩, ⟨b_a_5, b_a_6, b_a_7, b_a_8⟩, b_a_4⟩ := b_a.out
              obtain ⟨⟨b_m_0, b_m_1, b_m_2, b_m_3⟩, ⟨b_m_5, b_m_6, b_m_7, b_m_8⟩, b_m_4⟩ := b_m.out
              go_wp2_with fail
              clear b_a_0 b_a_1 b_a_2 b_a_3 b_a_4 b_a_5 b_a_6 b_a_7 b_a_8 b_m_0 b_m_1 b_m_2 b_m_3 b_m_4 b_m_5 b_m_6 b_m_7 b_m_8
              have ct : Cnt 1 := Cnt.mk _
              have HBa : Hid (Below w5_.heap.size w5_ w5_) := Below.refl _ _
              go_region_held3 (fun w' => (w'.cell? ⟨k_a, 0, none⟩ = some (.bool a_n) ∧ w'.cell? ⟨k_a, 1, none⟩ = some (.slice a_a a_m a_c) ∧ w'.cell? ⟨k_a, 2, none⟩ = some (.int .i64 a_p) ∧ w'.cell? ⟨k_a, 3, none⟩ = some (.slice none 0 0)) ∧ (w'.cell? ⟨k_m, 0, none⟩ = some (.bool m_n) ∧ w'.cell? ⟨k_m, 1, none⟩ = some (.slice m_a m_m m_c) ∧ w'.cell? ⟨k_m, 2, none⟩ = some (.int .i64 m_p) ∧ w'.cell? ⟨k_m, 3, none⟩ = some (.slice none 0 0))) (exact ⟨(b_a.out.below (by with_reducible repeat (first | (refine Below.drew ?_) | (refine bmore ?_ _) | exact HBa.out | exact Below.refl _ _))).cells, (b_m.out.below (by with_reducible repeat (first | (refine Below.drew ?_) | (refine bmore ?_ _) | exact HBa.out | exact Below.refl _ _))).cells⟩) (first | (have ck : Cnt 1 := ct; go_at_call 34; refine (dAbs _ _ B0 17 17 _ (t_a.out.below (by with_reducible repeat (first | (refine Below.drew ?_) | (refine bmore ?_ _) | exact HBa.out | exact Below.refl _ _))) (by omega) (by omega)).mono ?_; rintro e Wq0_ ⟨r1x0_v, rfl, ht_, hb_⟩; obtain ⟨r1x0_n, r1x0_a, r1x0_m, r1x0_c, r1x0_p, rfl, ht2_⟩ := ht_.numform; clear ht_; have hbt_ : Below w5_.heap.size w5_ Wq0_ := bstep (by with_reducible repeat (first | (refine Below.drew ?_) | (refine bmore ?_ _) | exact (Below.refl _ _) | exact Below.refl _ _)) hb_; have t_r1x0 : Hid (Tell Wq0_ B0 (.agg #[.bool r1x0_n, .slice r1x0_a r1x0_m r1x0_c, .int .i64 r1x0_p, .slice none 0 0]) 17 17 (((xv x).natAbs : Int))) := ht2_.base (Nat.le_trans ZB0.out (Below.size (B := w5_.heap.size) (by with_reducible repeat (first | (refine Below.drew ?_) | (refine bmore ?_ _) | exact HBa.out | exact Below.refl _ _)))); clear ht2_; replace HBa : Hid (Below w5_.heap.size w5_ Wq0_) := bstep HBa.out hbt_; replace ct : Cnt 2 := Cnt.mk _; clear hb_ hbt_ ck) | (have ck : Cnt 2 := ct; go_at_call 35; refine (dCmp _ _ _ B0 17 17 _ _ (t_r1x0.out.below (by with_reducible repeat (first | (refine Below.drew ?_) | (refine bmore ?_ _) | exact (Below.refl _ _) | exact Below.refl _ _))) (t_m.out.below (by with_reducible repeat (first | (refine Below.drew ?_) | (refine bmore ?_ _) | exact HBa.out | exact Below.refl _ _))) (by omega) (by omega)).mono ?_; rintro e Wq1_ ⟨rfl, hb_⟩; rw [HAV.out, HC.out]; have hbt_ : Below Wq0_.heap.size Wq0_ Wq1_ := bstep (by with_reducible repeat (first | (refine Below.drew ?_) | (refine bmore ?_ _) | exact (Below.refl _ _) | exact Below.refl _ _)) hb_; replace t_r1x0 : Hid (Tell _ _ _ _ _ _) := t_r1x0.out.below hbt_; replace HBa : Hid (Below w5_.heap.size w5_ Wq1_) := bstep HBa.out hbt_; replace ct : Cnt 3 := Cnt.mk _; clear hb_ hbt_ ck))
              replace BW : Hid (Below _ _ _) := bstep BW.out HBa.out
              replace UX : Hid (URow _ _ _ _ _) := UX.out.below HBa.out
              replace UU : Hid (URow _ _ _ _ _) := UU.out.below HBa.out
              replace b_m : Hid (BoxF _ _ _ _ _ _) := b_m.out.below HBa.out
              replace t_m : Hid (Tell _ _ _ _ _ _) := t_m.out.below HBa.out
              replace ZB0 : Hid (_ ≤ _) := Nat.le_trans ZB0.out (Below.size HBa.out)
              replace b_a : Hid (BoxF _ _ _ _ _ _) := b_a.out.below HBa.out
              replace t_a : Hid (Tell _ _ _ _ _ _) := t_a.out.below HBa.out
              clear HBa ct t_r1x0
              obtain ⟨⟨b_a_0, b_a_1, b_a_2, b_a_3⟩, ⟨b_a_5, b_a_6, b_a_7, b_a_8⟩, b_a_4⟩ := b_a.out
              go_wp2_with fail
              refine (dAbs _ _ B0 17 17 _ t_a.out (by omega) (by omega)).mono ?_
              rintro e w6_ ⟨r_v, rfl, ht_, hb_⟩
              obtain ⟨r_n, r_a, r_m, r_c, r_p, rfl, ht2_⟩ := ht_.numform
              clear ht_
              clear b_a_0 b_a_1 b_a_2 b_a_3 b_a_4 b_a_5 b_a_6 b_a_7 b_a_8
              have t_r : Hid (Tell _ B0 (.agg #[.bool r_n, .slice r_a r_m r_c, .int .i64 r_p, .slice none 0 0]) 17 17 (mxv X (j + 1))) := (ht2_.base ZB0.out).eq (by rw [EM.out, if_pos HGT.out, HAV.out])
              clear ht2_
              replace BW : Hid (Below _ _ _) := bstep BW.out hb_
              replace UX : Hid (URow _ _ _ _ _) := UX.out.below hb_
              replace UU : Hid (URow _ _ _ _ _) := UU.out.below hb_
              replace b_m : Hid (BoxF _ _ _ _ _ _) := b_m.out.below hb_
              replace t_m : Hid (Tell _ _ _ _ _ _) := t_m.out.below hb_
              replace ZB0 : Hid (_ ≤ _) := Nat.le_trans ZB0.out (Below.size hb_)
              replace b_a : Hid (BoxF _ _ _ _ _ _) := b_a.out.below hb_
              replace t_a : Hid (Tell _ _ _ _ _ _) := t_a.out.below hb_
              clear hb_
              obtain ⟨⟨b_m_0, b_m_1, b_m_2, b_m_3⟩, ⟨b_m_5, b_m_6, b_m_7, b_m_8⟩, b_m_4⟩ := b_m.out
              go_wp2
              go_roundw
              case rel => exact ⟨j + 1, false, _, _, _, _, _, rfl, by go_num, by omega, FB2, b_m.out.put (.bool r_n) (.slice r_a r_m r_c) (.int .i64 r_p) (.slice none 0 0), t_r.out.put KB_m.out (.bool r_n) (.slice r_a r_m r_c) (.int .i64 r_p) (.slice none 0 0), Bes.old BW.out (bes_puts _ k_m (.bool r_n) (.slice r_a r_m r_c) (.int .i64 r_p) (.slice none 0 0)) L_m.out, UX.out.puts (HX.out.apt (fun k e => by injection e with e; rw [← e]; exact L_m.out)) (.bool r_n) (.slice r_a r_m r_c) (.int .i64 r_p) (.slice none 0 0), UU.out.puts AU.out (.bool r_n) (.slice r_a r_m r_c) (.int .i64 r_p) (.slice none 0 0), Nat.le_trans ZB0.out (Bes.size (bes_puts _ k_m (.bool r_n) (.slice r_a r_m r_c) (.int .i64 r_p) (.slice none 0 0)))⟩
              case measure => simp [intOf]; omega
            · skip
              have hc1 : ¬ 0 < c := by have := (cmp_gt _ _).2 hgt; rw [hc] at this; omega
              have HGT : Hid (AV ≤ mxv X j) := Int.not_lt.1 hgt
              clear hc hgt
              obtain ⟨⟨b_a_0, b_a_1, b_a_2, b_a_3⟩, ⟨b_a_5, b_a_6, b_a_7, b_a_8⟩, b_a_4⟩ := b_a.out
              obtain ⟨⟨b_m_0, b_m_1, b_m_2, b_m_3⟩, ⟨b_m_5, b_m_6, b_m_7, b_m_8⟩, b_m_4⟩ := b_m.out
              go_wp2_with fail
              clear b_a_0 b_a_1 b_a_2 b_a_3 b_a_4 b_a_5 b_a_6 b_a_7 b_a_8 b_m_0 b_m_1 b_m_2 b_m_3 b_m_4 b_m_5 b_m_6 b_m_7 b_m_8
              have ct : Cnt 1 := Cnt.mk _
              have HBa : Hid (Below w5_.heap.size w5_ w5_) := Below.refl _ _
              go_region_held3 (fun w' => (w'.cell? ⟨k_a, 0, none⟩ = some (.bool a_n) ∧ w'.cell? ⟨k_a, 1, none⟩ = some (.slice a_a a_m a_c) ∧ w'.cell? ⟨k_a, 2, none⟩ = some (.int .i64 a_p) ∧ w'.cell? ⟨k_a, 3, none⟩ = some (.slice none 0 0)) ∧ (w'.cell? ⟨k_m, 0, none⟩ = some (.bool m_n) ∧ w'.cell? ⟨k_m, 1, none⟩ = some (.slice m_a m_m m_c) ∧ w'.cell? ⟨k_m, 2, none⟩ = some (.int .i64 m_p) ∧ w'.cell? ⟨k_m, 3, none⟩ = some (.slice none 0 0))) (exact ⟨(b_a.out.below (by with_reducible repeat (first | (refine Below.drew ?_) | (refine bmore ?_ _) | exact HBa.out | exact Below.refl _ _))).cells, (b_m.out.below (by with_reducible repeat (first | (refine Below.drew ?_) | (refine bmore ?_ _) | exact HBa.out | exact Below.refl _ _))).cells⟩) (first | (have ck : Cnt 1 := ct; go_at_call 34; refine (dAbs _ _ B0 17 17 _ (t_a.out.below (by with_reducible repeat (first | (refine Below.drew ?_) | (refine bmore ?_ _) | exact HBa.out | exact Below.refl _ _))) (by omega) (by omega)).mono ?_; rintro e Wq0_ ⟨r1x0_v, rfl, ht_, hb_⟩; obtain ⟨r1x0_n, r1x0_a, r1x0_m, r1x0_c, r1x0_p, rfl, ht2_⟩ := ht_.numform; clear ht_; have hbt_ : Below w5_.heap.size w5_ Wq0_ := bstep (by with_reducible repeat (first | (refine Below.drew ?_) | (refine bmore ?_ _) | exact (Below.refl _ _) | exact Below.refl _ _)) hb_; have t_r1x0 : Hid (Tell Wq0_ B0 (.agg #[.bool r1x0_n, .slice r1x0_a r1x0_m r1x0_c, .int .i64 r1x0_p, .slice none 0 0]) 17 17 (((xv x).natAbs : Int))) := ht2_.base (Nat.le_trans ZB0.out (Below.size (B := w5_.heap.size) (by with_reducible repeat (first | (refine Below.drew ?_) | (refine bmore ?_ _) | exact HBa.out | exact Below.refl _ _)))); clear ht2_; replace HBa : Hid (Below w5_.heap.size w5_ Wq0_) := bstep HBa.out hbt_; replace ct : Cnt 2 := Cnt.mk _; clear hb_ hbt_ ck) | (have ck : Cnt 2 := ct; go_at_call 35; refine (dCmp _ _ _ B0 17 17 _ _ (t_r1x0.out.below (by with_reducible repeat (first | (refine Below.drew ?_) | (refine bmore ?_ _) | exact (Below.refl _ _) | exact Below.refl _ _))) (t_m.out.below (by with_reducible repeat (first | (refine Below.drew ?_) | (refine bmore ?_ _) | exact HBa.out | exact Below.refl _ _))) (by omega) (by omega)).mono ?_; rintro e Wq1_ ⟨rfl, hb_⟩; rw [HAV.out, HC.out]; have hbt_ : Below Wq0_.heap.size Wq0_ Wq1_ := bstep (by with_reducible repeat (first | (refine Below.drew ?_) | (refine bmore ?_ _) | exact (Below.refl _ _) | exact Below.refl _ _)) hb_; replace t_r1x0 : Hid (Tell _ _ _ _ _ _) := t_r1x0.out.below hbt_; replace HBa : Hid (Below w5_.heap.size w5_ Wq1_) := bstep HBa.out hbt_; replace ct : Cnt 3 := Cnt.mk _; clear hb_ hbt_ ck))
              replace BW : Hid (Below _ _ _) := bstep BW.out HBa.out
              replace UX : Hid (URow _ _ _ _ _) := UX.out.below HBa.out
              replace UU : Hid (URow _ _ _ _ _) := UU.out.below HBa.out
              replace b_m : Hid (BoxF _ _ _ _ _ _) := b_m.out.below HBa.out
              replace t_m : Hid (Tell _ _ _ _ _ _) := t_m.out.below HBa.out
              replace ZB0 : Hid (_ ≤ _) := Nat.le_trans ZB0.out (Below.size HBa.out)
              replace b_a : Hid (BoxF _ _ _ _ _ _) := b_a.out.below HBa.out
              replace t_a : Hid (Tell _ _ _ _ _ _) := t_a.out.below HBa.out
              clear HBa ct t_r1x0
              have t_r : Hid (Tell _ B0 (.agg #[.bool m_n, .slice m_a m_m m_c, .int .i64 m_p, .slice none 0 0]) 17 17 (mxv X (j + 1))) := t_m.out.eq (by rw [EM.out, if_neg (Int.not_lt.2 HGT.out)])
              go_wp2
              go_roundw
              case rel => exact ⟨j + 1, false, _, _, _, _, _, rfl, by go_num, by omega, FB2, b_m, t_r, BW, UX, UU, ZB0⟩
              case measure => simp [intOf]; omega
          · skip
            have FB2 : Hid (FinB true X (j + 1)) := ⟨fun _ i hi => by rcases Nat.lt_or_ge i j with g | g; exact FB.out.1 rfl i g; obtain rfl : i = j := (by omega); rw [HXX.out]; exact FNX.out, fun _ => rfl⟩
            clear FB FNX
            obtain ⟨c, hc⟩ : ∃ c, cmpZ AV (mxv X j) = c := ⟨_, rfl⟩
            have HC : Hid (_ = _) := hc
            have EM : Hid (mxv X (j + 1) = if mxv X j < AV then AV else mxv X j) := by show (if mxv X j < ((xv (X j)).natAbs : Int) then ((xv (X j)).natAbs : Int) else mxv X j) = _; rw [HXX.out, HAV.out]
            by_cases hgt : mxv X j < AV
            · skip
              have hc1 : c = 1 := by rw [← hc]; exact (cmp_gt _ _).1 hgt
              subst hc1
              have HGT : Hid (mxv X j < AV) := hgt
              clear hc hgt
              obtain ⟨⟨b_a_0, b_a_1, b_a_2, b_a_3⟩, ⟨b_a_5, b_a_6, b_a_7, b_a_8⟩, b_a_4⟩ := b_a.out
              obtain ⟨⟨b_m_0, b_m_1, b_m_2, b_m_3⟩, ⟨b_m_5, b_m_6, b_m_7, b_m_8⟩, b_m_4⟩ := b_m.out
              go_wp2_with fail
              clear b_a_0 b_a_1 b_a_2 b_a_3 b_a_4 b_a_5 b_a_6 b_a_7 b_a_8 b_m_0 b_m_1 b_m_2 b_m_3 b_m_4 b_m_5 b_m_6 b_m_7 b_m_8
              have ct : Cnt 1 := Cnt.mk _
              have HBa : Hid (Below w5_.heap.size w5_ w5_) := Below.refl _ _
              go_region_held3 (fun w' => (w'.cell? ⟨k_a, 0, none⟩ = some (.bool a_n) ∧ w'.cell? ⟨k_a, 1, none⟩ = some (.slice a_a a_m a_c) ∧ w'.cell? ⟨k_a, 2, none⟩ = some (.int .i64 a_p) ∧ w'.cell? ⟨k_a, 3, none⟩ = some (.slice none 0 0)) ∧ (w'.cell? ⟨k_m, 0, none⟩ = some (.bool m_n) ∧ w'.cell? ⟨k_m, 1, none⟩ = some (.slice m_a m_m m_c) ∧ w'.cell? ⟨k_m, 2, none⟩ = some (.int .i64 m_p) ∧ w'.cell? ⟨k_m, 3, none⟩ = some (.slice none 0 0))) (exact ⟨(b_a.out.below (by with_reducible repeat (first | (refine Below.drew ?_) | (refine bmore ?_ _) | exact HBa.out | exact Below.refl _ _))).cells, (b_m.out.below (by with_reducible repeat (first | (refine Below.drew ?_) | (refine bmore ?_ _) | exact HBa.out | exact Below.refl _ _))).cells⟩) (first | (have ck : Cnt 1 := ct; go_at_call 34; refine (dAbs _ _ B0 17 17 _ (t_a.out.below (by with_reducible repeat (first | (refine Below.drew ?_) | (refine bmore ?_ _) | exact HBa.out | exact Below.refl _ _))) (by omega) (by omega)).mono ?_; rintro e Wq0_ ⟨r1x0_v, rfl, ht_, hb_⟩; obtain ⟨r1x0_n, r1x0_a, r1x0_m, r1x0_c, r1x0_p, rfl, ht2_⟩ := ht_.numform; clear ht_; have hbt_ : Below w5_.heap.size w5_ Wq0_ := bstep (by with_reducible repeat (first | (refine Below.drew ?_) | (refine bmore ?_ _) | exact (Below.refl _ _) | exact Below.refl _ _)) hb_; have t_r1x0 : Hid (Tell Wq0_ B0 (.agg #[.bool r1x0_n, .slice r1x0_a r1x0_m r1x0_c, .int .i64 r1x0_p, .slice none 0 0]) 17 17 (((xv x).natAbs : Int))) := ht2_.base (Nat.le_trans ZB0.out (Below.size (B := w5_.heap.size) (by with_reducible repeat (first | (refine Below.drew ?_) | (refine bmore ?_ _) | exact HBa.out | exact Below.refl _ _)))); clear ht2_; replace HBa : Hid (Below w5_.heap.size w5_ Wq0_) := bstep HBa.out hbt_; replace ct : Cnt 2 := Cnt.mk _; clear hb_ hbt_ ck) | (have ck : Cnt 2 := ct; go_at_call 35; refine (dCmp _ _ _ B0 17 17 _ _ (t_r1x0.out.below (by with_reducible repeat (first | (refine Below.drew ?_) | (refine bmore ?_ _) | exact (Below.refl _ _) | exact Below.refl _ _))) (t_m.out.below (by with_reducible repeat (first | (refine Below.drew ?_) | (refine bmore ?_ _) | exact HBa.out | exact Below.refl _ _))) (by omega) (by omega)).mono ?_; rintro e Wq1_ ⟨rfl, hb_⟩; rw [HAV.out, HC.out]; have hbt_ : Below Wq0_.heap.size Wq0_ Wq1_ := bstep (by with_reducible repeat (first | (refine Below.drew ?_) | (refine bmore ?_ _) | exact (Below.refl _ _) | exact Below.refl _ _)) hb_; replace t_r1x0 : Hid (Tell _ _ _ _ _ _) := t_r1x0.out.below hbt_; replace HBa : Hid (Below w5_.heap.size w5_ Wq1_) := bstep HBa.out hbt_; replace ct : Cnt 3 := Cnt.mk _; clear hb_ hbt_ ck))
              replace BW : Hid (Below _ _ _) := bstep BW.out HBa.out
              replace UX : Hid (URow _ _ _ _ _) := UX.out.below HBa.out
              replace UU : Hid (URow _ _ _ _ _) := UU.out.below HBa.out
              replace b_m : Hid (BoxF _ _ _ _ _ _) := b_m.out.below HBa.out
              replace t_m : Hid (Tell _ _ _ _ _ _) := t_m.out.below HBa.out
              replace ZB0 : Hid (_ ≤ _) := Nat.le_trans ZB0.out (Below.size HBa.out)
              replace b_a : Hid (BoxF _ _ _ _ _ _) := b_a.out.below HBa.out
              replace t_a : Hid (Tell _ _ _ _ _ _) := t_a.out.below HBa.out
              clear HBa ct t_r1x0
              obtain ⟨⟨b_a_0, b_a_1, b_a_2, b_a_3⟩, ⟨b_a_5, b_a_6, b_a_7, b_a_8⟩, b_a_4⟩ := b_a.out
              go_wp2_with fail
              refine (dAbs _ _ B0 17 17 _ t_a.out (by omega) (by omega)).mono ?_
              rintro e w6_ ⟨r_v, rfl, ht_, hb_⟩
              obtain ⟨r_n, r_a, r_m, r_c, r_p, rfl, ht2_⟩ := ht_.numform
              clear ht_
              clear b_a_0 b_a_1 b_a_2 b_a_3 b_a_4 b_a_5 b_a_6 b_a_7 b_a_8
              have t_r : Hid (Tell _ B0 (.agg #[.bool r_n, .slice r_a r_m r_c, .int .i64 r_p, .slice none 0 0]) 17 17 (mxv X (j + 1))) := (ht2_.base ZB0.out).eq (by rw [EM.out, if_pos HGT.out, HAV.out])
              clear ht2_
              replace BW : Hid (Below _ _ _) := bstep BW.out hb_
              replace UX : Hid (URow _ _ _ _ _) := UX.out.below hb_
              replace UU : Hid (URow _ _ _ _ _) := UU.out.below hb_
              replace b_m : Hid (BoxF _ _ _ _ _ _) := b_m.out.below hb_
              replace t_m : Hid (Tell _ _ _ _ _ _) := t_m.out.below hb_
              replace ZB0 : Hid (_ ≤ _) := Nat.le_trans ZB0.out (Below.size hb_)
              replace b_a : Hid (BoxF _ _ _ _ _ _) := b_a.out.below hb_
              replace t_a : Hid (Tell _ _ _ _ _ _) := t_a.out.below hb_
              clear hb_
              obtain ⟨⟨b_m_0, b_m_1, b_m_2, b_m_3⟩, ⟨b_m_5, b_m_6, b_m_7, b_m_8⟩, b_m_4⟩ := b_m.out
              go_wp2
              go_roundw
              case rel => exact ⟨j + 1, true, _, _, _, _, _, rfl, by go_num, by omega, FB2, b_m.out.put (.bool r_n) (.slice r_a r_m r_c) (.int .i64 r_p) (.slice none 0 0), t_r.out.put KB_m.out (.bool r_n) (.slice r_a r_m r_c) (.int .i64 r_p) (.slice none 0 0), Bes.old BW.out (bes_puts _ k_m (.bool r_n) (.slice r_a r_m r_c) (.int .i64 r_p) (.slice none 0 0)) L_m.out, UX.out.puts (HX.out.apt (fun k e => by injection e with e; rw [← e]; exact L_m.out)) (.bool r_n) (.slice r_a r_m r_c) (.int .i64 r_p) (.slice none 0 0), UU.out.puts AU.out (.bool r_n) (.slice r_a r_m r_c) (.int .i64 r_p) (.slice none 0 0), Nat.le_trans ZB0.out (Bes.size (bes_puts _ k_m (.bool r_n) (.slice r_a r_m r_c) (.int .i64 r_p) (.slice none 0 0)))⟩
              case measure => simp [intOf]; omega
            · skip
              have hc1 : ¬ 0 < c := by have := (cmp_gt _ _).2 hgt; rw [hc] at this; omega
              have HGT : Hid (AV ≤ mxv X j) := Int.not_lt.1 hgt
              clear hc hgt
              obtain ⟨⟨b_a_0, b_a_1, b_a_2, b_a_3⟩, ⟨b_a_5, b_a_6, b_a_7, b_a_8⟩, b_a_4⟩ := b_a.out
              obtain ⟨⟨b_m_0, b_m_1, b_m_2, b_m_3⟩, ⟨b_m_5, b_m_6, b_m_7, b_m_8⟩, b_m_4⟩ := b_m.out
              go_wp2_with fail
              clear b_a_0 b_a_1 b_a_2 b_a_3 b_a_4 b_a_5 b_a_6 b_a_7 b_a_8 b_m_0 b_m_1 b_m_2 b_m_3 b_m_4 b_m_5 b_m_6 b_m_7 b_m_8
              have ct : Cnt 1 := Cnt.mk _
              have HBa : Hid (Below w5_.heap.size w5_ w5_) := Below.refl _ _
              go_region_held3 (fun w' => (w'.cell? ⟨k_a, 0, none⟩ = some (.bool a_n) ∧ w'.cell? ⟨k_a, 1, none⟩ = some (.slice a_a a_m a_c) ∧ w'.cell? ⟨k_a, 2, none⟩ = some (.int .i64 a_p) ∧ w'.cell? ⟨k_a, 3, none⟩ = some (.slice none 0 0)) ∧ (w'.cell? ⟨k_m, 0, none⟩ = some (.bool m_n) ∧ w'.cell? ⟨k_m, 1, none⟩ = some (.slice m_a m_m m_c) ∧ w'.cell? ⟨k_m, 2, none⟩ = some (.int .i64 m_p) ∧ w'.cell? ⟨k_m, 3, none⟩ = some (.slice none 0 0))) (exact ⟨(b_a.out.below (by with_reducible repeat (first | (refine Below.drew ?_) | (refine bmore ?_ _) | exact HBa.out | exact Below.refl _ _))).cells, (b_m.out.below (by with_reducible repeat (first | (refine Below.drew ?_) | (refine bmore ?_ _) | exact HBa.out | exact Below.refl _ _))).cells⟩) (first | (have ck : Cnt 1 := ct; go_at_call 34; refine (dAbs _ _ B0 17 17 _ (t_a.out.below (by with_reducible repeat (first | (refine Below.drew ?_) | (refine bmore ?_ _) | exact HBa.out | exact Below.refl _ _))) (by omega) (by omega)).mono ?_; rintro e Wq0_ ⟨r1x0_v, rfl, ht_, hb_⟩; obtain ⟨r1x0_n, r1x0_a, r1x0_m, r1x0_c, r1x0_p, rfl, ht2_⟩ := ht_.numform; clear ht_; have hbt_ : Below w5_.heap.size w5_ Wq0_ := bstep (by with_reducible repeat (first | (refine Below.drew ?_) | (refine bmore ?_ _) | exact (Below.refl _ _) | exact Below.refl _ _)) hb_; have t_r1x0 : Hid (Tell Wq0_ B0 (.agg #[.bool r1x0_n, .slice r1x0_a r1x0_m r1x0_c, .int .i64 r1x0_p, .slice none 0 0]) 17 17 (((xv x).natAbs : Int))) := ht2_.base (Nat.le_trans ZB0.out (Below.size (B := w5_.heap.size) (by with_reducible repeat (first | (refine Below.drew ?_) | (refine bmore ?_ _) | exact HBa.out | exact Below.refl _ _)))); clear ht2_; replace HBa : Hid (Below w5_.heap.size w5_ Wq0_) := bstep HBa.out hbt_; replace ct : Cnt 2 := Cnt.mk _; clear hb_ hbt_ ck) | (have ck : Cnt 2 := ct; go_at_call 35; refine (dCmp _ _ _ B0 17 17 _ _ (t_r1x0.out.below (by with_reducible repeat (first | (refine Below.drew ?_) | (refine bmore ?_ _) | exact (Below.refl _ _) | exact Below.refl _ _))) (t_m.out.below (by with_reducible repeat (first | (refine Below.drew ?_) | (refine bmore ?_ _) | exact HBa.out | exact Below.refl _ _))) (by omega) (by omega)).mono ?_; rintro e Wq1_ ⟨rfl, hb_⟩; rw [HAV.out, HC.out]; have hbt_ : Below Wq0_.heap.size Wq0_ Wq1_ := bstep (by with_reducible repeat (first | (refine Below.drew ?_) | (refine bmore ?_ _) | exact (Below.refl _ _) | exact Below.refl _ _)) hb_; replace t_r1x0 : Hid (Tell _ _ _ _ _ _) := t_r1x0.out.below hbt_; replace HBa : Hid (Below w5_.heap.size w5_ Wq1_) := bstep HBa.out hbt_; replace ct : Cnt 3 := Cnt.mk _; clear hb_ hbt_ ck))
              replace BW : Hid (Below _ _ _) := bstep BW.out HBa.out
              replace UX : Hid (URow _ _ _ _ _) := UX.out.below HBa.out
              replace UU : Hid (URow _ _ _ _ _) := UU.out.below HBa.out
              replace b_m : Hid (BoxF _ _ _ _ _ _) := b_m.out.below HBa.out
              replace t_m : Hid (Tell _ _ _ _ _ _) := t_m.out.below HBa.out
              replace ZB0 : Hid (_ ≤ _) := Nat.le_trans ZB0.out (Below.size HBa.out)
              replace b_a : Hid (BoxF _ _ _ _ _ _) := b_a.out.below HBa.out
              replace t_a : Hid (Tell _ _ _ _ _ _) := t_a.out.below HBa.out
              clear HBa ct t_r1x0
              have t_r : Hid (Tell _ B0 (.agg #[.bool m_n, .slice m_a m_m m_c, .int .i64 m_p, .slice none 0 0]) 17 17 (mxv X (j + 1))) := t_m.out.eq (by rw [EM.out, if_neg (Int.not_lt.2 HGT.out)])
              go_wp2
              go_roundw
              case rel => exact ⟨j + 1, true, _, _, _, _, _, rfl, by go_num, by omega, FB2, b_m, t_r, BW, UX, UU, ZB0⟩
              case measure => simp [intOf]; omega
        · have hdx : decide (mag x < 9218868437227405312) = false := decide_eq_false fnx
          have FNX : Hid (¬ mag x < 9218868437227405312) := fnx
          clear fnx
          cases fb
          · skip
            have FB2 : Hid (FinB false X (j + 1)) := ⟨fun h => absurd h (by decide), fun h => absurd (by have := h j (by omega); rw [HXX.out] at this; exact this) FNX.out⟩
            clear FB FNX
            obtain ⟨c, hc⟩ : ∃ c, cmpZ AV (mxv X j) = c := ⟨_, rfl⟩
            have HC : Hid (_ = _) := hc
            have EM : Hid (mxv X (j + 1) = if mxv X j < AV then AV else mxv X j) := by show (if mxv X j < ((xv (X j)).natAbs : Int) then ((xv (X j)).natAbs : Int) else mxv X j) = _; rw [HXX.out, HAV.out]
            by_cases hgt : mxv X j < AV
            · skip
              have hc1 : c = 1 := by rw [← hc]; exact (cmp_gt _ _).1 hgt
              subst hc1
              have HGT : Hid (mxv X j < AV) := hgt
              clear hc hgt
              obtain ⟨⟨b_a_0, b_a_1, b_a_2, b_a_3⟩, ⟨b_a_5, b_a_6, b_a_7, b_a_8⟩, b_a_4⟩ := b_a.out
              obtain ⟨⟨b_m_0, b_m_1, b_m_2, b_m_3⟩, ⟨b_m_5, b_m_6, b_m_7, b_m_8⟩, b_m_4⟩ := b_m.out
              go_wp2_with fail
              clear b_a_0 b_a_1 b_a_2 b_a_3 b_a_4 b_a_5 b_a_6 b_a_7 b_a_8 b_m_0 b_m_1 b_m_2 b_m_3 b_m_4 b_m_5 b_m_6 b_m_7 b_m_8
              have ct : Cnt 1 := Cnt.mk _
              have HBa : Hid (Below w5_.heap.size w5_ w5_) := Below.refl _ _
              go_region_held3 (fun w' => (w'.cell? ⟨k_a, 0, none⟩ = some (.bool a_n) ∧ w'.cell? ⟨k_a, 1, none⟩ = some (.slice a_a a_m a_c) ∧ w'.cell? ⟨k_a, 2, none⟩ = some (.int .i64 a_p) ∧ w'.cell? ⟨k_a, 3, none⟩ = some (.slice none 0 0)) ∧ (w'.cell? ⟨k_m, 0, none⟩ = some (.bool m_n) ∧ w'.cell? ⟨k_m, 1, none⟩ = some (.slice m_a m_m m_c) ∧ w'.cell? ⟨k_m, 2, none⟩ = some (.int .i64 m_p) ∧ w'.cell? ⟨k_m, 3, none⟩ = some (.slice none 0 0))) (exact ⟨(b_a.out.below (by with_reducible repeat (first | (refine Below.drew ?_) | (refine bmore ?_ _) | exact HBa.out | exact Below.refl _ _))).cells, (b_m.out.below (by with_reducible repeat (first | (refine Below.drew ?_) | (refine bmore ?_ _) | exact HBa.out | exact Below.refl _ _))).cells⟩) (first | (have ck : Cnt 1 := ct; go_at_call 34; refine (dAbs _ _ B0 17 17 _ (t_a.out.below (by with_reducible repeat (first | (refine Below.drew ?_) | (refine bmore ?_ _) | exact HBa.out | exact Below.refl _ _))) (by omega) (by omega)).mono ?_; rintro e Wq0_ ⟨r1x0_v, rfl, ht_, hb_⟩; obtain ⟨r1x0_n, r1x0_a, r1x0_m, r1x0_c, r1x0_p, rfl, ht2_⟩ := ht_.numform; clear ht_; have hbt_ : Below w5_.heap.size w5_ Wq0_ := bstep (by with_reducible repeat (first | (refine Below.drew ?_) | (refine bmore ?_ _) | exact (Below.refl _ _) | exact Below.refl _ _)) hb_; have t_r1x0 : Hid (Tell Wq0_ B0 (.agg #[.bool r1x0_n, .slice r1x0_a r1x0_m r1x0_c, .int .i64 r1x0_p, .slice none 0 0]) 17 17 (((xv x).natAbs : Int))) := ht2_.base (Nat.le_trans ZB0.out (Below.size (B := w5_.heap.size) (by with_reducible repeat (first | (refine Below.drew ?_) | (refine bmore ?_ _) | exact HBa.out | exact Below.refl _ _)))); clear ht2_; replace HBa : Hid (Below w5_.heap.size w5_ Wq0_) := bstep HBa.out hbt_; replace ct : Cnt 2 := Cnt.mk _; clear hb_ hbt_ ck) | (have ck : Cnt 2 := ct; go_at_call 35; refine (dCmp _ _ _ B0 17 17 _ _ (t_r1x0.out.below (by with_reducible repeat (first | (refine Below.drew ?_) | (refine bmore ?_ _) | exact (Below.refl _ _) | exact Below.refl _ _))) (t_m.out.below (by with_reducible repeat (first | (refine Below.drew ?_) | (refine bmore ?_ _) | exact HBa.out | exact Below.refl _ _))) (by omega) (by omega)).mono ?_; rintro e Wq1_ ⟨rfl, hb_⟩; rw [HAV.out, HC.out]; have hbt_ : Below Wq0_.heap.size Wq0_ Wq1_ := bstep (by with_reducible repeat (first | (refine Below.drew ?_) | (refine bmore ?_ _) | exact (Below.refl _ _) | exact Below.refl _ _)) hb_; replace t_r1x0 : Hid (Tell _ _ _ _ _ _) := t_r1x0.out.below hbt_; replace HBa : Hid (Below w5_.heap.size w5_ Wq1_) := bstep HBa.out hbt_; replace ct : Cnt 3 := Cnt.mk _; clear hb_ hbt_ ck))
              replace BW : Hid (Below _ _ _) := bstep BW.out HBa.out
              replace UX : Hid (URow _ _ _ _ _) := UX.out.below HBa.out
              replace UU : Hid (URow _ _ _ _ _) := UU.out.below HBa.out
              replace b_m : Hid (BoxF _ _ _ _ _ _) := b_m.out.below HBa.out
              replace t_m : Hid (Tell _ _ _ _ _ _) := t_m.out.below HBa.out
              replace ZB0 : Hid (_ ≤ _) := Nat.le_trans ZB0.out (Below.size HBa.out)
              replace b_a : Hid (BoxF _ _ _ _ _ _) := b_a.out.below HBa.out
              replace t_a : Hid (Tell _ _ _ _ _ _) := t_a.out.below HBa.out
              clear HBa ct t_r1x0
              obtain ⟨⟨b_a_0, b_a_1, b_a_2, b_a_3⟩, ⟨b_a_5, b_a_6, b_a_7, b_a_8⟩, b_a_4⟩ := b_a.out
              go_wp2_with fail
              refine (dAbs _ _ B0 17 17 _ t_a.out (by omega) (by omega)).mono ?_
              rintro e w6_ ⟨r_v, rfl, ht_, hb_⟩
              obtain ⟨r_n, r_a, r_m, r_c, r_p, rfl, ht2_⟩ := ht_.numform
              clear ht_
              clear b_a_0 b_a_1 b_a_2 b_a_3 b_a_4 b_a_5 b_a_6 b_a_7 b_a_8
              have t_r : Hid (Tell _ B0 (.agg #[.bool r_n, .slice r_a r_m r_c, .int .i64 r_p, .slice none 0 0]) 17 17 (mxv X (j + 1))) := (ht2_.base ZB0.out).eq (by rw [EM.out, if_pos HGT.out, HAV.out])
              clear ht2_
              replace BW : Hid (Below _ _ _) := bstep BW.out hb_
              replace UX : Hid (URow _ _ _ _ _) := UX.out.below hb_
              replace UU : Hid (URow _ _ _ _ _) := UU.out.below hb_
              replace b_m : Hid (BoxF _ _ _ _ _ _) := b_m.out.below hb_
              replace t_m : Hid (Tell _ _ _ _ _ _) := t_m.out.below hb_
              replace ZB0 : Hid (_ ≤ _) := Nat.le_trans ZB0.out (Below.size hb_)
              replace b_a : Hid (BoxF _ _ _ _ _ _) := b_a.out.below hb_
              replace t_a : Hid (Tell _ _ _ _ _ _) := t_a.out.below hb_
              clear hb_
              obtain ⟨⟨b_m_0, b_m_1, b_m_2, b_m_3⟩, ⟨b_m_5, b_m_6, b_m_7, b_m_8⟩, b_m_4⟩ := b_m.out
              go_wp2
              go_roundw
              case rel => exact ⟨j + 1, false, _, _, _, _, _, rfl, by go_num, by omega, FB2, b_m.out.put (.bool r_n) (.slice r_a r_m r_c) (.int .i64 r_p) (.slice none 0 0), t_r.out.put KB_m.out (.bool r_n) (.slice r_a r_m r_c) (.int .i64 r_p) (.slice none 0 0), Bes.old BW.out (bes_puts _ k_m (.bool r_n) (.slice r_a r_m r_c) (.int .i64 r_p) (.slice none 0 0)) L_m.out, UX.out.puts (HX.out.apt (fun k e => by injection e with e; rw [← e]; exact L_m.out)) (.bool r_n) (.slice r_a r_m r_c) (.int .i64 r_p) (.slice none 0 0), UU.out.puts AU.out (.bool r_n) (.slice r_a r_m r_c) (.int .i64 r_p) (.slice none 0 0), Nat.le_trans ZB0.out (Bes.size (bes_puts _ k_m (.bool r_n) (.slice r_a r_m r_c) (.int .i64 r_p) (.slice none 0 0)))⟩
              case measure => simp [intOf]; omega
            · skip
              have hc1 : ¬ 0 < c := by have := (cmp_gt _ _).2 hgt; rw [hc] at this; omega
              have HGT : Hid (AV ≤ mxv X j) := Int.not_lt.1 hgt
              clear hc hgt
              obtain ⟨⟨b_a_0, b_a_1, b_a_2, b_a_3⟩, ⟨b_a_5, b_a_6, b_a_7, b_a_8⟩, b_a_4⟩ := b_a.out
              obtain ⟨⟨b_m_0, b_m_1, b_m_2, b_m_3⟩, ⟨b_m_5, b_m_6, b_m_7, b_m_8⟩, b_m_4⟩ := b_m.out
              go_wp2_with fail
              clear b_a_0 b_a_1 b_a_2 b_a_3 b_a_4 b_a_5 b_a_6 b_a_7 b_a_8 b_m_0 b_m_1 b_m_2 b_m_3 b_m_4 b_m_5 b_m_6 b_m_7 b_m_8
              have ct : Cnt 1 := Cnt.mk _
              have HBa : Hid (Below w5_.heap.size w5_ w5_) := Below.refl _ _
              go_region_held3 (fun w' => (w'.cell? ⟨k_a, 0, none⟩ = some (.bool a_n) ∧ w'.cell? ⟨k_a, 1, none⟩ = some (.slice a_a a_m a_c) ∧ w'.cell? ⟨k_a, 2, none⟩ = some (.int .i64 a_p) ∧ w'.cell? ⟨k_a, 3, none⟩ = some (.slice none 0 0)) ∧ (w'.cell? ⟨k_m, 0, none⟩ = some (.bool m_n) ∧ w'.cell? ⟨k_m, 1, none⟩ = some (.slice m_a m_m m_c) ∧ w'.cell? ⟨k_m, 2, none⟩ = some (.int .i64 m_p) ∧ w'.cell? ⟨k_m, 3, none⟩ = some (.slice none 0 0))) (exact ⟨(b_a.out.below (by with_reducible repeat (first | (refine Below.drew ?_) | (refine bmore ?_ _) | exact HBa.out | exact Below.refl _ _))).cells, (b_m.out.below (by with_reducible repeat (first | (refine Below.drew ?_) | (refine bmore ?_ _) | exact HBa.out | exact Below.refl _ _))).cells⟩) (first | (have ck : Cnt 1 := ct; go_at_call 34; refine (dAbs _ _ B0 17 17 _ (t_a.out.below (by with_reducible repeat (first | (refine Below.drew ?_) | (refine bmore ?_ _) | exact HBa.out | exact Below.refl _ _))) (by omega) (by omega)).mono ?_; rintro e Wq0_ ⟨r1x0_v, rfl, ht_, hb_⟩; obtain ⟨r1x0_n, r1x0_a, r1x0_m, r1x0_c, r1x0_p, rfl, ht2_⟩ := ht_.numform; clear ht_; have hbt_ : Below w5_.heap.size w5_ Wq0_ := bstep (by with_reducible repeat (first | (refine Below.drew ?_) | (refine bmore ?_ _) | exact (Below.refl _ _) | exact Below.refl _ _)) hb_; have t_r1x0 : Hid (Tell Wq0_ B0 (.agg #[.bool r1x0_n, .slice r1x0_a r1x0_m r1x0_c, .int .i64 r1x0_p, .slice none 0 0]) 17 17 (((xv x).natAbs : Int))) := ht2_.base (Nat.le_trans ZB0.out (Below.size (B := w5_.heap.size) (by with_reducible repeat (first | (refine Below.drew ?_) | (refine bmore ?_ _) | exact HBa.out | exact Below.refl _ _)))); clear ht2_; replace HBa : Hid (Below w5_.heap.size w5_ Wq0_) := bstep HBa.out hbt_; replace ct : Cnt 2 := Cnt.mk _; clear hb_ hbt_ ck) | (have ck : Cnt 2 := ct; go_at_call 35; refine (dCmp _ _ _ B0 17 17 _ _ (t_r1x0.out.below (by with_reducible repeat (first | (refine Below.drew ?_) | (refine bmore ?_ _) | exact (Below.refl _ _) | exact Below.refl _ _))) (t_m.out.below (by with_reducible repeat (first | (refine Below.drew ?_) | (refine bmore ?_ _) | exact HBa.out | exact Below.refl _ _))) (by omega) (by omega)).mono ?_; rintro e Wq1_ ⟨rfl, hb_⟩; rw [HAV.out, HC.out]; have hbt_ : Below Wq0_.heap.size Wq0_ Wq1_ := bstep (by with_reducible repeat (first | (refine Below.drew ?_) | (refine bmore ?_ _) | exact (Below.refl _ _) | exact Below.refl _ _)) hb_; replace t_r1x0 : Hid (Tell _ _ _ _ _ _) := t_r1x0.out.below hbt_; replace HBa : Hid (Below w5_.heap.size w5_ Wq1_) := bstep HBa.out hbt_; replace ct : Cnt 3 := Cnt.mk _; clear hb_ hbt_ ck))
              replace BW : Hid (Below _ _ _) := bstep BW.out HBa.out
              replace UX : Hid (URow _ _ _ _ _) := UX.out.below HBa.out
              replace UU : Hid (URow _ _ _ _ _) := UU.out.below HBa.out
              replace b_m : Hid (BoxF _ _ _ _ _ _) := b_m.out.below HBa.out
              replace t_m : Hid (Tell _ _ _ _ _ _) := t_m.out.below HBa.out
              replace ZB0 : Hid (_ ≤ _) := Nat.le_trans ZB0.out (Below.size HBa.out)
              replace b_a : Hid (BoxF _ _ _ _ _ _) := b_a.out.below HBa.out
              replace t_a : Hid (Tell _ _ _ _ _ _) := t_a.out.below HBa.out
              clear HBa ct t_r1x0
              have t_r : Hid (Tell _ B0 (.agg #[.bool m_n, .slice m_a m_m m_c, .int .i64 m_p, .slice none 0 0]) 17 17 (mxv X (j + 1))) := t_m.out.eq (by rw [EM.out, if_neg (Int.not_lt.2 HGT.out)])
              go_wp2
              go_roundw
              case rel => exact ⟨j + 1, false, _, _, _, _, _, rfl, by go_num, by omega, FB2, b_m, t_r, BW, UX, UU, ZB0⟩
              case measure => simp [intOf]; omega
          · skip
            have FB2 : Hid (FinB false X (j + 1)) := ⟨fun h => absurd h (by decide), fun h => absurd (by have := h j (by omega); rw [HXX.out] at this; exact this) FNX.out⟩
            clear FB FNX
            obtain ⟨c, hc⟩ : ∃ c, cmpZ AV (mxv X j) = c := ⟨_, rfl⟩
            have HC : Hid (_ = _) := hc
            have EM : Hid (mxv X (j + 1) = if mxv X j < AV then AV else mxv X j) := by show (if mxv X j < ((xv (X j)).natAbs : Int) then ((xv (X j)).natAbs : Int) else mxv X j) = _; rw [HXX.out, HAV.out]
            by_cases hgt : mxv X j < AV
            · skip
              have hc1 : c = 1 := by rw [← hc]; exact (cmp_gt _ _).1 hgt
              subst hc1
              have HGT : Hid (mxv X j < AV) := hgt
              clear hc hgt
              obtain ⟨⟨b_a_0, b_a_1, b_a_2, b_a_3⟩, ⟨b_a_5, b_a_6, b_a_7, b_a_8⟩, b_a_4⟩ := b_a.out
              obtain ⟨⟨b_m_0, b_m_1, b_m_2, b_m_3⟩, ⟨b_m_5, b_m_6, b_m_7, b_m_8⟩, b_m_4⟩ := b_m.out
              go_wp2_with fail
              clear b_a_0 b_a_1 b_a_2 b_a_3 b_a_4 b_a_5 b_a_6 b_a_7 b_a_8 b_m_0 b_m_1 b_m_2 b_m_3 b_m_4 b_m_5 b_m_6 b_m_7 b_m_8
              have ct : Cnt 1 := Cnt.mk _
              have HBa : Hid (Below w5_.heap.size w5_ w5_) := Below.refl _ _
              go_region_held3 (fun w' => (w'.cell? ⟨k_a, 0, none⟩ = some (.bool a_n) ∧ w'.cell? ⟨k_a, 1, none⟩ = some (.slice a_a a_m a_c) ∧ w'.cell? ⟨k_a, 2, none⟩ = some (.int .i64 a_p) ∧ w'.cell? ⟨k_a, 3, none⟩ = some (.slice none 0 0)) ∧ (w'.cell? ⟨k_m, 0, none⟩ = some (.bool m_n) ∧ w'.cell? ⟨k_m, 1, none⟩ = some (.slice m_a m_m m_c) ∧ w'.cell? ⟨k_m, 2, none⟩ = some (.int .i64 m_p) ∧ w'.cell? ⟨k_m, 3, none⟩ = some (.slice none 0 0))) (exact ⟨(b_a.out.below (by with_reducible repeat (first | (refine Below.drew ?_) | (refine bmore ?_ _) | exact HBa.out | exact Below.refl _ _))).cells, (b_m.out.below (by with_reducible repeat (first | (refine Below.drew ?_) | (refine bmore ?_ _) | exact HBa.out | exact Below.refl _ _))).cells⟩) (first | (have ck : Cnt 1 := ct; go_at_call 34; refine (dAbs _ _ B0 17 17 _ (t_a.out.below (by with_reducible repeat (first | (refine Below.drew ?_) | (refine bmore ?_ _) | exact HBa.out | exact Below.refl _ _))) (by omega) (by omega)).mono ?_; rintro e Wq0_ ⟨r1x0_v, rfl, ht_, hb_⟩; obtain ⟨r1x0_n, r1x0_a, r1x0_m, r1x0_c, r1x0_p, rfl, ht2_⟩ := ht_.numform; clear ht_; have hbt_ : Below w5_.heap.size w5_ Wq0_ := bstep (by with_reducible repeat (first | (refine Below.drew ?_) | (refine bmore ?_ _) | exact (Below.refl _ _) | exact Below.refl _ _)) hb_; have t_r1x0 : Hid (Tell Wq0_ B0 (.agg #[.bool r1x0_n, .slice r1x0_a r1x0_m r1x0_c, .int .i64 r1x0_p, .slice none 0 0]) 17 17 (((xv x).natAbs : Int))) := ht2_.base (Nat.le_trans ZB0.out (Below.size (B := w5_.heap.size) (by with_reducible repeat (first | (refine Below.drew ?_) | (refine bmore ?_ _) | exact HBa.out | exact Below.refl _ _)))); clear ht2_; replace HBa : Hid (Below w5_.heap.size w5_ Wq0_) := bstep HBa.out hbt_; replace ct : Cnt 2 := Cnt.mk _; clear hb_ hbt_ ck) | (have ck : Cnt 2 := ct; go_at_call 35; refine (dCmp _ _ _ B0 17 17 _ _ (t_r1x0.out.below (by with_reducible repeat (first | (refine Below.drew ?_) | (refine bmore ?_ _) | exact (Below.refl _ _) | exact Below.refl _ _))) (t_m.out.below (by with_reducible repeat (first | (refine Below.drew ?_) | (refine bmore ?_ _) | exact HBa.out | exact Below.refl _ _))) (by omega) (by omega)).mono ?_; rintro e Wq1_ ⟨rfl, hb_⟩; rw [HAV.out, HC.out]; have hbt_ : Below Wq0_.heap.size Wq0_ Wq1_ := bstep (by with_reducible repeat (first | (refine Below.drew ?_) | (refine bmore ?_ _) | exact (Below.refl _ _) | exact Below.refl _ _)) hb_; replace t_r1x0 : Hid (Tell _ _ _ _ _ _) := t_r1x0.out.below hbt_; replace HBa : Hid (Below w5_.heap.size w5_ Wq1_) := bstep HBa.out hbt_; replace ct : Cnt 3 := Cnt.mk _; clear hb_ hbt_ ck))
              replace BW : Hid (Below _ _ _) := bstep BW.out HBa.out
              replace UX : Hid (URow _ _ _ _ _) := UX.out.below HBa.out
              replace UU : Hid (URow _ _ _ _ _) := UU.out.below HBa.out
              replace b_m : Hid (BoxF _ _ _ _ _ _) := b_m.out.below HBa.out
              replace t_m : Hid (Tell _ _ _ _ _ _) := t_m.out.below HBa.out
              replace ZB0 : Hid (_ ≤ _) := Nat.le_trans ZB0.out (Below.size HBa.out)
              replace b_a : Hid (BoxF _ _ _ _ _ _) := b_a.out.below HBa.out
              replace t_a : Hid (Tell _ _ _ _ _ _) := t_a.out.below HBa.out
              clear HBa ct t_r1x0
              obtain ⟨⟨b_a_0, b_a_1, b_a_2, b_a_3⟩, ⟨b_a_5, b_a_6, b_a_7, b_a_8⟩, b_a_4⟩ := b_a.out
              go_wp2_with fail
              refine (dAbs _ _ B0 17 17 _ t_a.out (by omega) (by omega)).mono ?_
              rintro e w6_ ⟨r_v, rfl, ht_, hb_⟩
              obtain ⟨r_n, r_a, r_m, r_c, r_p, rfl, ht2_⟩ := ht_.numform
              clear ht_
              clear b_a_0 b_a_1 b_a_2 b_a_3 b_a_4 b_a_5 b_a_6 b_a_7 b_a_8
              have t_r : Hid (Tell _ B0 (.agg #[.bool r_n, .slice r_a r_m r_c, .int .i64 r_p, .slice none 0 0]) 17 17 (mxv X (j + 1))) := (ht2_.base ZB0.out).eq (by rw [EM.out, if_pos HGT.out, HAV.out])
              clear ht2_
              replace BW : Hid (Below _ _ _) := bstep BW.out hb_
              replace UX : Hid (URow _ _ _ _ _) := UX.out.below hb_
              replace UU : Hid (URow _ _ _ _ _) := UU.out.below hb_
              replace b_m : Hid (BoxF _ _ _ _ _ _) := b_m.out.below hb_
              replace t_m : Hid (Tell _ _ _ _ _ _) := t_m.out.below hb_
              replace ZB0 : Hid (_ ≤ _) := Nat.le_trans ZB0.out (Below.size hb_)
              replace b_a : Hid (BoxF _ _ _ _ _ _) := b_a.out.below hb_
              replace t_a : Hid (Tell _ _ _ _ _ _) := t_a.out.below hb_
              clear hb_
              obtain ⟨⟨b_m_0, b_m_1, b_m_2, b_m_3⟩, ⟨b_m_5, b_m_6, b_m_7, b_m_8⟩, b_m_4⟩ := b_m.out
              go_wp2
              go_roundw
              case rel => exact ⟨j + 1, false, _, _, _, _, _, rfl, by go_num, by omega, FB2, b_m.out.put (.bool r_n) (.slice r_a r_m r_c) (.int .i64 r_p) (.slice none 0 0), t_r.out.put KB_m.out (.bool r_n) (.slice r_a r_m r_c) (.int .i64 r_p) (.slice none 0 0), Bes.old BW.out (bes_puts _ k_m (.bool r_n) (.slice r_a r_m r_c) (.int .i64 r_p) (.slice none 0 0)) L_m.out, UX.out.puts (HX.out.apt (fun k e => by injection e with e; rw [← e]; exact L_m.out)) (.bool r_n) (.slice r_a r_m r_c) (.int .i64 r_p) (.slice none 0 0), UU.out.puts AU.out (.bool r_n) (.slice r_a r_m r_c) (.int .i64 r_p) (.slice none 0 0), Nat.le_trans ZB0.out (Bes.size (bes_puts _ k_m (.bool r_n) (.slice r_a r_m r_c) (.int .i64 r_p) (.slice none 0 0)))⟩
              case measure => simp [intOf]; omega
            · skip
              have hc1 : ¬ 0 < c := by have := (cmp_gt _ _).2 hgt; rw [hc] at this; omega
              have HGT : Hid (AV ≤ mxv X j) := Int.not_lt.1 hgt
              clear hc hgt
              obtain ⟨⟨b_a_0, b_a_1, b_a_2, b_a_3⟩, ⟨b_a_5, b_a_6, b_a_7, b_a_8⟩, b_a_4⟩ := b_a.out
              obtain ⟨⟨b_m_0, b_m_1, b_m_2, b_m_3⟩, ⟨b_m_5, b_m_6, b_m_7, b_m_8⟩, b_m_4⟩ := b_m.out
              go_wp2_with fail
              clear b_a_0 b_a_1 b_a_2 b_a_3 b_a_4 b_a_5 b_a_6 b_a_7 b_a_8 b_m_0 b_m_1 b_m_2 b_m_3 b_m_4 b_m_5 b_m_6 b_m_7 b_m_8
              have ct : Cnt 1 := Cnt.mk _
              have HBa : Hid (Below w5_.heap.size w5_ w5_) := Below.refl _ _
              go_region_held3 (fun w' => (w'.cell? ⟨k_a, 0, none⟩ = some (.bool a_n) ∧ w'.cell? ⟨k_a, 1, none⟩ = some (.slice a_a a_m a_c) ∧ w'.cell? ⟨k_a, 2, none⟩ = some (.int .i64 a_p) ∧ w'.cell? ⟨k_a, 3, none⟩ = some (.slice none 0 0)) ∧ (w'.cell? ⟨k_m, 0, none⟩ = some (.bool m_n) ∧ w'.cell? ⟨k_m, 1, none⟩ = some (.slice m_a m_m m_c) ∧ w'.cell? ⟨k_m, 2, none⟩ = some (.int .i64 m_p) ∧ w'.cell? ⟨k_m, 3, none⟩ = some (.slice none 0 0))) (exact ⟨(b_a.out.below (by with_reducible repeat (first | (refine Below.drew ?_) | (refine bmore ?_ _) | exact HBa.out | exact Below.refl _ _))).cells, (b_m.out.below (by with_reducible repeat (first | (refine Below.drew ?_) | (refine bmore ?_ _) | exact HBa.out | exact Below.refl _ _))).cells⟩) (first | (have ck : Cnt 1 := ct; go_at_call 34; refine (dAbs _ _ B0 17 17 _ (t_a.out.below (by with_reducible repeat (first | (refine Below.drew ?_) | (refine bmore ?_ _) | exact HBa.out | exact Below.refl _ _))) (by omega) (by omega)).mono ?_; rintro e Wq0_ ⟨r1x0_v, rfl, ht_, hb_⟩; obtain ⟨r1x0_n, r1x0_a, r1x0_m, r1x0_c, r1x0_p, rfl, ht2_⟩ := ht_.numform; clear ht_; have hbt_ : Below w5_.heap.size w5_ Wq0_ := bstep (by with_reducible repeat (first | (refine Below.drew ?_) | (refine bmore ?_ _) | exact (Below.refl _ _) | exact Below.refl _ _)) hb_; have t_r1x0 : Hid (Tell Wq0_ B0 (.agg #[.bool r1x0_n, .slice r1x0_a r1x0_m r1x0_c, .int .i64 r1x0_p, .slice none 0 0]) 17 17 (((xv x).natAbs : Int))) := ht2_.base (Nat.le_trans ZB0.out (Below.size (B := w5_.heap.size) (by with_reducible repeat (first | (refine Below.drew ?_) | (refine bmore ?_ _) | exact HBa.out | exact Below.refl _ _)))); clear ht2_; replace HBa : Hid (Below w5_.heap.size w5_ Wq0_) := bstep HBa.out hbt_; replace ct : Cnt 2 := Cnt.mk _; clear hb_ hbt_ ck) | (have ck : Cnt 2 := ct; go_at_call 35; refine (dCmp _ _ _ B0 17 17 _ _ (t_r1x0.out.below (by with_reducible repeat (first | (refine Below.drew ?_) | (refine bmore ?_ _) | exact (Below.refl _ _) | exact Below.refl _ _))) (t_m.out.below (by with_reducible repeat (first | (refine Below.drew ?_) | (refine bmore ?_ _) | exact HBa.out | exact Below.refl _ _))) (by omega) (by omega)).mono ?_; rintro e Wq1_ ⟨rfl, hb_⟩; rw [HAV.out, HC.out]; have hbt_ : Below Wq0_.heap.size Wq0_ Wq1_ := bstep (by with_reducible repeat (first | (refine Below.drew ?_) | (refine bmore ?_ _) | exact (Below.refl _ _) | exact Below.refl _ _)) hb_; replace t_r1x0 : Hid (Tell _ _ _ _ _ _) := t_r1x0.out.below hbt_; replace HBa : Hid (Below w5_.heap.size w5_ Wq1_) := bstep HBa.out hbt_; replace ct : Cnt 3 := Cnt.mk _; clear hb_ hbt_ ck))
              replace BW : Hid (Below _ _ _) := bstep BW.out HBa.out
              replace UX : Hid (URow _ _ _ _ _) := UX.out.below HBa.out
              replace UU : Hid (URow _ _ _ _ _) := UU.out.below HBa.out
              replace b_m : Hid (BoxF _ _ _ _ _ _) := b_m.out.below HBa.out
              replace t_m : Hid (Tell _ _ _ _ _ _) := t_m.out.below HBa.out
              replace ZB0 : Hid (_ ≤ _) := Nat.le_trans ZB0.out (Below.size HBa.out)
              replace b_a : Hid (BoxF _ _ _ _ _ _) := b_a.out.below HBa.out
              replace t_a : Hid (Tell _ _ _ _ _ _) := t_a.out.below HBa.out
              clear HBa ct t_r1x0
              have t_r : Hid (Tell _ B0 (.agg #[.bool m_n, .slice m_a m_m m_c, .int .i64 m_p, .slice none 0 0]) 17 17 (mxv X (j + 1))) := t_m.out.eq (by rw [EM.out, if_neg (Int.not_lt.2 HGT.out)])
              go_wp2
              go_roundw
              case rel => exact ⟨j + 1, false, _, _, _, _, _, rfl, by go_num, by omega, FB2, b_m, t_r, BW, UX, UU, ZB0⟩
              case measure => simp [intOf]; omega
      by_cases hhi : 20000 < a1
      · have hhi2 : 20000 ≤ a1 := by omega
        have hlo3 : -20000 ≤ a1 := by omega
        have hlo4 : ¬ a1 ≤ -20000 := by omega
        have hhi3 : ¬ a1 ≤ 20000 := by omega
        have hhi4 : ¬ a1 < 20000 := by omega
        have hlo5 : -20000 < a1 := by omega
        go_wp2_with fail
        refine (mScale x _ _ x0 x1 (by omega) (by omega)).mono ?_
        rintro e w3_ ⟨rfl, hb_⟩
        rw [show (scaleS x (-20000)).1 = uv by rw [HSU.out]; congr 2; omega]
        replace q2 := (Below.cell (p := ⟨gu, j, none⟩) hb_ l_q2).trans q2
        replace BW : Hid (Below _ _ _) := bstep BW.out hb_
        replace UX : Hid (URow _ _ _ _ _) := UX.out.below hb_
        replace UU : Hid (URow _ _ _ _ _) := UU.out.below hb_
        replace b_m : Hid (BoxF _ _ _ _ _ _) := b_m.out.below hb_
        replace t_m : Hid (Tell _ _ _ _ _ _) := t_m.out.below hb_
        replace ZB0 : Hid (_ ≤ _) := Nat.le_trans ZB0.out (Below.size hb_)
        clear hb_
        go_wp2_with fail
        refine (dOf x _ x0 x1).mono ?_
        rintro e w4_ ⟨a_v, rfl, ht_, hb_⟩
        obtain ⟨a_n, a_a, a_m, a_c, a_p, rfl, ht2_⟩ := ht_.numform
        replace ht2_ := ht2_.base (b' := B0) ZB0.out
        clear ht_
        replace BW : Hid (Below _ _ _) := bstep BW.out hb_
        replace UX : Hid (URow _ _ _ _ _) := UX.out.below hb_
        replace UU : Hid (URow _ _ _ _ _) := UU.out.below hb_
        replace b_m : Hid (BoxF _ _ _ _ _ _) := b_m.out.below hb_
        replace t_m : Hid (Tell _ _ _ _ _ _) := t_m.out.below hb_
        replace ZB0 : Hid (_ ≤ _) := Nat.le_trans ZB0.out (Below.size hb_)
        clear hb_
        go_upto_region 17 with fail
        have mB_ := BoxF.made w4_ (.bool a_n) (.slice a_a a_m a_c) (.int .i64 a_p) (.slice none 0 0) 44
        have tB_ := ht2_.alloc (.cells #[.bool a_n, .slice a_a a_m a_c, .int .i64 a_p, .slice none 0 0] 44)
        have b_ := bmore (Below.refl w4_.heap.size w4_) (.cells #[.bool a_n, .slice a_a a_m a_c, .int .i64 a_p, .slice none 0 0] 44)
        clear ht2_
        generalize (w4_.alloc (.cells #[.bool a_n, .slice a_a a_m a_c, .int .i64 a_p, .slice none 0 0] 44)) = w5_ at mB_ b_ tB_ ⊢
        obtain ⟨k_a, hk_a⟩ : ∃ k, k = w4_.heap.size := ⟨_, rfl⟩
        have N_ma : Hid (k_m ≠ k_a) := by have := b_m.out.2.2; show _ ≠ _; omega
        rw [← hk_a] at mB_ ⊢
        replace BW : Hid (Below _ _ _) := bstep BW.out b_
        replace UX : Hid (URow _ _ _ _ _) := UX.out.below b_
        replace UU : Hid (URow _ _ _ _ _) := UU.out.below b_
        replace b_m : Hid (BoxF _ _ _ _ _ _) := b_m.out.below b_
        replace t_m : Hid (Tell _ _ _ _ _ _) := t_m.out.below b_
        replace ZB0 : Hid (_ ≤ _) := Nat.le_trans ZB0.out (Below.size b_)
        have b_a : Hid (BoxF w5_ k_a (.bool a_n) (.slice a_a a_m a_c) (.int .i64 a_p) (.slice none 0 0)) := mB_
        have t_a : Hid (Tell w5_ B0 (.agg #[.bool a_n, .slice a_a a_m a_c, .int .i64 a_p, .slice none 0 0]) 17 17 (xv x)) := tB_
        clear mB_ b_ tB_ hk_a
        clear q1 q2 l_q1 l_q2 HSU
        by_cases fnx : mag x < 9218868437227405312
        · have hdx : decide (mag x < 9218868437227405312) = true := decide_eq_true fnx
          have FNX : Hid (mag x < 9218868437227405312) := fnx
          clear fnx
          cases fb
          · skip
            have FB2 : Hid (FinB false X (j + 1)) := ⟨fun h => absurd h (by decide), fun h => FB.out.2 (fun i hi => h i (by omega))⟩
            clear FB FNX
            obtain ⟨c, hc⟩ : ∃ c, cmpZ AV (mxv X j) = c := ⟨_, rfl⟩
            have HC : Hid (_ = _) := hc
            have EM : Hid (mxv X (j + 1) = if mxv X j < AV then AV else mxv X j) := by show (if mxv X j < ((xv (X j)).natAbs : Int) then ((xv (X j)).natAbs : Int) else mxv X j) = _; rw [HXX.out, HAV.out]
            by_cases hgt : mxv X j < AV
            · skip
              have hc1 : c = 1 := by rw [← hc]; exact (cmp_gt _ _).1 hgt
              subst hc1
              have HGT : Hid (mxv X j < AV) := hgt
              clear hc hgt
              obtain ⟨⟨b_a_0, b_a_1, b_a_2, b_a_3⟩, ⟨b_a_5, b_a_6, b_a_7, b_a_8⟩, b_a_4⟩ := b_a.out
              obtain ⟨⟨b_m_0, b_m_1, b_m_2, b_m_3⟩, ⟨b_m_5, b_m_6, b_m_7, b_m_8⟩, b_m_4⟩ := b_m.out
              go_wp2_with fail
              clear b_a_0 b_a_1 b_a_2 b_a_3 b_a_4 b_a_5 b_a_6 b_a_7 b_a_8 b_m_0 b_m_1 b_m_2 b_m_3 b_m_4 b_m_5 b_m_6 b_m_7 b_m_8
              have ct : Cnt 1 := Cnt.mk _
              have HBa : Hid (Below w5_.heap.size w5_ w5_) := Below.refl _ _
              go_region_held3 (fun w' => (w'.cell? ⟨k_a, 0, none⟩ = some (.bool a_n) ∧ w'.cell? ⟨k_a, 1, none⟩ = some (.slice a_a a_m a_c) ∧ w'.cell? ⟨k_a, 2, none⟩ = some (.int .i64 a_p) ∧ w'.cell? ⟨k_a, 3, none⟩ = some (.slice none 0 0)) ∧ (w'.cell? ⟨k_m, 0, none⟩ = some (.bool m_n) ∧ w'.cell? ⟨k_m, 1, none⟩ = some (.slice m_a m_m m_c) ∧ w'.cell? ⟨k_m, 2, none⟩ = some (.int .i64 m_p) ∧ w'.cell? ⟨k_m, 3, none⟩ = some (.slice none 0 0))) (exact ⟨(b_a.out.below (by with_reducible repeat (first | (refine Below.drew ?_) | (refine bmore ?_ _) | exact HBa.out | exact Below.refl _ _))).cells, (b_m.out.below (by with_reducible repeat (first | (refine Below.drew ?_) | (refine bmore ?_ _) | exact HBa.out | exact Below.refl _ _))).cells⟩) (first | (have ck : Cnt 1 := ct; go_at_call 34; refine (dAbs _ _ B0 17 17 _ (t_a.out.below (by with_reducible repeat (first | (refine Below.drew ?_) | (refine bmore ?_ _) | exact HBa.out | exact Below.refl _ _))) (by omega) (by omega)).mono ?_; rintro e Wq0_ ⟨r1x0_v, rfl, ht_, hb_⟩; obtain ⟨r1x0_n, r1x0_a, r1x0_m, r1x0_c, r1x0_p, rfl, ht2_⟩ := ht_.numform; clear ht_; have hbt_ : Below w5_.heap.size w5_ Wq0_ := bstep (by with_reducible repeat (first | (refine Below.drew ?_) | (refine bmore ?_ _) | exact (Below.refl _ _) | exact Below.refl _ _)) hb_; have t_r1x0 : Hid (Tell Wq0_ B0 (.agg #[.bool r1x0_n, .slice r1x0_a r1x0_m r1x0_c, .int .i64 r1x0_p, .slice none 0 0]) 17 17 (((xv x).natAbs : Int))) := ht2_.base (Nat.le_trans ZB0.out (Below.size (B := w5_.heap.size) (by with_reducible repeat (first | (refine Below.drew ?_) | (refine bmore ?_ _) | exact HBa.out | exact Below.refl _ _)))); clear ht2_; replace HBa : Hid (Below w5_.heap.size w5_ Wq0_) := bstep HBa.out hbt_; replace ct : Cnt 2 := Cnt.mk _; clear hb_ hbt_ ck) | (have ck : Cnt 2 := ct; go_at_call 35; refine (dCmp _ _ _ B0 17 17 _ _ (t_r1x0.out.below (by with_reducible repeat (first | (refine Below.drew ?_) | (refine bmore ?_ _) | exact (Below.refl _ _) | exact Below.refl _ _))) (t_m.out.below (by with_reducible repeat (first | (refine Below.drew ?_) | (refine bmore ?_ _) | exact HBa.out | exact Below.refl _ _))) (by omega) (by omega)).mono ?_; rintro e Wq1_ ⟨rfl, hb_⟩; rw [HAV.out, HC.out]; have hbt_ : Below Wq0_.heap.size Wq0_ Wq1_ := bstep (by with_reducible repeat (first | (refine Below.drew ?_) | (refine bmore ?_ _) | exact (Below.refl _ _) | exact Below.refl _ _)) hb_; replace t_r1x0 : Hid (Tell _ _ _ _ _ _) := t_r1x0.out.below hbt_; replace HBa : Hid (Below w5_.heap.size w5_ Wq1_) := bstep HBa.out hbt_; replace ct : Cnt 3 := Cnt.mk _; clear hb_ hbt_ ck))
              replace BW : Hid (Below _ _ _) := bstep BW.out HBa.out
              replace UX : Hid (URow _ _ _ _ _) := UX.out.below HBa.out
              replace UU : Hid (URow _ _ _ _ _) := UU.out.below HBa.out
              replace b_m : Hid (BoxF _ _ _ _ _ _) := b_m.out.below HBa.out
              replace t_m : Hid (Tell _ _ _ _ _ _) := t_m.out.below HBa.out
              replace ZB0 : Hid (_ ≤ _) := Nat.le_trans ZB0.out (Below.size HBa.out)
              replace b_a : Hid (BoxF _ _ _ _ _ _) := b_a.out.below HBa.out
              replace t_a : Hid (Tell _ _ _ _ _ _) := t_a.out.below HBa.out
              clear HBa ct t_r1x0
              obtain ⟨⟨b_a_0, b_a_1, b_a_2, b_a_3⟩, ⟨b_a_5, b_a_6, b_a_7, b_a_8⟩, b_a_4⟩ := b_a.out
              go_wp2_with fail
              refine (dAbs _ _ B0 17 17 _ t_a.out (by omega) (by omega)).mono ?_
              rintro e w6_ ⟨r_v, rfl, ht_, hb_⟩
              obtain ⟨r_n, r_a, r_m, r_c, r_p, rfl, ht2_⟩ := ht_.numform
              clear ht_
              clear b_a_0 b_a_1 b_a_2 b_a_3 b_a_4 b_a_5 b_a_6 b_a_7 b_a_8
              have t_r : Hid (Tell _ B0 (.agg #[.bool r_n, .slice r_a r_m r_c, .int .i64 r_p, .slice none 0 0]) 17 17 (mxv X (j + 1))) := (ht2_.base ZB0.out).eq (by rw [EM.out, if_pos HGT.out, HAV.out])
              clear ht2_
              replace BW : Hid (Below _ _ _) := bstep BW.out hb_
              replace UX : Hid (URow _ _ _ _ _) := UX.out.below hb_
              replace UU : Hid (URow _ _ _ _ _) := UU.out.below hb_
              replace b_m : Hid (BoxF _ _ _ _ _ _) := b_m.out.below hb_
              replace t_m : Hid (Tell _ _ _ _ _ _) := t_m.out.below hb_
              replace ZB0 : Hid (_ ≤ _) := Nat.le_trans ZB0.out (Below.size hb_)
              replace b_a : Hid (BoxF _ _ _ _ _ _) := b_a.out.below hb_
              replace t_a : Hid (Tell _ _ _ _ _ _) := t_a.out.below hb_
              clear hb_
              obtain ⟨⟨b_m_0, b_m_1, b_m_2, b_m_3⟩, ⟨b_m_5, b_m_6, b_m_7, b_m_8⟩, b_m_4⟩ := b_m.out
              go_wp2
              go_roundw
              case rel => exact ⟨j + 1, false, _, _, _, _, _, rfl, by go_num, by omega, FB2, b_m.out.put (.bool r_n) (.slice r_a r_m r_c) (.int .i64 r_p) (.slice none 0 0), t_r.out.put KB_m.out (.bool r_n) (.slice r_a r_m r_c) (.int .i64 r_p) (.slice none 0 0), Bes.old BW.out (bes_puts _ k_m (.bool r_n) (.slice r_a r_m r_c) (.int .i64 r_p) (.slice none 0 0)) L_m.out, UX.out.puts (HX.out.apt (fun k e => by injection e with e; rw [← e]; exact L_m.out)) (.bool r_n) (.slice r_a r_m r_c) (.int .i64 r_p) (.slice none 0 0), UU.out.puts AU.out (.bool r_n) (.slice r_a r_m r_c) (.int .i64 r_p) (.slice none 0 0), Nat.le_trans ZB0.out (Bes.size (bes_puts _ k_m (.bool r_n) (.slice r_a r_m r_c) (.int .i64 r_p) (.slice none 0 0)))⟩
              case measure => simp [intOf]; omega
            · skip
              have hc1 : ¬ 0 < c := by have := (cmp_gt _ _).2 hgt; rw [hc] at this; omega
              have HGT : Hid (AV ≤ mxv X j) := Int.not_lt.1 hgt
              clear hc hgt
              obtain ⟨⟨b_a_0, b_a_1, b_a_2, b_a_3⟩, ⟨b_a_5, b_a_6, b_a_7, b_a_8⟩, b_a_4⟩ := b_a.out
              obtain ⟨⟨b_m_0, b_m_1, b_m_2, b_m_3⟩, ⟨b_m_5, b_m_6, b_m_7, b_m_8⟩, b_m_4⟩ := b_m.out
              go_wp2_with fail
              clear b_a_0 b_a_1 b_a_2 b_a_3 b_a_4 b_a_5 b_a_6 b_a_7 b_a_8 b_m_0 b_m_1 b_m_2 b_m_3 b_m_4 b_m_5 b_m_6 b_m_7 b_m_8
              have ct : Cnt 1 := Cnt.mk _
              have HBa : Hid (Below w5_.heap.size w5_ w5_) := Below.refl _ _
              go_region_held3 (fun w' => (w'.cell? ⟨k_a, 0, none⟩ = some (.bool a_n) ∧ w'.cell? ⟨k_a, 1, none⟩ = some (.slice a_a a_m a_c) ∧ w'.cell? ⟨k_a, 2, none⟩ = some (.int .i64 a_p) ∧ w'.cell? ⟨k_a, 3, none⟩ = some (.slice none 0 0)) ∧ (w'.cell? ⟨k_m, 0, none⟩ = some (.bool m_n) ∧ w'.cell? ⟨k_m, 1, none⟩ = some (.slice m_a m_m m_c) ∧ w'.cell? ⟨k_m, 2, none⟩ = some (.int .i64 m_p) ∧ w'.cell? ⟨k_m, 3, none⟩ = some (.slice none 0 0))) (exact ⟨(b_a.out.below (by with_reducible repeat (first | (refine Below.drew ?_) | (refine bmore ?_ _) | exact HBa.out | exact Below.refl _ _))).cells, (b_m.out.below (by with_reducible repeat (first | (refine Below.drew ?_) | (refine bmore ?_ _) | exact HBa.out | exact Below.refl _ _))).cells⟩) (first | (have ck : Cnt 1 := ct; go_at_call 34; refine (dAbs _ _ B0 17 17 _ (t_a.out.below (by with_reducible repeat (first | (refine Below.drew ?_) | (refine bmore ?_ _) | exact HBa.out | exact Below.refl _ _))) (by omega) (by omega)).mono ?_; rintro e Wq0_ ⟨r1x0_v, rfl, ht_, hb_⟩; obtain ⟨r1x0_n, r1x0_a, r1x0_m, r1x0_c, r1x0_p, rfl, ht2_⟩ := ht_.numform; clear ht_; have hbt_ : Below w5_.heap.size w5_ Wq0_ := bstep (by with_reducible repeat (first | (refine Below.drew ?_) | (refine bmore ?_ _) | exact (Below.refl _ _) | exact Below.refl _ _)) hb_; have t_r1x0 : Hid (Tell Wq0_ B0 (.agg #[.bool r1x0_n, .slice r1x0_a r1x0_m r1x0_c, .int .i64 r1x0_p, .slice none 0 0]) 17 17 (((xv x).natAbs : Int))) := ht2_.base (Nat.le_trans ZB0.out (Below.size (B := w5_.heap.size) (by with_reducible repeat (first | (refine Below.drew ?_) | (refine bmore ?_ _) | exact HBa.out | exact Below.refl _ _)))); clear ht2_; replace HBa : Hid (Below w5_.heap.size w5_ Wq0_) := bstep HBa.out hbt_; replace ct : Cnt 2 := Cnt.mk _; clear hb_ hbt_ ck) | (have ck : Cnt 2 := ct; go_at_call 35; refine (dCmp _ _ _ B0 17 17 _ _ (t_r1x0.out.below (by with_reducible repeat (first | (refine Below.drew ?_) | (refine bmore ?_ _) | exact (Below.refl _ _) | exact Below.refl _ _))) (t_m.out.below (by with_reducible repeat (first | (refine Below.drew ?_) | (refine bmore ?_ _) | exact HBa.out | exact Below.refl _ _))) (by omega) (by omega)).mono ?_; rintro e Wq1_ ⟨rfl, hb_⟩; rw [HAV.out, HC.out]; have hbt_ : Below Wq0_.heap.size Wq0_ Wq1_ := bstep (by with_reducible repeat (first | (refine Below.drew ?_) | (refine bmore ?_ _) | exact (Below.refl _ _) | exact Below.refl _ _)) hb_; replace t_r1x0 : Hid (Tell _ _ _ _ _ _) := t_r1x0.out.below hbt_; replace HBa : Hid (Below w5_.heap.size w5_ Wq1_) := bstep HBa.out hbt_; replace ct : Cnt 3 := Cnt.mk _; clear hb_ hbt_ ck))
              replace BW : Hid (Below _ _ _) := bstep BW.out HBa.out
              replace UX : Hid (URow _ _ _ _ _) := UX.out.below HBa.out
              replace UU : Hid (URow _ _ _ _ _) := UU.out.below HBa.out
              replace b_m : Hid (BoxF _ _ _ _ _ _) := b_m.out.below HBa.out
              replace t_m : Hid (Tell _ _ _ _ _ _) := t_m.out.below HBa.out
              replace ZB0 : Hid (_ ≤ _) := Nat.le_trans ZB0.out (Below.size HBa.out)
              replace b_a : Hid (BoxF _ _ _ _ _ _) := b_a.out.below HBa.out
              replace t_a : Hid (Tell _ _ _ _ _ _) := t_a.out.below HBa.out
              clear HBa ct t_r1x0
              have t_r : Hid (Tell _ B0 (.agg #[.bool m_n, .slice m_a m_m m_c, .int .i64 m_p, .slice none 0 0]) 17 17 (mxv X (j + 1))) := t_m.out.eq (by rw [EM.out, if_neg (Int.not_lt.2 HGT.out)])
              go_wp2
              go_roundw
              case rel => exact ⟨j + 1, false, _, _, _, _, _, rfl, by go_num, by omega, FB2, b_m, t_r, BW, UX, UU, ZB0⟩
              case measure => simp [intOf]; omega
          · skip
            have FB2 : Hid (FinB true X (j + 1)) := ⟨fun _ i hi => by rcases Nat.lt_or_ge i j with g | g; exact FB.out.1 rfl i g; obtain rfl : i = j := (by omega); rw [HXX.out]; exact FNX.out, fun _ => rfl⟩
            clear FB FNX
            obtain ⟨c, hc⟩ : ∃ c, cmpZ AV (mxv X j) = c := ⟨_, rfl⟩
            have HC : Hid (_ = _) := hc
            have EM : Hid (mxv X (j + 1) = if mxv X j < AV then AV else mxv X j) := by show (if mxv X j < ((xv (X j)).natAbs : Int) then ((xv (X j)).natAbs : Int) else mxv X j) = _; rw [HXX.out, HAV.out]
            by_cases hgt : mxv X j < AV
            · skip
              have hc1 : c = 1 := by rw [← hc]; exact (cmp_gt _ _).1 hgt
              subst hc1
              have HGT : Hid (mxv X j < AV) := hgt
              clear hc hgt
              obtain ⟨⟨b_a_0, b_a_1, b_a_2, b_a_3⟩, ⟨b_a_5, b_a_6, b_a_7, b_a_8⟩, b_a_4⟩ := b_a.out
              obtain ⟨⟨b_m_0, b_m_1, b_m_2, b_m_3⟩, ⟨b_m_5, b_m_6, b_m_7, b_m_8⟩, b_m_4⟩ := b_m.out
              go_wp2_with fail
              clear b_a_0 b_a_1 b_a_2 b_a_3 b_a_4 b_a_5 b_a_6 b_a_7 b_a_8 b_m_0 b_m_1 b_m_2 b_m_3 b_m_4 b_m_5 b_m_6 b_m_7 b_m_8
              have ct : Cnt 1 := Cnt.mk _
              have HBa : Hid (Below w5_.heap.size w5_ w5_) := Below.refl _ _
              go_region_held3 (fun w' => (w'.cell? ⟨k_a, 0, none⟩ = some (.bool a_n) ∧ w'.cell? ⟨k_a, 1, none⟩ = some (.slice a_a a_m a_c) ∧ w'.cell? ⟨k_a, 2, none⟩ = some (.int .i64 a_p) ∧ w'.cell? ⟨k_a, 3, none⟩ = some (.slice none 0 0)) ∧ (w'.cell? ⟨k_m, 0, none⟩ = some (.bool m_n) ∧ w'.cell? ⟨k_m, 1, none⟩ = some (.slice m_a m_m m_c) ∧ w'.cell? ⟨k_m, 2, none⟩ = some (.int .i64 m_p) ∧ w'.cell? ⟨k_m, 3, none⟩ = some (.slice none 0 0))) (exact ⟨(b_a.out.below (by with_reducible repeat (first | (refine Below.drew ?_) | (refine bmore ?_ _) | exact HBa.out | exact Below.refl _ _))).cells, (b_m.out.below (by with_reducible repeat (first | (refine Below.drew ?_) | (refine bmore ?_ _) | exact HBa.out | exact Below.refl _ _))).cells⟩) (first | (have ck : Cnt 1 := ct; go_at_call 34; refine (dAbs _ _ B0 17 17 _ (t_a.out.below (by with_reducible repeat (first | (refine Below.drew ?_) | (refine bmore ?_ _) | exact HBa.out | exact Below.refl _ _))) (by omega) (by omega)).mono ?_; rintro e Wq0_ ⟨r1x0_v, rfl, ht_, hb_⟩; obtain ⟨r1x0_n, r1x0_a, r1x0_m, r1x0_c, r1x0_p, rfl, ht2_⟩ := ht_.numform; clear ht_; have hbt_ : Below w5_.heap.size w5_ Wq0_ := bstep (by with_reducible repeat (first | (refine Below.drew ?_) | (refine bmore ?_ _) | exact (Below.refl _ _) | exact Below.refl _ _)) hb_; have t_r1x0 : Hid (Tell Wq0_ B0 (.agg #[.bool r1x0_n, .slice r1x0_a r1x0_m r1x0_c, .int .i64 r1x0_p, .slice none 0 0]) 17 17 (((xv x).natAbs : Int))) := ht2_.base (Nat.le_trans ZB0.out (Below.size (B := w5_.heap.size) (by with_reducible repeat (first | (refine Below.drew ?_) | (refine bmore ?_ _) | exact HBa.out | exact Below.refl _ _)))); clear ht2_; replace HBa : Hid (Below w5_.heap.size w5_ Wq0_) := bstep HBa.out hbt_; replace ct : Cnt 2 := Cnt.mk _; clear hb_ hbt_ ck) | (have ck : Cnt 2 := ct; go_at_call 35; refine (dCmp _ _ _ B0 17 17 _ _ (t_r1x0.out.below (by with_reducible repeat (first | (refine Below.drew ?_) | (refine bmore ?_ _) | exact (Below.refl _ _) | exact Below.refl _ _))) (t_m.out.below (by with_reducible repeat (first | (refine Below.drew ?_) | (refine bmore ?_ _) | exact HBa.out | exact Below.refl _ _))) (by omega) (by omega)).mono ?_; rintro e Wq1_ ⟨rfl, hb_⟩; rw [HAV.out, HC.out]; have hbt_ : Below Wq0_.heap.size Wq0_ Wq1_ := bstep (by with_reducible repeat (first | (refine Below.drew ?_) | (refine bmore ?_ _) | exact (Below.refl _ _) | exact Below.refl _ _)) hb_; replace t_r1x0 : Hid (Tell _ _ _ _ _ _) := t_r1x0.out.below hbt_; replace HBa : Hid (Below w5_.heap.size w5_ Wq1_) := bstep HBa.out hbt_; replace ct : Cnt 3 := Cnt.mk _; clear hb_ hbt_ ck))
              replace BW : Hid (Below _ _ _) := bstep BW.out HBa.out
              replace UX : Hid (URow _ _ _ _ _) := UX.out.below HBa.out
              replace UU : Hid (URow _ _ _ _ _) := UU.out.below HBa.out
              replace b_m : Hid (BoxF _ _ _ _ _ _) := b_m.out.below HBa.out
              replace t_m : Hid (Tell _ _ _ _ _ _) := t_m.out.below HBa.out
              replace ZB0 : Hid (_ ≤ _) := Nat.le_trans ZB0.out (Below.size HBa.out)
              replace b_a : Hid (BoxF _ _ _ _ _ _) := b_a.out.below HBa.out
              replace t_a : Hid (Tell _ _ _ _ _ _) := t_a.out.below HBa.out
              clear HBa ct t_r1x0
              obtain ⟨⟨b_a_0, b_a_1, b_a_2, b_a_3⟩, ⟨b_a_5, b_a_6, b_a_7, b_a_8⟩, b_a_4⟩ := b_a.out
              go_wp2_with fail
              refine (dAbs _ _ B0 17 17 _ t_a.out (by omega) (by omega)).mono ?_
              rintro e w6_ ⟨r_v, rfl, ht_, hb_⟩
              obtain ⟨r_n, r_a, r_m, r_c, r_p, rfl, ht2_⟩ := ht_.numform
              clear ht_
              clear b_a_0 b_a_1 b_a_2 b_a_3 b_a_4 b_a_5 b_a_6 b_a_7 b_a_8
              have t_r : Hid (Tell _ B0 (.agg #[.bool r_n, .slice r_a r_m r_c, .int .i64 r_p, .slice none 0 0]) 17 17 (mxv X (j + 1))) := (ht2_.base ZB0.out).eq (by rw [EM.out, if_pos HGT.out, HAV.out])
              clear ht2_
              replace BW : Hid (Below _ _ _) := bstep BW.out hb_
              replace UX : Hid (URow _ _ _ _ _) := UX.out.below hb_
              replace UU : Hid (URow _ _ _ _ _) := UU.out.below hb_
              replace b_m : Hid (BoxF _ _ _ _ _ _) := b_m.out.below hb_
              replace t_m : Hid (Tell _ _ _ _ _ _) := t_m.out.below hb_
              replace ZB0 : Hid (_ ≤ _) := Nat.le_trans ZB0.out (Below.size hb_)
              replace b_a : Hid (BoxF _ _ _ _ _ _) := b_a.out.below hb_
              replace t_a : Hid (Tell _ _ _ _ _ _) := t_a.out.below hb_
              clear hb_
              obtain ⟨⟨b_m_0, b_m_1, b_m_2, b_m_3⟩, ⟨b_m_5, b_m_6, b_m_7, b_m_8⟩, b_m_4⟩ := b_m.out
              go_wp2
              go_roundw
              case rel => exact ⟨j + 1, true, _, _, _, _, _, rfl, by go_num, by omega, FB2, b_m.out.put (.bool r_n) (.slice r_a r_m r_c) (.int .i64 r_p) (.slice none 0 0), t_r.out.put KB_m.out (.bool r_n) (.slice r_a r_m r_c) (.int .i64 r_p) (.slice none 0 0), Bes.old BW.out (bes_puts _ k_m (.bool r_n) (.slice r_a r_m r_c) (.int .i64 r_p) (.slice none 0 0)) L_m.out, UX.out.puts (HX.out.apt (fun k e => by injection e with e; rw [← e]; exact L_m.out)) (.bool r_n) (.slice r_a r_m r_c) (.int .i64 r_p) (.slice none 0 0), UU.out.puts AU.out (.bool r_n) (.slice r_a r_m r_c) (.int .i64 r_p) (.slice none 0 0), Nat.le_trans ZB0.out (Bes.size (bes_puts _ k_m (.bool r_n) (.slice r_a r_m r_c) (.int .i64 r_p) (.slice none 0 0)))⟩
              case measure => simp [intOf]; omega
            · skip
              have hc1 : ¬ 0 < c := by have := (cmp_gt _ _).2 hgt; rw [hc] at this; omega
              have HGT : Hid (AV ≤ mxv X j) := Int.not_lt.1 hgt
              clear hc hgt
              obtain ⟨⟨b_a_0, b_a_1, b_a_2, b_a_3⟩, ⟨b_a_5, b_a_6, b_a_7, b_a_8⟩, b_a_4⟩ := b_a.out
              obtain ⟨⟨b_m_0, b_m_1, b_m_2, b_m_3⟩, ⟨b_m_5, b_m_6, b_m_7, b_m_8⟩, b_m_4⟩ := b_m.out
              go_wp2_with fail
              clear b_a_0 b_a_1 b_a_2 b_a_3 b_a_4 b_a_5 b_a_6 b_a_7 b_a_8 b_m_0 b_m_1 b_m_2 b_m_3 b_m_4 b_m_5 b_m_6 b_m_7 b_m_8
              have ct : Cnt 1 := Cnt.mk _
              have HBa : Hid (Below w5_.heap.size w5_ w5_) := Below.refl _ _
              go_region_held3 (fun w' => (w'.cell? ⟨k_a, 0, none⟩ = some (.bool a_n) ∧ w'.cell? ⟨k_a, 1, none⟩ = some (.slice a_a a_m a_c) ∧ w'.cell? ⟨k_a, 2, none⟩ = some (.int .i64 a_p) ∧ w'.cell? ⟨k_a, 3, none⟩ = some (.slice none 0 0)) ∧ (w'.cell? ⟨k_m, 0, none⟩ = some (.bool m_n) ∧ w'.cell? ⟨k_m, 1, none⟩ = some (.slice m_a m_m m_c) ∧ w'.cell? ⟨k_m, 2, none⟩ = some (.int .i64 m_p) ∧ w'.cell? ⟨k_m, 3, none⟩ = some (.slice none 0 0))) (exact ⟨(b_a.out.below (by with_reducible repeat (first | (refine Below.drew ?_) | (refine bmore ?_ _) | exact HBa.out | exact Below.refl _ _))).cells, (b_m.out.below (by with_reducible repeat (first | (refine Below.drew ?_) | (refine bmore ?_ _) | exact HBa.out | exact Below.refl _ _))).cells⟩) (first | (have ck : Cnt 1 := ct; go_at_call 34; refine (dAbs _ _ B0 17 17 _ (t_a.out.below (by with_reducible repeat (first | (refine Below.drew ?_) | (refine bmore ?_ _) | exact HBa.out | exact Below.refl _ _))) (by omega) (by omega)).mono ?_; rintro e Wq0_ ⟨r1x0_v, rfl, ht_, hb_⟩; obtain ⟨r1x0_n, r1x0_a, r1x0_m, r1x0_c, r1x0_p, rfl, ht2_⟩ := ht_.numform; clear ht_; have hbt_ : Below w5_.heap.size w5_ Wq0_ := bstep (by with_reducible repeat (first | (refine Below.drew ?_) | (refine bmore ?_ _) | exact (Below.refl _ _) | exact Below.refl _ _)) hb_; have t_r1x0 : Hid (Tell Wq0_ B0 (.agg #[.bool r1x0_n, .slice r1x0_a r1x0_m r1x0_c, .int .i64 r1x0_p, .slice none 0 0]) 17 17 (((xv x).natAbs : Int))) := ht2_.base (Nat.le_trans ZB0.out (Below.size (B := w5_.heap.size) (by with_reducible repeat (first | (refine Below.drew ?_) | (refine bmore ?_ _) | exact HBa.out | exact Below.refl _ _)))); clear ht2_; replace HBa : Hid (Below w5_.heap.size w5_ Wq0_) := bstep HBa.out hbt_; replace ct : Cnt 2 := Cnt.mk _; clear hb_ hbt_ ck) | (have ck : Cnt 2 := ct; go_at_call 35; refine (dCmp _ _ _ B0 17 17 _ _ (t_r1x0.out.below (by with_reducible repeat (first | (refine Below.drew ?_) | (refine bmore ?_ _) | exact (Below.refl _ _) | exact Below.refl _ _))) (t_m.out.below (by with_reducible repeat (first | (refine Below.drew ?_) | (refine bmore ?_ _) | exact HBa.out | exact Below.refl _ _))) (by omega) (by omega)).mono ?_; rintro e Wq1_ ⟨rfl, hb_⟩; rw [HAV.out, HC.out]; have hbt_ : Below Wq0_.heap.size Wq0_ Wq1_ := bstep (by with_reducible repeat (first | (refine Below.drew ?_) | (refine bmore ?_ _) | exact (Below.refl _ _) | exact Below.refl _ _)) hb_; replace t_r1x0 : Hid (Tell _ _ _ _ _ _) := t_r1x0.out.below hbt_; replace HBa : Hid (Below w5_.heap.size w5_ Wq1_) := bstep HBa.out hbt_; replace ct : Cnt 3 := Cnt.mk _; clear hb_ hbt_ ck))
              replace BW : Hid (Below _ _ _) := bstep BW.out HBa.out
              replace UX : Hid (URow _ _ _ _ _) := UX.out.below HBa.out
              replace UU : Hid (URow _ _ _ _ _) := UU.out.below HBa.out
              replace b_m : Hid (BoxF _ _ _ _ _ _) := b_m.out.below HBa.out
              replace t_m : Hid (Tell _ _ _ _ _ _) := t_m.out.below HBa.out
              replace ZB0 : Hid (_ ≤ _) := Nat.le_trans ZB0.out (Below.size HBa.out)
              replace b_a : Hid (BoxF _ _ _ _ _ _) := b_a.out.below HBa.out
              replace t_a : Hid (Tell _ _ _ _ _ _) := t_a.out.below HBa.out
              clear HBa ct t_r1x0
              have t_r : Hid (Tell _ B0 (.agg #[.bool m_n, .slice m_a m_m m_c, .int .i64 m_p, .slice none 0 0]) 17 17 (mxv X (j + 1))) := t_m.out.eq (by rw [EM.out, if_neg (Int.not_lt.2 HGT.out)])
              go_wp2
              go_roundw
              case rel => exact ⟨j + 1, true, _, _, _, _, _, rfl, by go_num, by omega, FB2, b_m, t_r, BW, UX, UU, ZB0⟩
              case measure => simp [intOf]; omega
        · have hdx : decide (mag x < 9218868437227405312) = false := decide_eq_false fnx
          have FNX : Hid (¬ mag x < 9218868437227405312) := fnx
          clear fnx
          cases fb
          · skip
            have FB2 : Hid (FinB false X (j + 1)) := ⟨fun h => absurd h (by decide), fun h => absurd (by have := h j (by omega); rw [HXX.out] at this; exact this) FNX.out⟩
            clear FB FNX
            obtain ⟨c, hc⟩ : ∃ c, cmpZ AV (mxv X j) = c := ⟨_, rfl⟩
            have HC : Hid (_ = _) := hc
            have EM : Hid (mxv X (j + 1) = if mxv X j < AV then AV else mxv X j) := by show (if mxv X j < ((xv (X j)).natAbs : Int) then ((xv (X j)).natAbs : Int) else mxv X j) = _; rw [HXX.out, HAV.out]
            by_cases hgt : mxv X j < AV
            · skip
              have hc1 : c = 1 := by rw [← hc]; exact (cmp_gt _ _).1 hgt
              subst hc1
              have HGT : Hid (mxv X j < AV) := hgt
              clear hc hgt
              obtain ⟨⟨b_a_0, b_a_1, b_a_2, b_a_3⟩, ⟨b_a_5, b_a_6, b_a_7, b_a_8⟩, b_a_4⟩ := b_a.out
              obtain ⟨⟨b_m_0, b_m_1, b_m_2, b_m_3⟩, ⟨b_m_5, b_m_6, b_m_7, b_m_8⟩, b_m_4⟩ := b_m.out
              go_wp2_with fail
              clear b_a_0 b_a_1 b_a_2 b_a_3 b_a_4 b_a_5 b_a_6 b_a_7 b_a_8 b_m_0 b_m_1 b_m_2 b_m_3 b_m_4 b_m_5 b_m_6 b_m_7 b_m_8
              have ct : Cnt 1 := Cnt.mk _
              have HBa : Hid (Below w5_.heap.size w5_ w5_) := Below.refl _ _
              go_region_held3 (fun w' => (w'.cell? ⟨k_a, 0, none⟩ = some (.bool a_n) ∧ w'.cell? ⟨k_a, 1, none⟩ = some (.slice a_a a_m a_c) ∧ w'.cell? ⟨k_a, 2, none⟩ = some (.int .i64 a_p) ∧ w'.cell? ⟨k_a, 3, none⟩ = some (.slice none 0 0)) ∧ (w'.cell? ⟨k_m, 0, none⟩ = some (.bool m_n) ∧ w'.cell? ⟨k_m, 1, none⟩ = some (.slice m_a m_m m_c) ∧ w'.cell? ⟨k_m, 2, none⟩ = some (.int .i64 m_p) ∧ w'.cell? ⟨k_m, 3, none⟩ = some (.slice none 0 0))) (exact ⟨(b_a.out.below (by with_reducible repeat (first | (refine Below.drew ?_) | (refine bmore ?_ _) | exact HBa.out | exact Below.refl _ _))).cells, (b_m.out.below (by with_reducible repeat (first | (refine Below.drew ?_) | (refine bmore ?_ _) | exact HBa.out | exact Below.refl _ _))).cells⟩) (first | (have ck : Cnt 1 := ct; go_at_call 34; refine (dAbs _ _ B0 17 17 _ (t_a.out.below (by with_reducible repeat (first | (refine Below.drew ?_) | (refine bmore ?_ _) | exact HBa.out | exact Below.refl _ _))) (by omega) (by omega)).mono ?_; rintro e Wq0_ ⟨r1x0_v, rfl, ht_, hb_⟩; obtain ⟨r1x0_n, r1x0_a, r1x0_m, r1x0_c, r1x0_p, rfl, ht2_⟩ := ht_.numform; clear ht_; have hbt_ : Below w5_.heap.size w5_ Wq0_ := bstep (by with_reducible repeat (first | (refine Below.drew ?_) | (refine bmore ?_ _) | exact (Below.refl _ _) | exact Below.refl _ _)) hb_; have t_r1x0 : Hid (Tell Wq0_ B0 (.agg #[.bool r1x0_n, .slice r1x0_a r1x0_m r1x0_c, .int .i64 r1x0_p, .slice none 0 0]) 17 17 (((xv x).natAbs : Int))) := ht2_.base (Nat.le_trans ZB0.out (Below.size (B := w5_.heap.size) (by with_reducible repeat (first | (refine Below.drew ?_) | (refine bmore ?_ _) | exact HBa.out | exact Below.refl _ _)))); clear ht2_; replace HBa : Hid (Below w5_.heap.size w5_ Wq0_) := bstep HBa.out hbt_; replace ct : Cnt 2 := Cnt.mk _; clear hb_ hbt_ ck) | (have ck : Cnt 2 := ct; go_at_call 35; refine (dCmp _ _ _ B0 17 17 _ _ (t_r1x0.out.below (by with_reducible repeat (first | (refine Below.drew ?_) | (refine bmore ?_ _) | exact (Below.refl _ _) | exact Below.refl _ _))) (t_m.out.below (by with_reducible repeat (first | (refine Below.drew ?_) | (refine bmore ?_ _) | exact HBa.out | exact Below.refl _ _))) (by omega) (by omega)).mono ?_; rintro e Wq1_ ⟨rfl, hb_⟩; rw [HAV.out, HC.out]; have hbt_ : Below Wq0_.heap.size Wq0_ Wq1_ := bstep (by with_reducible repeat (first | (refine Below.drew ?_) | (refine bmore ?_ _) | exact (Below.refl _ _) | exact Below.refl _ _)) hb_; replace t_r1x0 : Hid (Tell _ _ _ _ _ _) := t_r1x0.out.below hbt_; replace HBa : Hid (Below w5_.heap.size w5_ Wq1_) := bstep HBa.out hbt_; replace ct : Cnt 3 := Cnt.mk _; clear hb_ hbt_ ck))
              replace BW : Hid (Below _ _ _) := bstep BW.out HBa.out
              replace UX : Hid (URow _ _ _ _ _) := UX.out.below HBa.out
              replace UU : Hid (URow _ _ _ _ _) := UU.out.below HBa.out
              replace b_m : Hid (BoxF _ _ _ _ _ _) := b_m.out.below HBa.out
              replace t_m : Hid (Tell _ _ _ _ _ _) := t_m.out.below HBa.out
              replace ZB0 : Hid (_ ≤ _) := Nat.le_trans ZB0.out (Below.size HBa.out)
              replace b_a : Hid (BoxF _ _ _ _ _ _) := b_a.out.below HBa.out
              replace t_a : Hid (Tell _ _ _ _ _ _) := t_a.out.below HBa.out
              clear HBa ct t_r1x0
              obtain ⟨⟨b_a_0, b_a_1, b_a_2, b_a_3⟩, ⟨b_a_5, b_a_6, b_a_7, b_a_8⟩, b_a_4⟩ := b_a.out
              go_wp2_with fail
              refine (dAbs _ _ B0 17 17 _ t_a.out (by omega) (by omega)).mono ?_
              rintro e w6_ ⟨r_v, rfl, ht_, hb_⟩
              obtain ⟨r_n, r_a, r_m, r_c, r_p, rfl, ht2_⟩ := ht_.numform
              clear ht_
              clear b_a_0 b_a_1 b_a_2 b_a_3 b_a_4 b_a_5 b_a_6 b_a_7 b_a_8
              have t_r : Hid (Tell _ B0 (.agg #[.bool r_n, .slice r_a r_m r_c, .int .i64 r_p, .slice none 0 0]) 17 17 (mxv X (j + 1))) := (ht2_.base ZB0.out).eq (by rw [EM.out, if_pos HGT.out, HAV.out])
              clear ht2_
              replace BW : Hid (Below _ _ _) := bstep BW.out hb_
              replace UX : Hid (URow _ _ _ _ _) := UX.out.below hb_
              replace UU : Hid (URow _ _ _ _ _) := UU.out.below hb_
              replace b_m : Hid (BoxF _ _ _ _ _ _) := b_m.out.below hb_
              replace t_m : Hid (Tell _ _ _ _ _ _) := t_m.out.below hb_
              replace ZB0 : Hid (_ ≤ _) := Nat.le_trans ZB0.out (Below.size hb_)
              replace b_a : Hid (BoxF _ _ _ _ _ _) := b_a.out.below hb_
              replace t_a : Hid (Tell _ _ _ _ _ _) := t_a.out.below hb_
              clear hb_
              obtain ⟨⟨b_m_0, b_m_1, b_m_2, b_m_3⟩, ⟨b_m_5, b_m_6, b_m_7, b_m_8⟩, b_m_4⟩ := b_m.out
              go_wp2
              go_roundw
              case rel => exact ⟨j + 1, false, _, _, _, _, _, rfl, by go_num, by omega, FB2, b_m.out.put (.bool r_n) (.slice r_a r_m r_c) (.int .i64 r_p) (.slice none 0 0), t_r.out.put KB_m.out (.bool r_n) (.slice r_a r_m r_c) (.int .i64 r_p) (.slice none 0 0), Bes.old BW.out (bes_puts _ k_m (.bool r_n) (.slice r_a r_m r_c) (.int .i64 r_p) (.slice none 0 0)) L_m.out, UX.out.puts (HX.out.apt (fun k e => by injection e with e; rw [← e]; exact L_m.out)) (.bool r_n) (.slice r_a r_m r_c) (.int .i64 r_p) (.slice none 0 0), UU.out.puts AU.out (.bool r_n) (.slice r_a r_m r_c) (.int .i64 r_p) (.slice none 0 0), Nat.le_trans ZB0.out (Bes.size (bes_puts _ k_m (.bool r_n) (.slice r_a r_m r_c) (.int .i64 r_p) (.slice none 0 0)))⟩
              case measure => simp [intOf]; omega
            · skip
              have hc1 : ¬ 0 < c := by have := (cmp_gt _ _).2 hgt; rw [hc] at this; omega
              have HGT : Hid (AV ≤ mxv X j) := Int.not_lt.1 hgt
              clear hc hgt
              obtain ⟨⟨b_a_0, b_a_1, b_a_2, b_a_3⟩, ⟨b_a_5, b_a_6, b_a_7, b_a_8⟩, b_a_4⟩ := b_a.out
              obtain ⟨⟨b_m_0, b_m_1, b_m_2, b_m_3⟩, ⟨b_m_5, b_m_6, b_m_7, b_m_8⟩, b_m_4⟩ := b_m.out
              go_wp2_with fail
              clear b_a_0 b_a_1 b_a_2 b_a_3 b_a_4 b_a_5 b_a_6 b_a_7 b_a_8 b_m_0 b_m_1 b_m_2 b_m_3 b_m_4 b_m_5 b_m_6 b_m_7 b_m_8
              have ct : Cnt 1 := Cnt.mk _
              have HBa : Hid (Below w5_.heap.size w5_ w5_) := Below.refl _ _
              go_region_held3 (fun w' => (w'.cell? ⟨k_a, 0, none⟩ = some (.bool a_n) ∧ w'.cell? ⟨k_a, 1, none⟩ = some (.slice a_a a_m a_c) ∧ w'.cell? ⟨k_a, 2, none⟩ = some (.int .i64 a_p) ∧ w'.cell? ⟨k_a, 3, none⟩ = some (.slice none 0 0)) ∧ (w'.cell? ⟨k_m, 0, none⟩ = some (.bool m_n) ∧ w'.cell? ⟨k_m, 1, none⟩ = some (.slice m_a m_m m_c) ∧ w'.cell? ⟨k_m, 2, none⟩ = some (.int .i64 m_p) ∧ w'.cell? ⟨k_m, 3, none⟩ = some (.slice none 0 0))) (exact ⟨(b_a.out.below (by with_reducible repeat (first | (refine Below.drew ?_) | (refine bmore ?_ _) | exact HBa.out | exact Below.refl _ _))).cells, (b_m.out.below (by with_reducible repeat (first | (refine Below.drew ?_) | (refine bmore ?_ _) | exact HBa.out | exact Below.refl _ _))).cells⟩) (first | (have ck : Cnt 1 := ct; go_at_call 34; refine (dAbs _ _ B0 17 17 _ (t_a.out.below (by with_reducible repeat (first | (refine Below.drew ?_) | (refine bmore ?_ _) | exact HBa.out | exact Below.refl _ _))) (by omega) (by omega)).mono ?_; rintro e Wq0_ ⟨r1x0_v, rfl, ht_, hb_⟩; obtain ⟨r1x0_n, r1x0_a, r1x0_m, r1x0_c, r1x0_p, rfl, ht2_⟩ := ht_.numform; clear ht_; have hbt_ : Below w5_.heap.size w5_ Wq0_ := bstep (by with_reducible repeat (first | (refine Below.drew ?_) | (refine bmore ?_ _) | exact (Below.refl _ _) | exact Below.refl _ _)) hb_; have t_r1x0 : Hid (Tell Wq0_ B0 (.agg #[.bool r1x0_n, .slice r1x0_a r1x0_m r1x0_c, .int .i64 r1x0_p, .slice none 0 0]) 17 17 (((xv x).natAbs : Int))) := ht2_.base (Nat.le_trans ZB0.out (Below.size (B := w5_.heap.size) (by with_reducible repeat (first | (refine Below.drew ?_) | (refine bmore ?_ _) | exact HBa.out | exact Below.refl _ _)))); clear ht2_; replace HBa : Hid (Below w5_.heap.size w5_ Wq0_) := bstep HBa.out hbt_; replace ct : Cnt 2 := Cnt.mk _; clear hb_ hbt_ ck) | (have ck : Cnt 2 := ct; go_at_call 35; refine (dCmp _ _ _ B0 17 17 _ _ (t_r1x0.out.below (by with_reducible repeat (first | (refine Below.drew ?_) | (refine bmore ?_ _) | exact (Below.refl _ _) | exact Below.refl _ _))) (t_m.out.below (by with_reducible repeat (first | (refine Below.drew ?_) | (refine bmore ?_ _) | exact HBa.out | exact Below.refl _ _))) (by omega) (by omega)).mono ?_; rintro e Wq1_ ⟨rfl, hb_⟩; rw [HAV.out, HC.out]; have hbt_ : Below Wq0_.heap.size Wq0_ Wq1_ := bstep (by with_reducible repeat (first | (refine Below.drew ?_) | (refine bmore ?_ _) | exact (Below.refl _ _) | exact Below.refl _ _)) hb_; replace t_r1x0 : Hid (Tell _ _ _ _ _ _) := t_r1x0.out.below hbt_; replace HBa : Hid (Below w5_.heap.size w5_ Wq1_) := bstep HBa.out hbt_; replace ct : Cnt 3 := Cnt.mk _; clear hb_ hbt_ ck))
              replace BW : Hid (Below _ _ _) := bstep BW.out HBa.out
              replace UX : Hid (URow _ _ _ _ _) := UX.out.below HBa.out
              replace UU : Hid (URow _ _ _ _ _) := UU.out.below HBa.out
              replace b_m : Hid (BoxF _ _ _ _ _ _) := b_m.out.below HBa.out
              replace t_m : Hid (Tell _ _ _ _ _ _) := t_m.out.below HBa.out
              replace ZB0 : Hid (_ ≤ _) := Nat.le_trans ZB0.out (Below.size HBa.out)
              replace b_a : Hid (BoxF _ _ _ _ _ _) := b_a.out.below HBa.out
              replace t_a : Hid (Tell _ _ _ _ _ _) := t_a.out.below HBa.out
              clear HBa ct t_r1x0
              have t_r : Hid (Tell _ B0 (.agg #[.bool m_n, .slice m_a m_m m_c, .int .i64 m_p, .slice none 0 0]) 17 17 (mxv X (j + 1))) := t_m.out.eq (by rw [EM.out, if_neg (Int.not_lt.2 HGT.out)])
              go_wp2
              go_roundw
              case rel => exact ⟨j + 1, false, _, _, _, _, _, rfl, by go_num, by omega, FB2, b_m, t_r, BW, UX, UU, ZB0⟩
              case measure => simp [intOf]; omega
          · skip
            have FB2 : Hid (FinB false X (j + 1)) := ⟨fun h => absurd h (by decide), fun h => absurd (by have := h j (by omega); rw [HXX.out] at this; exact this) FNX.out⟩
            clear FB FNX
            obtain ⟨c, hc⟩ : ∃ c, cmpZ AV (mxv X j) = c := ⟨_, rfl⟩
            have HC : Hid (_ = _) := hc
            have EM : Hid (mxv X (j + 1) = if mxv X j < AV then AV else mxv X j) := by show (if mxv X j < ((xv (X j)).natAbs : Int) then ((xv (X j)).natAbs : Int) else mxv X j) = _; rw [HXX.out, HAV.out]
            by_cases hgt : mxv X j < AV
            · skip
              have hc1 : c = 1 := by rw [← hc]; exact (cmp_gt _ _).1 hgt
              subst hc1
              have HGT : Hid (mxv X j < AV) := hgt
              clear hc hgt
              obtain ⟨⟨b_a_0, b_a_1, b_a_2, b_a_3⟩, ⟨b_a_5, b_a_6, b_a_7, b_a_8⟩, b_a_4⟩ := b_a.out
              obtain ⟨⟨b_m_0, b_m_1, b_m_2, b_m_3⟩, ⟨b_m_5, b_m_6, b_m_7, b_m_8⟩, b_m_4⟩ := b_m.out
              go_wp2_with fail
              clear b_a_0 b_a_1 b_a_2 b_a_3 b_a_4 b_a_5 b_a_6 b_a_7 b_a_8 b_m_0 b_m_1 b_m_2 b_m_3 b_m_4 b_m_5 b_m_6 b_m_7 b_m_8
              have ct : Cnt 1 := Cnt.mk _
              have HBa : Hid (Below w5_.heap.size w5_ w5_) := Below.refl _ _
              go_region_held3 (fun w' => (w'.cell? ⟨k_a, 0, none⟩ = some (.bool a_n) ∧ w'.cell? ⟨k_a, 1, none⟩ = some (.slice a_a a_m a_c) ∧ w'.cell? ⟨k_a, 2, none⟩ = some (.int .i64 a_p) ∧ w'.cell? ⟨k_a, 3, none⟩ = some (.slice none 0 0)) ∧ (w'.cell? ⟨k_m, 0, none⟩ = some (.bool m_n) ∧ w'.cell? ⟨k_m, 1, none⟩ = some (.slice m_a m_m m_c) ∧ w'.cell? ⟨k_m, 2, none⟩ = some (.int .i64 m_p) ∧ w'.cell? ⟨k_m, 3, none⟩ = some (.slice none 0 0))) (exact ⟨(b_a.out.below (by with_reducible repeat (first | (refine Below.drew ?_) | (refine bmore ?_ _) | exact HBa.out | exact Below.refl _ _))).cells, (b_m.out.below (by with_reducible repeat (first | (refine Below.drew ?_) | (refine bmore ?_ _) | exact HBa.out | exact Below.refl _ _))).cells⟩) (first | (have ck : Cnt 1 := ct; go_at_call 34; refine (dAbs _ _ B0 17 17 _ (t_a.out.below (by with_reducible repeat (first | (refine Below.drew ?_) | (refine bmore ?_ _) | exact HBa.out | exact Below.refl _ _))) (by omega) (by omega)).mono ?_; rintro e Wq0_ ⟨r1x0_v, rfl, ht_, hb_⟩; obtain ⟨r1x0_n, r1x0_a, r1x0_m, r1x0_c, r1x0_p, rfl, ht2_⟩ := ht_.numform; clear ht_; have hbt_ : Below w5_.heap.size w5_ Wq0_ := bstep (by with_reducible repeat (first | (refine Below.drew ?_) | (refine bmore ?_ _) | exact (Below.refl _ _) | exact Below.refl _ _)) hb_; have t_r1x0 : Hid (Tell Wq0_ B0 (.agg #[.bool r1x0_n, .slice r1x0_a r1x0_m r1x0_c, .int .i64 r1x0_p, .slice none 0 0]) 17 17 (((xv x).natAbs : Int))) := ht2_.base (Nat.le_trans ZB0.out (Below.size (B := w5_.heap.size) (by with_reducible repeat (first | (refine Below.drew ?_) | (refine bmore ?_ _) | exact HBa.out | exact Below.refl _ _)))); clear ht2_; replace HBa : Hid (Below w5_.heap.size w5_ Wq0_) := bstep HBa.out hbt_; replace ct : Cnt 2 := Cnt.mk _; clear hb_ hbt_ ck) | (have ck : Cnt 2 := ct; go_at_call 35; refine (dCmp _ _ _ B0 17 17 _ _ (t_r1x0.out.below (by with_reducible repeat (first | (refine Below.drew ?_) | (refine bmore ?_ _) | exact (Below.refl _ _) | exact Below.refl _ _))) (t_m.out.below (by with_reducible repeat (first | (refine Below.drew ?_) | (refine bmore ?_ _) | exact HBa.out | exact Below.refl _ _))) (by omega) (by omega)).mono ?_; rintro e Wq1_ ⟨rfl, hb_⟩; rw [HAV.out, HC.out]; have hbt_ : Below Wq0_.heap.size Wq0_ Wq1_ := bstep (by with_reducible repeat (first | (refine Below.drew ?_) | (refine bmore ?_ _) | exact (Below.refl _ _) | exact Below.refl _ _)) hb_; replace t_r1x0 : Hid (Tell _ _ _ _ _ _) := t_r1x0.out.below hbt_; replace HBa : Hid (Below w5_.heap.size w5_ Wq1_) := bstep HBa.out hbt_; replace ct : Cnt 3 := Cnt.mk _; clear hb_ hbt_ ck))
              replace BW : Hid (Below _ _ _) := bstep BW.out HBa.out
              replace UX : Hid (URow _ _ _ _ _) := UX.out.below HBa.out
              replace UU : Hid (URow _ _ _ _ _) := UU.out.below HBa.out
              replace b_m : Hid (BoxF _ _ _ _ _ _) := b_m.out.below HBa.out
              replace t_m : Hid (Tell _ _ _ _ _ _) := t_m.out.below HBa.out
              replace ZB0 : Hid (_ ≤ _) := Nat.le_trans ZB0.out (Below.size HBa.out)
              replace b_a : Hid (BoxF _ _ _ _ _ _) := b_a.out.below HBa.out
              replace t_a : Hid (Tell _ _ _ _ _ _) := t_a.out.below HBa.out
              clear HBa ct t_r1x0
              obtain ⟨⟨b_a_0, b_a_1, b_a_2, b_a_3⟩, ⟨b_a_5, b_a_6, b_a_7, b_a_8⟩, b_a_4⟩ := b_a.out
              go_wp2_with fail
              refine (dAbs _ _ B0 17 17 _ t_a.out (by omega) (by omega)).mono ?_
              rintro e w6_ ⟨r_v, rfl, ht_, hb_⟩
              obtain ⟨r_n, r_a, r_m, r_c, r_p, rfl, ht2_⟩ := ht_.numform
              clear ht_
              clear b_a_0 b_a_1 b_a_2 b_a_3 b_a_4 b_a_5 b_a_6 b_a_7 b_a_8
              have t_r : Hid (Tell _ B0 (.agg #[.bool r_n, .slice r_a r_m r_c, .int .i64 r_p, .slice none 0 0]) 17 17 (mxv X (j + 1))) := (ht2_.base ZB0.out).eq (by rw [EM.out, if_pos HGT.out, HAV.out])
              clear ht2_
              replace BW : Hid (Below _ _ _) := bstep BW.out hb_
              replace UX : Hid (URow _ _ _ _ _) := UX.out.below hb_
              replace UU : Hid (URow _ _ _ _ _) := UU.out.below hb_
              replace b_m : Hid (BoxF _ _ _ _ _ _) := b_m.out.below hb_
              replace t_m : Hid (Tell _ _ _ _ _ _) := t_m.out.below hb_
              replace ZB0 : Hid (_ ≤ _) := Nat.le_trans ZB0.out (Below.size hb_)
              replace b_a : Hid (BoxF _ _ _ _ _ _) := b_a.out.below hb_
              replace t_a : Hid (Tell _ _ _ _ _ _) := t_a.out.below hb_
              clear hb_
              obtain ⟨⟨b_m_0, b_m_1, b_m_2, b_m_3⟩, ⟨b_m_5, b_m_6, b_m_7, b_m_8⟩, b_m_4⟩ := b_m.out
              go_wp2
              go_roundw
              case rel => exact ⟨j + 1, false, _, _, _, _, _, rfl, by go_num, by omega, FB2, b_m.out.put (.bool r_n) (.slice r_a r_m r_c) (.int .i64 r_p) (.slice none 0 0), t_r.out.put KB_m.out (.bool r_n) (.slice r_a r_m r_c) (.int .i64 r_p) (.slice none 0 0), Bes.old BW.out (bes_puts _ k_m (.bool r_n) (.slice r_a r_m r_c) (.int .i64 r_p) (.slice none 0 0)) L_m.out, UX.out.puts (HX.out.apt (fun k e => by injection e with e; rw [← e]; exact L_m.out)) (.bool r_n) (.slice r_a r_m r_c) (.int .i64 r_p) (.slice none 0 0), UU.out.puts AU.out (.bool r_n) (.slice r_a r_m r_c) (.int .i64 r_p) (.slice none 0 0), Nat.le_trans ZB0.out (Bes.size (bes_puts _ k_m (.bool r_n) (.slice r_a r_m r_c) (.int .i64 r_p) (.slice none 0 0)))⟩
              case measure => simp [intOf]; omega
            · skip
              have hc1 : ¬ 0 < c := by have := (cmp_gt _ _).2 hgt; rw [hc] at this; omega
              have HGT : Hid (AV ≤ mxv X j) := Int.not_lt.1 hgt
              clear hc hgt
              obtain ⟨⟨b_a_0, b_a_1, b_a_2, b_a_3⟩, ⟨b_a_5, b_a_6, b_a_7, b_a_8⟩, b_a_4⟩ := b_a.out
              obtain ⟨⟨b_m_0, b_m_1, b_m_2, b_m_3⟩, ⟨b_m_5, b_m_6, b_m_7, b_m_8⟩, b_m_4⟩ := b_m.out
              go_wp2_with fail
              clear b_a_0 b_a_1 b_a_2 b_a_3 b_a_4 b_a_5 b_a_6 b_a_7 b_a_8 b_m_0 b_m_1 b_m_2 b_m_3 b_m_4 b_m_5 b_m_6 b_m_7 b_m_8
              have ct : Cnt 1 := Cnt.mk _
              have HBa : Hid (Below w5_.heap.size w5_ w5_) := Below.refl _ _
              go_region_held3 (fun w' => (w'.cell? ⟨k_a, 0, none⟩ = some (.bool a_n) ∧ w'.cell? ⟨k_a, 1, none⟩ = some (.slice a_a a_m a_c) ∧ w'.cell? ⟨k_a, 2, none⟩ = some (.int .i64 a_p) ∧ w'.cell? ⟨k_a, 3, none⟩ = some (.slice none 0 0)) ∧ (w'.cell? ⟨k_m, 0, none⟩ = some (.bool m_n) ∧ w'.cell? ⟨k_m, 1, none⟩ = some (.slice m_a m_m m_c) ∧ w'.cell? ⟨k_m, 2, none⟩ = some (.int .i64 m_p) ∧ w'.cell? ⟨k_m, 3, none⟩ = some (.slice none 0 0))) (exact ⟨(b_a.out.below (by with_reducible repeat (first | (refine Below.drew ?_) | (refine bmore ?_ _) | exact HBa.out | exact Below.refl _ _))).cells, (b_m.out.below (by with_reducible repeat (first | (refine Below.drew ?_) | (refine bmore ?_ _) | exact HBa.out | exact Below.refl _ _))).cells⟩) (first | (have ck : Cnt 1 := ct; go_at_call 34; refine (dAbs _ _ B0 17 17 _ (t_a.out.below (by with_reducible repeat (first | (refine Below.drew ?_) | (refine bmore ?_ _) | exact HBa.out | exact Below.refl _ _))) (by omega) (by omega)).mono ?_; rintro e Wq0_ ⟨r1x0_v, rfl, ht_, hb_⟩; obtain ⟨r1x0_n, r1x0_a, r1x0_m, r1x0_c, r1x0_p, rfl, ht2_⟩ := ht_.numform; clear ht_; have hbt_ : Below w5_.heap.size w5_ Wq0_ := bstep (by with_reducible repeat (first | (refine Below.drew ?_) | (refine bmore ?_ _) | exact (Below.refl _ _) | exact Below.refl _ _)) hb_; have t_r1x0 : Hid (Tell Wq0_ B0 (.agg #[.bool r1x0_n, .slice r1x0_a r1x0_m r1x0_c, .int .i64 r1x0_p, .slice none 0 0]) 17 17 (((xv x).natAbs : Int))) := ht2_.base (Nat.le_trans ZB0.out (Below.size (B := w5_.heap.size) (by with_reducible repeat (first | (refine Below.drew ?_) | (refine bmore ?_ _) | exact HBa.out | exact Below.refl _ _)))); clear ht2_; replace HBa : Hid (Below w5_.heap.size w5_ Wq0_) := bstep HBa.out hbt_; replace ct : Cnt 2 := Cnt.mk _; clear hb_ hbt_ ck) | (have ck : Cnt 2 := ct; go_at_call 35; refine (dCmp _ _ _ B0 17 17 _ _ (t_r1x0.out.below (by with_reducible repeat (first | (refine Below.drew ?_) | (refine bmore ?_ _) | exact (Below.refl _ _) | exact Below.refl _ _))) (t_m.out.below (by with_reducible repeat (first | (refine Below.drew ?_) | (refine bmore ?_ _) | exact HBa.out | exact Below.refl _ _))) (by omega) (by omega)).mono ?_; rintro e Wq1_ ⟨rfl, hb_⟩; rw [HAV.out, HC.out]; have hbt_ : Below Wq0_.heap.size Wq0_ Wq1_ := bstep (by with_reducible repeat (first | (refine Below.drew ?_) | (refine bmore ?_ _) | exact (Below.refl _ _) | exact Below.refl _ _)) hb_; replace t_r1x0 : Hid (Tell _ _ _ _ _ _) := t_r1x0.out.below hbt_; replace HBa : Hid (Below w5_.heap.size w5_ Wq1_) := bstep HBa.out hbt_; replace ct : Cnt 3 := Cnt.mk _; clear hb_ hbt_ ck))
              replace BW : Hid (Below _ _ _) := bstep BW.out HBa.out
              replace UX : Hid (URow _ _ _ _ _) := UX.out.below HBa.out
              replace UU : Hid (URow _ _ _ _ _) := UU.out.below HBa.out
              replace b_m : Hid (BoxF _ _ _ _ _ _) := b_m.out.below HBa.out
              replace t_m : Hid (Tell _ _ _ _ _ _) := t_m.out.below HBa.out
              replace ZB0 : Hid (_ ≤ _) := Nat.le_trans ZB0.out (Below.size HBa.out)
              replace b_a : Hid (BoxF _ _ _ _ _ _) := b_a.out.below HBa.out
              replace t_a : Hid (Tell _ _ _ _ _ _) := t_a.out.below HBa.out
              clear HBa ct t_r1x0
              have t_r : Hid (Tell _ B0 (.agg #[.bool m_n, .slice m_a m_m m_c, .int .i64 m_p, .slice none 0 0]) 17 17 (mxv X (j + 1))) := t_m.out.eq (by rw [EM.out, if_neg (Int.not_lt.2 HGT.out)])
              go_wp2
              go_roundw
              case rel => exact ⟨j + 1, false, _, _, _, _, _, rfl, by go_num, by omega, FB2, b_m, t_r, BW, UX, UU, ZB0⟩
              case measure => simp [intOf]; omega
      · have hhi2 : a1 ≤ 20000 := by omega
        have hlo3 : -20000 ≤ a1 := by omega
        go_wp2_with fail
        refine (mScale x _ _ x0 x1 (by omega) (by omega)).mono ?_
        rintro e w3_ ⟨rfl, hb_⟩
        rw [show (scaleS x (-a1)).1 = uv by rw [HSU.out]; congr 2; omega]
        replace q2 := (Below.cell (p := ⟨gu, j, none⟩) hb_ l_q2).trans q2
        replace BW : Hid (Below _ _ _) := bstep BW.out hb_
        replace UX : Hid (URow _ _ _ _ _) := UX.out.below hb_
        replace UU : Hid (URow _ _ _ _ _) := UU.out.below hb_
        replace b_m : Hid (BoxF _ _ _ _ _ _) := b_m.out.below hb_
        replace t_m : Hid (Tell _ _ _ _ _ _) := t_m.out.below hb_
        replace ZB0 : Hid (_ ≤ _) := Nat.le_trans ZB0.out (Below.size hb_)
        clear hb_
        go_wp2_with fail
        refine (dOf x _ x0 x1).mono ?_
        rintro e w4_ ⟨a_v, rfl, ht_, hb_⟩
        obtain ⟨a_n, a_a, a_m, a_c, a_p, rfl, ht2_⟩ := ht_.numform
        replace ht2_ := ht2_.base (b' := B0) ZB0.out
        clear ht_
        replace BW : Hid (Below _ _ _) := bstep BW.out hb_
        replace UX : Hid (URow _ _ _ _ _) := UX.out.below hb_
        replace UU : Hid (URow _ _ _ _ _) := UU.out.below hb_
        replace b_m : Hid (BoxF _ _ _ _ _ _) := b_m.out.below hb_
        replace t_m : Hid (Tell _ _ _ _ _ _) := t_m.out.below hb_
        replace ZB0 : Hid (_ ≤ _) := Nat.le_trans ZB0.out (Below.size hb_)
        clear hb_
        go_upto_region 17 with fail
        have mB_ := BoxF.made w4_ (.bool a_n) (.slice a_a a_m a_c) (.int .i64 a_p) (.slice none 0 0) 44
        have tB_ := ht2_.alloc (.cells #[.bool a_n, .slice a_a a_m a_c, .int .i64 a_p, .slice none 0 0] 44)
        have b_ := bmore (Below.refl w4_.heap.size w4_) (.cells #[.bool a_n, .slice a_a a_m a_c, .int .i64 a_p, .slice none 0 0] 44)
        clear ht2_
        generalize (w4_.alloc (.cells #[.bool a_n, .slice a_a a_m a_c, .int .i64 a_p, .slice none 0 0] 44)) = w5_ at mB_ b_ tB_ ⊢
        obtain ⟨k_a, hk_a⟩ : ∃ k, k = w4_.heap.size := ⟨_, rfl⟩
        have N_ma : Hid (k_m ≠ k_a) := by have := b_m.out.2.2; show _ ≠ _; omega
        rw [← hk_a] at mB_ ⊢
        replace BW : Hid (Below _ _ _) := bstep BW.out b_
        replace UX : Hid (URow _ _ _ _ _) := UX.out.below b_
        replace UU : Hid (URow _ _ _ _ _) := UU.out.below b_
        replace b_m : Hid (BoxF _ _ _ _ _ _) := b_m.out.below b_
        replace t_m : Hid (Tell _ _ _ _ _ _) := t_m.out.below b_
        replace ZB0 : Hid (_ ≤ _) := Nat.le_trans ZB0.out (Below.size b_)
        have b_a : Hid (BoxF w5_ k_a (.bool a_n) (.slice a_a a_m a_c) (.int .i64 a_p) (.slice none 0 0)) := mB_
        have t_a : Hid (Tell w5_ B0 (.agg #[.bool a_n, .slice a_a a_m a_c, .int .i64 a_p, .slice none 0 0]) 17 17 (xv x)) := tB_
        clear mB_ b_ tB_ hk_a
        clear q1 q2 l_q1 l_q2 HSU
        by_cases fnx : mag x < 9218868437227405312
        · have hdx : decide (mag x < 9218868437227405312) = true := decide_eq_true fnx
          have FNX : Hid (mag x < 9218868437227405312) := fnx
          clear fnx
          cases fb
          · skip
            have FB2 : Hid (FinB false X (j + 1)) := ⟨fun h => absurd h (by decide), fun h => FB.out.2 (fun i hi => h i (by omega))⟩
            clear FB FNX
            obtain ⟨c, hc⟩ : ∃ c, cmpZ AV (mxv X j) = c := ⟨_, rfl⟩
            have HC : Hid (_ = _) := hc
            have EM : Hid (mxv X (j + 1) = if mxv X j < AV then AV else mxv X j) := by show (if mxv X j < ((xv (X j)).natAbs : Int) then ((xv (X j)).natAbs : Int) else mxv X j) = _; rw [HXX.out, HAV.out]
            by_cases hgt : mxv X j < AV
            · skip
              have hc1 : c = 1 := by rw [← hc]; exact (cmp_gt _ _).1 hgt
              subst hc1
              have HGT : Hid (mxv X j < AV) := hgt
              clear hc hgt
              obtain ⟨⟨b_a_0, b_a_1, b_a_2, b_a_3⟩, ⟨b_a_5, b_a_6, b_a_7, b_a_8⟩, b_a_4⟩ := b_a.out
              obtain ⟨⟨b_m_0, b_m_1, b_m_2, b_m_3⟩, ⟨b_m_5, b_m_6, b_m_7, b_m_8⟩, b_m_4⟩ := b_m.out
              go_wp2_with fail
              clear b_a_0 b_a_1 b_a_2 b_a_3 b_a_4 b_a_5 b_a_6 b_a_7 b_a_8 b_m_0 b_m_1 b_m_2 b_m_3 b_m_4 b_m_5 b_m_6 b_m_7 b_m_8
              have ct : Cnt 1 := Cnt.mk _
              have HBa : Hid (Below w5_.heap.size w5_ w5_) := Below.refl _ _
              go_region_held3 (fun w' => (w'.cell? ⟨k_a, 0, none⟩ = some (.bool a_n) ∧ w'.cell? ⟨k_a, 1, none⟩ = some (.slice a_a a_m a_c) ∧ w'.cell? ⟨k_a, 2, none⟩ = some (.int .i64 a_p) ∧ w'.cell? ⟨k_a, 3, none⟩ = some (.slice none 0 0)) ∧ (w'.cell? ⟨k_m, 0, none⟩ = some (.bool m_n) ∧ w'.cell? ⟨k_m, 1, none⟩ = some (.slice m_a m_m m_c) ∧ w'.cell? ⟨k_m, 2, none⟩ = some (.int .i64 m_p) ∧ w'.cell? ⟨k_m, 3, none⟩ = some (.slice none 0 0))) (exact ⟨(b_a.out.below (by with_reducible repeat (first | (refine Below.drew ?_) | (refine bmore ?_ _) | exact HBa.out | exact Below.refl _ _))).cells, (b_m.out.below (by with_reducible repeat (first | (refine Below.drew ?_) | (refine bmore ?_ _) | exact HBa.out | exact Below.refl _ _))).cells⟩) (first | (have ck : Cnt 1 := ct; go_at_call 34; refine (dAbs _ _ B0 17 17 _ (t_a.out.below (by with_reducible repeat (first | (refine Below.drew ?_) | (refine bmore ?_ _) | exact HBa.out | exact Below.refl _ _))) (by omega) (by omega)).mono ?_; rintro e Wq0_ ⟨r1x0_v, rfl, ht_, hb_⟩; obtain ⟨r1x0_n, r1x0_a, r1x0_m, r1x0_c, r1x0_p, rfl, ht2_⟩ := ht_.numform; clear ht_; have hbt_ : Below w5_.heap.size w5_ Wq0_ := bstep (by with_reducible repeat (first | (refine Below.drew ?_) | (refine bmore ?_ _) | exact (Below.refl _ _) | exact Below.refl _ _)) hb_; have t_r1x0 : Hid (Tell Wq0_ B0 (.agg #[.bool r1x0_n, .slice r1x0_a r1x0_m r1x0_c, .int .i64 r1x0_p, .slice none 0 0]) 17 17 (((xv x).natAbs : Int))) := ht2_.base (Nat.le_trans ZB0.out (Below.size (B := w5_.heap.size) (by with_reducible repeat (first | (refine Below.drew ?_) | (refine bmore ?_ _) | exact HBa.out | exact Below.refl _ _)))); clear ht2_; replace HBa : Hid (Below w5_.heap.size w5_ Wq0_) := bstep HBa.out hbt_; replace ct : Cnt 2 := Cnt.mk _; clear hb_ hbt_ ck) | (have ck : Cnt 2 := ct; go_at_call 35; refine (dCmp _ _ _ B0 17 17 _ _ (t_r1x0.out.below (by with_reducible repeat (first | (refine Below.drew ?_) | (refine bmore ?_ _) | exact (Below.refl _ _) | exact Below.refl _ _))) (t_m.out.below (by with_reducible repeat (first | (refine Below.drew ?_) | (refine bmore ?_ _) | exact HBa.out | exact Below.refl _ _))) (by omega) (by omega)).mono ?_; rintro e Wq1_ ⟨rfl, hb_⟩; rw [HAV.out, HC.out]; have hbt_ : Below Wq0_.heap.size Wq0_ Wq1_ := bstep (by with_reducible repeat (first | (refine Below.drew ?_) | (refine bmore ?_ _) | exact (Below.refl _ _) | exact Below.refl _ _)) hb_; replace t_r1x0 : Hid (Tell _ _ _ _ _ _) := t_r1x0.out.below hbt_; replace HBa : Hid (Below w5_.heap.size w5_ Wq1_) := bstep HBa.out hbt_; replace ct : Cnt 3 := Cnt.mk _; clear hb_ hbt_ ck))
              replace BW : Hid (Below _ _ _) := bstep BW.out HBa.out
              replace UX : Hid (URow _ _ _ _ _) := UX.out.below HBa.out
              replace UU : Hid (URow _ _ _ _ _) := UU.out.below HBa.out
              replace b_m : Hid (BoxF _ _ _ _ _ _) := b_m.out.below HBa.out
              replace t_m : Hid (Tell _ _ _ _ _ _) := t_m.out.below HBa.out
              replace ZB0 : Hid (_ ≤ _) := Nat.le_trans ZB0.out (Below.size HBa.out)
              replace b_a : Hid (BoxF _ _ _ _ _ _) := b_a.out.below HBa.out
              replace t_a : Hid (Tell _ _ _ _ _ _) := t_a.out.below HBa.out
              clear HBa ct t_r1x0
              obtain ⟨⟨b_a_0, b_a_1, b_a_2, b_a_3⟩, ⟨b_a_5, b_a_6, b_a_7, b_a_8⟩, b_a_4⟩ := b_a.out
              go_wp2_with fail
              refine (dAbs _ _ B0 17 17 _ t_a.out (by omega) (by omega)).mono ?_
              rintro e w6_ ⟨r_v, rfl, ht_, hb_⟩
              obtain ⟨r_n, r_a, r_m, r_c, r_p, rfl, ht2_⟩ := ht_.numform
              clear ht_
              clear b_a_0 b_a_1 b_a_2 b_a_3 b_a_4 b_a_5 b_a_6 b_a_7 b_a_8
              have t_r : Hid (Tell _ B0 (.agg #[.bool r_n, .slice r_a r_m r_c, .int .i64 r_p, .slice none 0 0]) 17 17 (mxv X (j + 1))) := (ht2_.base ZB0.out).eq (by rw [EM.out, if_pos HGT.out, HAV.out])
              clear ht2_
              replace BW : Hid (Below _ _ _) := bstep BW.out hb_
              replace UX : Hid (URow _ _ _ _ _) := UX.out.below hb_
              replace UU : Hid (URow _ _ _ _ _) := UU.out.below hb_
              replace b_m : Hid (BoxF _ _ _ _ _ _) := b_m.out.below hb_
              replace t_m : Hid (Tell _ _ _ _ _ _) := t_m.out.below hb_
              replace ZB0 : Hid (_ ≤ _) := Nat.le_trans ZB0.out (Below.size hb_)
              replace b_a : Hid (BoxF _ _ _ _ _ _) := b_a.out.below hb_
              replace t_a : Hid (Tell _ _ _ _ _ _) := t_a.out.below hb_
              clear hb_
              obtain ⟨⟨b_m_0, b_m_1, b_m_2, b_m_3⟩, ⟨b_m_5, b_m_6, b_m_7, b_m_8⟩, b_m_4⟩ := b_m.out
              go_wp2
              go_roundw
              case rel => exact ⟨j + 1, false, _, _, _, _, _, rfl, by go_num, by omega, FB2, b_m.out.put (.bool r_n) (.slice r_a r_m r_c) (.int .i64 r_p) (.slice none 0 0), t_r.out.put KB_m.out (.bool r_n) (.slice r_a r_m r_c) (.int .i64 r_p) (.slice none 0 0), Bes.old BW.out (bes_puts _ k_m (.bool r_n) (.slice r_a r_m r_c) (.int .i64 r_p) (.slice none 0 0)) L_m.out, UX.out.puts (HX.out.apt (fun k e => by injection e with e; rw [← e]; exact L_m.out)) (.bool r_n) (.slice r_a r_m r_c) (.int .i64 r_p) (.slice none 0 0), UU.out.puts AU.out (.bool r_n) (.slice r_a r_m r_c) (.int .i64 r_p) (.slice none 0 0), Nat.le_trans ZB0.out (Bes.size (bes_puts _ k_m (.bool r_n) (.slice r_a r_m r_c) (.int .i64 r_p) (.slice none 0 0)))⟩
              case measure => simp [intOf]; omega
            · skip
              have hc1 : ¬ 0 < c := by have := (cmp_gt _ _).2 hgt; rw [hc] at this; omega
              have HGT : Hid (AV ≤ mxv X j) := Int.not_lt.1 hgt
              clear hc hgt
              obtain ⟨⟨b_a_0, b_a_1, b_a_2, b_a_3⟩, ⟨b_a_5, b_a_6, b_a_7, b_a_8⟩, b_a_4⟩ := b_a.out
              obtain ⟨⟨b_m_0, b_m_1, b_m_2, b_m_3⟩, ⟨b_m_5, b_m_6, b_m_7, b_m_8⟩, b_m_4⟩ := b_m.out
              go_wp2_with fail
              clear b_a_0 b_a_1 b_a_2 b_a_3 b_a_4 b_a_5 b_a_6 b_a_7 b_a_8 b_m_0 b_m_1 b_m_2 b_m_3 b_m_4 b_m_5 b_m_6 b_m_7 b_m_8
              have ct : Cnt 1 := Cnt.mk _
              have HBa : Hid (Below w5_.heap.size w5_ w5_) := Below.refl _ _
              go_region_held3 (fun w' => (w'.cell? ⟨k_a, 0, none⟩ = some (.bool a_n) ∧ w'.cell? ⟨k_a, 1, none⟩ = some (.slice a_a a_m a_c) ∧ w'.cell? ⟨k_a, 2, none⟩ = some (.int .i64 a_p) ∧ w'.cell? ⟨k_a, 3, none⟩ = some (.slice none 0 0)) ∧ (w'.cell? ⟨k_m, 0, none⟩ = some (.bool m_n) ∧ w'.cell? ⟨k_m, 1, none⟩ = some (.slice m_a m_m m_c) ∧ w'.cell? ⟨k_m, 2, none⟩ = some (.int .i64 m_p) ∧ w'.cell? ⟨k_m, 3, none⟩ = some (.slice none 0 0))) (exact ⟨(b_a.out.below (by with_reducible repeat (first | (refine Below.drew ?_) | (refine bmore ?_ _) | exact HBa.out | exact Below.refl _ _))).cells, (b_m.out.below (by with_reducible repeat (first | (refine Below.drew ?_) | (refine bmore ?_ _) | exact HBa.out | exact Below.refl _ _))).cells⟩) (first | (have ck : Cnt 1 := ct; go_at_call 34; refine (dAbs _ _ B0 17 17 _ (t_a.out.below (by with_reducible repeat (first | (refine Below.drew ?_) | (refine bmore ?_ _) | exact HBa.out | exact Below.refl _ _))) (by omega) (by omega)).mono ?_; rintro e Wq0_ ⟨r1x0_v, rfl, ht_, hb_⟩; obtain ⟨r1x0_n, r1x0_a, r1x0_m, r1x0_c, r1x0_p, rfl, ht2_⟩ := ht_.numform; clear ht_; have hbt_ : Below w5_.heap.size w5_ Wq0_ := bstep (by with_reducible repeat (first | (refine Below.drew ?_) | (refine bmore ?_ _) | exact (Below.refl _ _) | exact Below.refl _ _)) hb_; have t_r1x0 : Hid (Tell Wq0_ B0 (.agg #[.bool r1x0_n, .slice r1x0_a r1x0_m r1x0_c, .int .i64 r1x0_p, .slice none 0 0]) 17 17 (((xv x).natAbs : Int))) := ht2_.base (Nat.le_trans ZB0.out (Below.size (B := w5_.heap.size) (by with_reducible repeat (first | (refine Below.drew ?_) | (refine bmore ?_ _) | exact HBa.out | exact Below.refl _ _)))); clear ht2_; replace HBa : Hid (Below w5_.heap.size w5_ Wq0_) := bstep HBa.out hbt_; replace ct : Cnt 2 := Cnt.mk _; clear hb_ hbt_ ck) | (have ck : Cnt 2 := ct; go_at_call 35; refine (dCmp _ _ _ B0 17 17 _ _ (t_r1x0.out.below (by with_reducible repeat (first | (refine Below.drew ?_) | (refine bmore ?_ _) | exact (Below.refl _ _) | exact Below.refl _ _))) (t_m.out.below (by with_reducible repeat (first | (refine Below.drew ?_) | (refine bmore ?_ _) | exact HBa.out | exact Below.refl _ _))) (by omega) (by omega)).mono ?_; rintro e Wq1_ ⟨rfl, hb_⟩; rw [HAV.out, HC.out]; have hbt_ : Below Wq0_.heap.size Wq0_ Wq1_ := bstep (by with_reducible repeat (first | (refine Below.drew ?_) | (refine bmore ?_ _) | exact (Below.refl _ _) | exact Below.refl _ _)) hb_; replace t_r1x0 : Hid (Tell _ _ _ _ _ _) := t_r1x0.out.below hbt_; replace HBa : Hid (Below w5_.heap.size w5_ Wq1_) := bstep HBa.out hbt_; replace ct : Cnt 3 := Cnt.mk _; clear hb_ hbt_ ck))
              replace BW : Hid (Below _ _ _) := bstep BW.out HBa.out
              replace UX : Hid (URow _ _ _ _ _) := UX.out.below HBa.out
              replace UU : Hid (URow _ _ _ _ _) := UU.out.below HBa.out
              replace b_m : Hid (BoxF _ _ _ _ _ _) := b_m.out.below HBa.out
              replace t_m : Hid (Tell _ _ _ _ _ _) := t_m.out.below HBa.out
              replace ZB0 : Hid (_ ≤ _) := Nat.le_trans ZB0.out (Below.size HBa.out)
              replace b_a : Hid (BoxF _ _ _ _ _ _) := b_a.out.below HBa.out
              replace t_a : Hid (Tell _ _ _ _ _ _) := t_a.out.below HBa.out
              clear HBa ct t_r1x0
              have t_r : Hid (Tell _ B0 (.agg #[.bool m_n, .slice m_a m_m m_c, .int .i64 m_p, .slice none 0 0]) 17 17 (mxv X (j + 1))) := t_m.out.eq (by rw [EM.out, if_neg (Int.not_lt.2 HGT.out)])
              go_wp2
              go_roundw
              case rel => exact ⟨j + 1, false, _, _, _, _, _, rfl, by go_num, by omega, FB2, b_m, t_r, BW, UX, UU, ZB0⟩
              case measure => simp [intOf]; omega
          · skip
            have FB2 : Hid (FinB true X (j + 1)) := ⟨fun _ i hi => by rcases Nat.lt_or_ge i j with g | g; exact FB.out.1 rfl i g; obtain rfl : i = j := (by omega); rw [HXX.out]; exact FNX.out, fun _ => rfl⟩
            clear FB FNX
            obtain ⟨c, hc⟩ : ∃ c, cmpZ AV (mxv X j) = c := ⟨_, rfl⟩
            have HC : Hid (_ = _) := hc
            have EM : Hid (mxv X (j + 1) = if mxv X j < AV then AV else mxv X j) := by show (if mxv X j < ((xv (X j)).natAbs : Int) then ((xv (X j)).natAbs : Int) else mxv X j) = _; rw [HXX.out, HAV.out]
            by_cases hgt : mxv X j < AV
            · skip
              have hc1 : c = 1 := by rw [← hc]; exact (cmp_gt _ _).1 hgt
              subst hc1
              have HGT : Hid (mxv X j < AV) := hgt
              clear hc hgt
              obtain ⟨⟨b_a_0, b_a_1, b_a_2, b_a_3⟩, ⟨b_a_5, b_a_6, b_a_7, b_a_8⟩, b_a_4⟩ := b_a.out
              obtain ⟨⟨b_m_0, b_m_1, b_m_2, b_m_3⟩, ⟨b_m_5, b_m_6, b_m_7, b_m_8⟩, b_m_4⟩ := b_m.out
              go_wp2_with fail
              clear b_a_0 b_a_1 b_a_2 b_a_3 b_a_4 b_a_5 b_a_6 b_a_7 b_a_8 b_m_0 b_m_1 b_m_2 b_m_3 b_m_4 b_m_5 b_m_6 b_m_7 b_m_8
              have ct : Cnt 1 := Cnt.mk _
              have HBa : Hid (Below w5_.heap.size w5_ w5_) := Below.refl _ _
              go_region_held3 (fun w' => (w'.cell? ⟨k_a, 0, none⟩ = some (.bool a_n) ∧ w'.cell? ⟨k_a, 1, none⟩ = some (.slice a_a a_m a_c) ∧ w'.cell? ⟨k_a, 2, none⟩ = some (.int .i64 a_p) ∧ w'.cell? ⟨k_a, 3, none⟩ = some (.slice none 0 0)) ∧ (w'.cell? ⟨k_m, 0, none⟩ = some (.bool m_n) ∧ w'.cell? ⟨k_m, 1, none⟩ = some (.slice m_a m_m m_c) ∧ w'.cell? ⟨k_m, 2, none⟩ = some (.int .i64 m_p) ∧ w'.cell? ⟨k_m, 3, none⟩ = some (.slice none 0 0))) (exact ⟨(b_a.out.below (by with_reducible repeat (first | (refine Below.drew ?_) | (refine bmore ?_ _) | exact HBa.out | exact Below.refl _ _))).cells, (b_m.out.below (by with_reducible repeat (first | (refine Below.drew ?_) | (refine bmore ?_ _) | exact HBa.out | exact Below.refl _ _))).cells⟩) (first | (have ck : Cnt 1 := ct; go_at_call 34; refine (dAbs _ _ B0 17 17 _ (t_a.out.below (by with_reducible repeat (first | (refine Below.drew ?_) | (refine bmore ?_ _) | exact HBa.out | exact Below.refl _ _))) (by omega) (by omega)).mono ?_; rintro e Wq0_ ⟨r1x0_v, rfl, ht_, hb_⟩; obtain ⟨r1x0_n, r1x0_a, r1x0_m, r1x0_c, r1x0_p, rfl, ht2_⟩ := ht_.numform; clear ht_; have hbt_ : Below w5_.heap.size w5_ Wq0_ := bstep (by with_reducible repeat (first | (refine Below.drew ?_) | (refine bmore ?_ _) | exact (Below.refl _ _) | exact Below.refl _ _)) hb_; have t_r1x0 : Hid (Tell Wq0_ B0 (.agg #[.bool r1x0_n, .slice r1x0_a r1x0_m r1x0_c, .int .i64 r1x0_p, .slice none 0 0]) 17 17 (((xv x).natAbs : Int))) := ht2_.base (Nat.le_trans ZB0.out (Below.size (B := w5_.heap.size) (by with_reducible repeat (first | (refine Below.drew ?_) | (refine bmore ?_ _) | exact HBa.out | exact Below.refl _ _)))); clear ht2_; replace HBa : Hid (Below w5_.heap.size w5_ Wq0_) := bstep HBa.out hbt_; replace ct : Cnt 2 := Cnt.mk _; clear hb_ hbt_ ck) | (have ck : Cnt 2 := ct; go_at_call 35; refine (dCmp _ _ _ B0 17 17 _ _ (t_r1x0.out.below (by with_reducible repeat (first | (refine Below.drew ?_) | (refine bmore ?_ _) | exact (Below.refl _ _) | exact Below.refl _ _))) (t_m.out.below (by with_reducible repeat (first | (refine Below.drew ?_) | (refine bmore ?_ _) | exact HBa.out | exact Below.refl _ _))) (by omega) (by omega)).mono ?_; rintro e Wq1_ ⟨rfl, hb_⟩; rw [HAV.out, HC.out]; have hbt_ : Below Wq0_.heap.size Wq0_ Wq1_ := bstep (by with_reducible repeat (first | (refine Below.drew ?_) | (refine bmore ?_ _) | exact (Below.refl _ _) | exact Below.refl _ _)) hb_; replace t_r1x0 : Hid (Tell _ _ _ _ _ _) := t_r1x0.out.below hbt_; replace HBa : Hid (Below w5_.heap.size w5_ Wq1_) := bstep HBa.out hbt_; replace ct : Cnt 3 := Cnt.mk _; clear hb_ hbt_ ck))
              replace BW : Hid (Below _ _ _) := bstep BW.out HBa.out
              replace UX : Hid (URow _ _ _ _ _) := UX.out.below HBa.out
              replace UU : Hid (URow _ _ _ _ _) := UU.out.below HBa.out
              replace b_m : Hid (BoxF _ _ _ _ _ _) := b_m.out.below HBa.out
              replace t_m : Hid (Tell _ _ _ _ _ _) := t_m.out.below HBa.out
              replace ZB0 : Hid (_ ≤ _) := Nat.le_trans ZB0.out (Below.size HBa.out)
              replace b_a : Hid (BoxF _ _ _ _ _ _) := b_a.out.below HBa.out
              replace t_a : Hid (Tell _ _ _ _ _ _) := t_a.out.below HBa.out
              clear HBa ct t_r1x0
              obtain ⟨⟨b_a_0, b_a_1, b_a_2, b_a_3⟩, ⟨b_a_5, b_a_6, b_a_7, b_a_8⟩, b_a_4⟩ := b_a.out
              go_wp2_with fail
              refine (dAbs _ _ B0 17 17 _ t_a.out (by omega) (by omega)).mono ?_
              rintro e w6_ ⟨r_v, rfl, ht_, hb_⟩
              obtain ⟨r_n, r_a, r_m, r_c, r_p, rfl, ht2_⟩ := ht_.numform
              clear ht_
              clear b_a_0 b_a_1 b_a_2 b_a_3 b_a_4 b_a_5 b_a_6 b_a_7 b_a_8
              have t_r : Hid (Tell _ B0 (.agg #[.bool r_n, .slice r_a r_m r_c, .int .i64 r_p, .slice none 0 0]) 17 17 (mxv X (j + 1))) := (ht2_.base ZB0.out).eq (by rw [EM.out, if_pos HGT.out, HAV.out])
              clear ht2_
              replace BW : Hid (Below _ _ _) := bstep BW.out hb_
              replace UX : Hid (URow _ _ _ _ _) := UX.out.below hb_
              replace UU : Hid (URow _ _ _ _ _) := UU.out.below hb_
              replace b_m : Hid (BoxF _ _ _ _ _ _) := b_m.out.below hb_
              replace t_m : Hid (Tell _ _ _ _ _ _) := t_m.out.below hb_
              replace ZB0 : Hid (_ ≤ _) := Nat.le_trans ZB0.out (Below.size hb_)
              replace b_a : Hid (BoxF _ _ _ _ _ _) := b_a.out.below hb_
              replace t_a : Hid (Tell _ _ _ _ _ _) := t_a.out.below hb_
              clear hb_
              obtain ⟨⟨b_m_0, b_m_1, b_m_2, b_m_3⟩, ⟨b_m_5, b_m_6, b_m_7, b_m_8⟩, b_m_4⟩ := b_m.out
              go_wp2
              go_roundw
              case rel => exact ⟨j + 1, true, _, _, _, _, _, rfl, by go_num, by omega, FB2, b_m.out.put (.bool r_n) (.slice r_a r_m r_c) (.int .i64 r_p) (.slice none 0 0), t_r.out.put KB_m.out (.bool r_n) (.slice r_a r_m r_c) (.int .i64 r_p) (.slice none 0 0), Bes.old BW.out (bes_puts _ k_m (.bool r_n) (.slice r_a r_m r_c) (.int .i64 r_p) (.slice none 0 0)) L_m.out, UX.out.puts (HX.out.apt (fun k e => by injection e with e; rw [← e]; exact L_m.out)) (.bool r_n) (.slice r_a r_m r_c) (.int .i64 r_p) (.slice none 0 0), UU.out.puts AU.out (.bool r_n) (.slice r_a r_m r_c) (.int .i64 r_p) (.slice none 0 0), Nat.le_trans ZB0.out (Bes.size (bes_puts _ k_m (.bool r_n) (.slice r_a r_m r_c) (.int .i64 r_p) (.slice none 0 0)))⟩
              case measure => simp [intOf]; omega
            · skip
              have hc1 : ¬ 0 < c := by have := (cmp_gt _ _).2 hgt; rw [hc] at this; omega
              have HGT : Hid (AV ≤ mxv X j) := Int.not_lt.1 hgt
              clear hc hgt
              obtain ⟨⟨b_a_0, b_a_1, b_a_2, b_a_3⟩, ⟨b_a_5, b_a_6, b_a_7, b_a_8⟩, b_a_4⟩ := b_a.out
              obtain ⟨⟨b_m_0, b_m_1, b_m_2, b_m_3⟩, ⟨b_m_5, b_m_6, b_m_7, b_m_8⟩, b_m_4⟩ := b_m.out
              go_wp2_with fail
              clear b_a_0 b_a_1 b_a_2 b_a_3 b_a_4 b_a_5 b_a_6 b_a_7 b_a_8 b_m_0 b_m_1 b_m_2 b_m_3 b_m_4 b_m_5 b_m_6 b_m_7 b_m_8
              have ct : Cnt 1 := Cnt.mk _
              have HBa : Hid (Below w5_.heap.size w5_ w5_) := Below.refl _ _
              go_region_held3 (fun w' => (w'.cell? ⟨k_a, 0, none⟩ = some (.bool a_n) ∧ w'.cell? ⟨k_a, 1, none⟩ = some (.slice a_a a_m a_c) ∧ w'.cell? ⟨k_a, 2, none⟩ = some (.int .i64 a_p) ∧ w'.cell? ⟨k_a, 3, none⟩ = some (.slice none 0 0)) ∧ (w'.cell? ⟨k_m, 0, none⟩ = some (.bool m_n) ∧ w'.cell? ⟨k_m, 1, none⟩ = some (.slice m_a m_m m_c) ∧ w'.cell? ⟨k_m, 2, none⟩ = some (.int .i64 m_p) ∧ w'.cell? ⟨k_m, 3, none⟩ = some (.slice none 0 0))) (exact ⟨(b_a.out.below (by with_reducible repeat (first | (refine Below.drew ?_) | (refine bmore ?_ _) | exact HBa.out | exact Below.refl _ _))).cells, (b_m.out.below (by with_reducible repeat (first | (refine Below.drew ?_) | (refine bmore ?_ _) | exact HBa.out | exact Below.refl _ _))).cells⟩) (first | (have ck : Cnt 1 := ct; go_at_call 34; refine (dAbs _ _ B0 17 17 _ (t_a.out.below (by with_reducible repeat (first | (refine Below.drew ?_) | (refine bmore ?_ _) | exact HBa.out | exact Below.refl _ _))) (by omega) (by omega)).mono ?_; rintro e Wq0_ ⟨r1x0_v, rfl, ht_, hb_⟩; obtain ⟨r1x0_n, r1x0_a, r1x0_m, r1x0_c, r1x0_p, rfl, ht2_⟩ := ht_.numform; clear ht_; have hbt_ : Below w5_.heap.size w5_ Wq0_ := bstep (by with_reducible repeat (first | (refine Below.drew ?_) | (refine bmore ?_ _) | exact (Below.refl _ _) | exact Below.refl _ _)) hb_; have t_r1x0 : Hid (Tell Wq0_ B0 (.agg #[.bool r1x0_n, .slice r1x0_a r1x0_m r1x0_c, .int .i64 r1x0_p, .slice none 0 0]) 17 17 (((xv x).natAbs : Int))) := ht2_.base (Nat.le_trans ZB0.out (Below.size (B := w5_.heap.size) (by with_reducible repeat (first | (refine Below.drew ?_) | (refine bmore ?_ _) | exact HBa.out | exact Below.refl _ _)))); clear ht2_; replace HBa : Hid (Below w5_.heap.size w5_ Wq0_) := bstep HBa.out hbt_; replace ct : Cnt 2 := Cnt.mk _; clear hb_ hbt_ ck) | (have ck : Cnt 2 := ct; go_at_call 35; refine (dCmp _ _ _ B0 17 17 _ _ (t_r1x0.out.below (by with_reducible repeat (first | (refine Below.drew ?_) | (refine bmore ?_ _) | exact (Below.refl _ _) | exact Below.refl _ _))) (t_m.out.below (by with_reducible repeat (first | (refine Below.drew ?_) | (refine bmore ?_ _) | exact HBa.out | exact Below.refl _ _))) (by omega) (by omega)).mono ?_; rintro e Wq1_ ⟨rfl, hb_⟩; rw [HAV.out, HC.out]; have hbt_ : Below Wq0_.heap.size Wq0_ Wq1_ := bstep (by with_reducible repeat (first | (refine Below.drew ?_) | (refine bmore ?_ _) | exact (Below.refl _ _) | exact Below.refl _ _)) hb_; replace t_r1x0 : Hid (Tell _ _ _ _ _ _) := t_r1x0.out.below hbt_; replace HBa : Hid (Below w5_.heap.size w5_ Wq1_) := bstep HBa.out hbt_; replace ct : Cnt 3 := Cnt.mk _; clear hb_ hbt_ ck))
              replace BW : Hid (Below _ _ _) := bstep BW.out HBa.out
              replace UX : Hid (URow _ _ _ _ _) := UX.out.below HBa.out
              replace UU : Hid (URow _ _ _ _ _) := UU.out.below HBa.out
              replace b_m : Hid (BoxF _ _ _ _ _ _) := b_m.out.below HBa.out
              replace t_m : Hid (Tell _ _ _ _ _ _) := t_m.out.below HBa.out
              replace ZB0 : Hid (_ ≤ _) := Nat.le_trans ZB0.out (Below.size HBa.out)
              replace b_a : Hid (BoxF _ _ _ _ _ _) := b_a.out.below HBa.out
              replace t_a : Hid (Tell _ _ _ _ _ _) := t_a.out.below HBa.out
              clear HBa ct t_r1x0
              have t_r : Hid (Tell _ B0 (.agg #[.bool m_n, .slice m_a m_m m_c, .int .i64 m_p, .slice none 0 0]) 17 17 (mxv X (j + 1))) := t_m.out.eq (by rw [EM.out, if_neg (Int.not_lt.2 HGT.out)])
              go_wp2
              go_roundw
              case rel => exact ⟨j + 1, true, _, _, _, _, _, rfl, by go_num, by omega, FB2, b_m, t_r, BW, UX, UU, ZB0⟩
              case measure => simp [intOf]; omega
        · have hdx : decide (mag x < 9218868437227405312) = false := decide_eq_false fnx
          have FNX : Hid (¬ mag x < 9218868437227405312) := fnx
          clear fnx
          cases fb
          · skip
            have FB2 : Hid (FinB false X (j + 1)) := ⟨fun h => absurd h (by decide), fun h => absurd (by have := h j (by omega); rw [HXX.out] at this; exact this) FNX.out⟩
            clear FB FNX
            obtain ⟨c, hc⟩ : ∃ c, cmpZ AV (mxv X j) = c := ⟨_, rfl⟩
            have HC : Hid (_ = _) := hc
            have EM : Hid (mxv X (j + 1) = if mxv X j < AV then AV else mxv X j) := by show (if mxv X j < ((xv (X j)).natAbs : Int) then ((xv (X j)).natAbs : Int) else mxv X j) = _; rw [HXX.out, HAV.out]
            by_cases hgt : mxv X j < AV
            · skip
              have hc1 : c = 1 := by rw [← hc]; exact (cmp_gt _ _).1 hgt
              subst hc1
              have HGT : Hid (mxv X j < AV) := hgt
              clear hc hgt
              obtain ⟨⟨b_a_0, b_a_1, b_a_2, b_a_3⟩, ⟨b_a_5, b_a_6, b_a_7, b_a_8⟩, b_a_4⟩ := b_a.out
              obtain ⟨⟨b_m_0, b_m_1, b_m_2, b_m_3⟩, ⟨b_m_5, b_m_6, b_m_7, b_m_8⟩, b_m_4⟩ := b_m.out
              go_wp2_with fail
              clear b_a_0 b_a_1 b_a_2 b_a_3 b_a_4 b_a_5 b_a_6 b_a_7 b_a_8 b_m_0 b_m_1 b_m_2 b_m_3 b_m_4 b_m_5 b_m_6 b_m_7 b_m_8
              have ct : Cnt 1 := Cnt.mk _
              have HBa : Hid (Below w5_.heap.size w5_ w5_) := Below.refl _ _
              go_region_held3 (fun w' => (w'.cell? ⟨k_a, 0, none⟩ = some (.bool a_n) ∧ w'.cell? ⟨k_a, 1, none⟩ = some (.slice a_a a_m a_c) ∧ w'.cell? ⟨k_a, 2, none⟩ = some (.int .i64 a_p) ∧ w'.cell? ⟨k_a, 3, none⟩ = some (.slice none 0 0)) ∧ (w'.cell? ⟨k_m, 0, none⟩ = some (.bool m_n) ∧ w'.cell? ⟨k_m, 1, none⟩ = some (.slice m_a m_m m_c) ∧ w'.cell? ⟨k_m, 2, none⟩ = some (.int .i64 m_p) ∧ w'.cell? ⟨k_m, 3, none⟩ = some (.slice none 0 0))) (exact ⟨(b_a.out.below (by with_reducible repeat (first | (refine Below.drew ?_) | (refine bmore ?_ _) | exact HBa.out | exact Below.refl _ _))).cells, (b_m.out.below (by with_reducible repeat (first | (refine Below.drew ?_) | (refine bmore ?_ _) | exact HBa.out | exact Below.refl _ _))).cells⟩) (first | (have ck : Cnt 1 := ct; go_at_call 34; refine (dAbs _ _ B0 17 17 _ (t_a.out.below (by with_reducible repeat (first | (refine Below.drew ?_) | (refine bmore ?_ _) | exact HBa.out | exact Below.refl _ _))) (by omega) (by omega)).mono ?_; rintro e Wq0_ ⟨r1x0_v, rfl, ht_, hb_⟩; obtain ⟨r1x0_n, r1x0_a, r1x0_m, r1x0_c, r1x0_p, rfl, ht2_⟩ := ht_.numform; clear ht_; have hbt_ : Below w5_.heap.size w5_ Wq0_ := bstep (by with_reducible repeat (first | (refine Below.drew ?_) | (refine bmore ?_ _) | exact (Below.refl _ _) | exact Below.refl _ _)) hb_; have t_r1x0 : Hid (Tell Wq0_ B0 (.agg #[.bool r1x0_n, .slice r1x0_a r1x0_m r1x0_c, .int .i64 r1x0_p, .slice none 0 0]) 17 17 (((xv x).natAbs : Int))) := ht2_.base (Nat.le_trans ZB0.out (Below.size (B := w5_.heap.size) (by with_reducible repeat (first | (refine Below.drew ?_) | (refine bmore ?_ _) | exact HBa.out | exact Below.refl _ _)))); clear ht2_; replace HBa : Hid (Below w5_.heap.size w5_ Wq0_) := bstep HBa.out hbt_; replace ct : Cnt 2 := Cnt.mk _; clear hb_ hbt_ ck) | (have ck : Cnt 2 := ct; go_at_call 35; refine (dCmp _ _ _ B0 17 17 _ _ (t_r1x0.out.below (by with_reducible repeat (first | (refine Below.drew ?_) | (refine bmore ?_ _) | exact (Below.refl _ _) | exact Below.refl _ _))) (t_m.out.below (by with_reducible repeat (first | (refine Below.drew ?_) | (refine bmore ?_ _) | exact HBa.out | exact Below.refl _ _))) (by omega) (by omega)).mono ?_; rintro e Wq1_ ⟨rfl, hb_⟩; rw [HAV.out, HC.out]; have hbt_ : Below Wq0_.heap.size Wq0_ Wq1_ := bstep (by with_reducible repeat (first | (refine Below.drew ?_) | (refine bmore ?_ _) | exact (Below.refl _ _) | exact Below.refl _ _)) hb_; replace t_r1x0 : Hid (Tell _ _ _ _ _ _) := t_r1x0.out.below hbt_; replace HBa : Hid (Below w5_.heap.size w5_ Wq1_) := bstep HBa.out hbt_; replace ct : Cnt 3 := Cnt.mk _; clear hb_ hbt_ ck))
              replace BW : Hid (Below _ _ _) := bstep BW.out HBa.out
              replace UX : Hid (URow _ _ _ _ _) := UX.out.below HBa.out
              replace UU : Hid (URow _ _ _ _ _) := UU.out.below HBa.out
              replace b_m : Hid (BoxF _ _ _ _ _ _) := b_m.out.below HBa.out
              replace t_m : Hid (Tell _ _ _ _ _ _) := t_m.out.below HBa.out
              replace ZB0 : Hid (_ ≤ _) := Nat.le_trans ZB0.out (Below.size HBa.out)
              replace b_a : Hid (BoxF _ _ _ _ _ _) := b_a.out.below HBa.out
              replace t_a : Hid (Tell _ _ _ _ _ _) := t_a.out.below HBa.out
              clear HBa ct t_r1x0
              obtain ⟨⟨b_a_0, b_a_1, b_a_2, b_a_3⟩, ⟨b_a_5, b_a_6, b_a_7, b_a_8⟩, b_a_4⟩ := b_a.out
              go_wp2_with fail
              refine (dAbs _ _ B0 17 17 _ t_a.out (by omega) (by omega)).mono ?_
              rintro e w6_ ⟨r_v, rfl, ht_, hb_⟩
              obtain ⟨r_n, r_a, r_m, r_c, r_p, rfl, ht2_⟩ := ht_.numform
              clear ht_
              clear b_a_0 b_a_1 b_a_2 b_a_3 b_a_4 b_a_5 b_a_6 b_a_7 b_a_8
              have t_r : Hid (Tell _ B0 (.agg #[.bool r_n, .slice r_a r_m r_c, .int .i64 r_p, .slice none 0 0]) 17 17 (mxv X (j + 1))) := (ht2_.base ZB0.out).eq (by rw [EM.out, if_pos HGT.out, HAV.out])
              clear ht2_
              replace BW : Hid (Below _ _ _) := bstep BW.out hb_
              replace UX : Hid (URow _ _ _ _ _) := UX.out.below hb_
              replace UU : Hid (URow _ _ _ _ _) := UU.out.below hb_
              replace b_m : Hid (BoxF _ _ _ _ _ _) := b_m.out.below hb_
              replace t_m : Hid (Tell _ _ _ _ _ _) := t_m.out.below hb_
              replace ZB0 : Hid (_ ≤ _) := Nat.le_trans ZB0.out (Below.size hb_)
              replace b_a : Hid (BoxF _ _ _ _ _ _) := b_a.out.below hb_
              replace t_a : Hid (Tell _ _ _ _ _ _) := t_a.out.below hb_
              clear hb_
              obtain ⟨⟨b_m_0, b_m_1, b_m_2, b_m_3⟩, ⟨b_m_5, b_m_6, b_m_7, b_m_8⟩, b_m_4⟩ := b_m.out
              go_wp2
              go_roundw
              case rel => exact ⟨j + 1, false, _, _, _, _, _, rfl, by go_num, by omega, FB2, b_m.out.put (.bool r_n) (.slice r_a r_m r_c) (.int .i64 r_p) (.slice none 0 0), t_r.out.put KB_m.out (.bool r_n) (.slice r_a r_m r_c) (.int .i64 r_p) (.slice none 0 0), Bes.old BW.out (bes_puts _ k_m (.bool r_n) (.slice r_a r_m r_c) (.int .i64 r_p) (.slice none 0 0)) L_m.out, UX.out.puts (HX.out.apt (fun k e => by injection e with e; rw [← e]; exact L_m.out)) (.bool r_n) (.slice r_a r_m r_c) (.int .i64 r_p) (.slice none 0 0), UU.out.puts AU.out (.bool r_n) (.slice r_a r_m r_c) (.int .i64 r_p) (.slice none 0 0), Nat.le_trans ZB0.out (Bes.size (bes_puts _ k_m (.bool r_n) (.slice r_a r_m r_c) (.int .i64 r_p) (.slice none 0 0)))⟩
              case measure => simp [intOf]; omega
            · skip
              have hc1 : ¬ 0 < c := by have := (cmp_gt _ _).2 hgt; rw [hc] at this; omega
              have HGT : Hid (AV ≤ mxv X j) := Int.not_lt.1 hgt
              clear hc hgt
              obtain ⟨⟨b_a_0, b_a_1, b_a_2, b_a_3⟩, ⟨b_a_5, b_a_6, b_a_7, b_a_8⟩, b_a_4⟩ := b_a.out
              obtain ⟨⟨b_m_0, b_m_1, b_m_2, b_m_3⟩, ⟨b_m_5, b_m_6, b_m_7, b_m_8⟩, b_m_4⟩ := b_m.out
              go_wp2_with fail
              clear b_a_0 b_a_1 b_a_2 b_a_3 b_a_4 b_a_5 b_a_6 b_a_7 b_a_8 b_m_0 b_m_1 b_m_2 b_m_3 b_m_4 b_m_5 b_m_6 b_m_7 b_m_8
              have ct : Cnt 1 := Cnt.mk _
              have HBa : Hid (Below w5_.heap.size w5_ w5_) := Below.refl _ _
              go_region_held3 (fun w' => (w'.cell? ⟨k_a, 0, none⟩ = some (.bool a_n) ∧ w'.cell? ⟨k_a, 1, none⟩ = some (.slice a_a a_m a_c) ∧ w'.cell? ⟨k_a, 2, none⟩ = some (.int .i64 a_p) ∧ w'.cell? ⟨k_a, 3, none⟩ = some (.slice none 0 0)) ∧ (w'.cell? ⟨k_m, 0, none⟩ = some (.bool m_n) ∧ w'.cell? ⟨k_m, 1, none⟩ = some (.slice m_a m_m m_c) ∧ w'.cell? ⟨k_m, 2, none⟩ = some (.int .i64 m_p) ∧ w'.cell? ⟨k_m, 3, none⟩ = some (.slice none 0 0))) (exact ⟨(b_a.out.below (by with_reducible repeat (first | (refine Below.drew ?_) | (refine bmore ?_ _) | exact HBa.out | exact Below.refl _ _))).cells, (b_m.out.below (by with_reducible repeat (first | (refine Below.drew ?_) | (refine bmore ?_ _) | exact HBa.out | exact Below.refl _ _))).cells⟩) (first | (have ck : Cnt 1 := ct; go_at_call 34; refine (dAbs _ _ B0 17 17 _ (t_a.out.below (by with_reducible repeat (first | (refine Below.drew ?_) | (refine bmore ?_ _) | exact HBa.out | exact Below.refl _ _))) (by omega) (by omega)).mono ?_; rintro e Wq0_ ⟨r1x0_v, rfl, ht_, hb_⟩; obtain ⟨r1x0_n, r1x0_a, r1x0_m, r1x0_c, r1x0_p, rfl, ht2_⟩ := ht_.numform; clear ht_; have hbt_ : Below w5_.heap.size w5_ Wq0_ := bstep (by with_reducible repeat (first | (refine Below.drew ?_) | (refine bmore ?_ _) | exact (Below.refl _ _) | exact Below.refl _ _)) hb_; have t_r1x0 : Hid (Tell Wq0_ B0 (.agg #[.bool r1x0_n, .slice r1x0_a r1x0_m r1x0_c, .int .i64 r1x0_p, .slice none 0 0]) 17 17 (((xv x).natAbs : Int))) := ht2_.base (Nat.le_trans ZB0.out (Below.size (B := w5_.heap.size) (by with_reducible repeat (first | (refine Below.drew ?_) | (refine bmore ?_ _) | exact HBa.out | exact Below.refl _ _)))); clear ht2_; replace HBa : Hid (Below w5_.heap.size w5_ Wq0_) := bstep HBa.out hbt_; replace ct : Cnt 2 := Cnt.mk _; clear hb_ hbt_ ck) | (have ck : Cnt 2 := ct; go_at_call 35; refine (dCmp _ _ _ B0 17 17 _ _ (t_r1x0.out.below (by with_reducible repeat (first | (refine Below.drew ?_) | (refine bmore ?_ _) | exact (Below.refl _ _) | exact Below.refl _ _))) (t_m.out.below (by with_reducible repeat (first | (refine Below.drew ?_) | (refine bmore ?_ _) | exact HBa.out | exact Below.refl _ _))) (by omega) (by omega)).mono ?_; rintro e Wq1_ ⟨rfl, hb_⟩; rw [HAV.out, HC.out]; have hbt_ : Below Wq0_.heap.size Wq0_ Wq1_ := bstep (by with_reducible repeat (first | (refine Below.drew ?_) | (refine bmore ?_ _) | exact (Below.refl _ _) | exact Below.refl _ _)) hb_; replace t_r1x0 : Hid (Tell _ _ _ _ _ _) := t_r1x0.out.below hbt_; replace HBa : Hid (Below w5_.heap.size w5_ Wq1_) := bstep HBa.out hbt_; replace ct : Cnt 3 := Cnt.mk _; clear hb_ hbt_ ck))
              replace BW : Hid (Below _ _ _) := bstep BW.out HBa.out
              replace UX : Hid (URow _ _ _ _ _) := UX.out.below HBa.out
              replace UU : Hid (URow _ _ _ _ _) := UU.out.below HBa.out
              replace b_m : Hid (BoxF _ _ _ _ _ _) := b_m.out.below HBa.out
              replace t_m : Hid (Tell _ _ _ _ _ _) := t_m.out.below HBa.out
              replace ZB0 : Hid (_ ≤ _) := Nat.le_trans ZB0.out (Below.size HBa.out)
              replace b_a : Hid (BoxF _ _ _ _ _ _) := b_a.out.below HBa.out
              replace t_a : Hid (Tell _ _ _ _ _ _) := t_a.out.below HBa.out
              clear HBa ct t_r1x0
              have t_r : Hid (Tell _ B0 (.agg #[.bool m_n, .slice m_a m_m m_c, .int .i64 m_p, .slice none 0 0]) 17 17 (mxv X (j + 1))) := t_m.out.eq (by rw [EM.out, if_neg (Int.not_lt.2 HGT.out)])
              go_wp2
              go_roundw
              case rel => exact ⟨j + 1, false, _, _, _, _, _, rfl, by go_num, by omega, FB2, b_m, t_r, BW, UX, UU, ZB0⟩
              case measure => simp [intOf]; omega
          · skip
            have FB2 : Hid (FinB false X (j + 1)) := ⟨fun h => absurd h (by decide), fun h => absurd (by have := h j (by omega); rw [HXX.out] at this; exact this) FNX.out⟩
            clear FB FNX
            obtain ⟨c, hc⟩ : ∃ c, cmpZ AV (mxv X j) = c := ⟨_, rfl⟩
            have HC : Hid (_ = _) := hc
            have EM : Hid (mxv X (j + 1) = if mxv X j < AV then AV else mxv X j) := by show (if mxv X j < ((xv (X j)).natAbs : Int) then ((xv (X j)).natAbs : Int) else mxv X j) = _; rw [HXX.out, HAV.out]
            by_cases hgt : mxv X j < AV
            · skip
              have hc1 : c = 1 := by rw [← hc]; exact (cmp_gt _ _).1 hgt
              subst hc1
              have HGT : Hid (mxv X j < AV) := hgt
              clear hc hgt
              obtain ⟨⟨b_a_0, b_a_1, b_a_2, b_a_3⟩, ⟨b_a_5, b_a_6, b_a_7, b_a_8⟩, b_a_4⟩ := b_a.out
              obtain ⟨⟨b_m_0, b_m_1, b_m_2, b_m_3⟩, ⟨b_m_5, b_m_6, b_m_7, b_m_8⟩, b_m_4⟩ := b_m.out
              go_wp2_with fail
              clear b_a_0 b_a_1 b_a_2 b_a_3 b_a_4 b_a_5 b_a_6 b_a_7 b_a_8 b_m_0 b_m_1 b_m_2 b_m_3 b_m_4 b_m_5 b_m_6 b_m_7 b_m_8
              have ct : Cnt 1 := Cnt.mk _
              have HBa : Hid (Below w5_.heap.size w5_ w5_) := Below.refl _ _
              go_region_held3 (fun w' => (w'.cell? ⟨k_a, 0, none⟩ = some (.bool a_n) ∧ w'.cell? ⟨k_a, 1, none⟩ = some (.slice a_a a_m a_c) ∧ w'.cell? ⟨k_a, 2, none⟩ = some (.int .i64 a_p) ∧ w'.cell? ⟨k_a, 3, none⟩ = some (.slice none 0 0)) ∧ (w'.cell? ⟨k_m, 0, none⟩ = some (.bool m_n) ∧ w'.cell? ⟨k_m, 1, none⟩ = some (.slice m_a m_m m_c) ∧ w'.cell? ⟨k_m, 2, none⟩ = some (.int .i64 m_p) ∧ w'.cell? ⟨k_m, 3, none⟩ = some (.slice none 0 0))) (exact ⟨(b_a.out.below (by with_reducible repeat (first | (refine Below.drew ?_) | (refine bmore ?_ _) | exact HBa.out | exact Below.refl _ _))).cells, (b_m.out.below (by with_reducible repeat (first | (refine Below.drew ?_) | (refine bmore ?_ _) | exact HBa.out | exact Below.refl _ _))).cells⟩) (first | (have ck : Cnt 1 := ct; go_at_call 34; refine (dAbs _ _ B0 17 17 _ (t_a.out.below (by with_reducible repeat (first | (refine Below.drew ?_) | (refine bmore ?_ _) | exact HBa.out | exact Below.refl _ _))) (by omega) (by omega)).mono ?_; rintro e Wq0_ ⟨r1x0_v, rfl, ht_, hb_⟩; obtain ⟨r1x0_n, r1x0_a, r1x0_m, r1x0_c, r1x0_p, rfl, ht2_⟩ := ht_.numform; clear ht_; have hbt_ : Below w5_.heap.size w5_ Wq0_ := bstep (by with_reducible repeat (first | (refine Below.drew ?_) | (refine bmore ?_ _) | exact (Below.refl _ _) | exact Below.refl _ _)) hb_; have t_r1x0 : Hid (Tell Wq0_ B0 (.agg #[.bool r1x0_n, .slice r1x0_a r1x0_m r1x0_c, .int .i64 r1x0_p, .slice none 0 0]) 17 17 (((xv x).natAbs : Int))) := ht2_.base (Nat.le_trans ZB0.out (Below.size (B := w5_.heap.size) (by with_reducible repeat (first | (refine Below.drew ?_) | (refine bmore ?_ _) | exact HBa.out | exact Below.refl _ _)))); clear ht2_; replace HBa : Hid (Below w5_.heap.size w5_ Wq0_) := bstep HBa.out hbt_; replace ct : Cnt 2 := Cnt.mk _; clear hb_ hbt_ ck) | (have ck : Cnt 2 := ct; go_at_call 35; refine (dCmp _ _ _ B0 17 17 _ _ (t_r1x0.out.below (by with_reducible repeat (first | (refine Below.drew ?_) | (refine bmore ?_ _) | exact (Below.refl _ _) | exact Below.refl _ _))) (t_m.out.below (by with_reducible repeat (first | (refine Below.drew ?_) | (refine bmore ?_ _) | exact HBa.out | exact Below.refl _ _))) (by omega) (by omega)).mono ?_; rintro e Wq1_ ⟨rfl, hb_⟩; rw [HAV.out, HC.out]; have hbt_ : Below Wq0_.heap.size Wq0_ Wq1_ := bstep (by with_reducible repeat (first | (refine Below.drew ?_) | (refine bmore ?_ _) | exact (Below.refl _ _) | exact Below.refl _ _)) hb_; replace t_r1x0 : Hid (Tell _ _ _ _ _ _) := t_r1x0.out.below hbt_; replace HBa : Hid (Below w5_.heap.size w5_ Wq1_) := bstep HBa.out hbt_; replace ct : Cnt 3 := Cnt.mk _; clear hb_ hbt_ ck))
              replace BW : Hid (Below _ _ _) := bstep BW.out HBa.out
              replace UX : Hid (URow _ _ _ _ _) := UX.out.below HBa.out
              replace UU : Hid (URow _ _ _ _ _) := UU.out.below HBa.out
              replace b_m : Hid (BoxF _ _ _ _ _ _) := b_m.out.below HBa.out
              replace t_m : Hid (Tell _ _ _ _ _ _) := t_m.out.below HBa.out
              replace ZB0 : Hid (_ ≤ _) := Nat.le_trans ZB0.out (Below.size HBa.out)
              replace b_a : Hid (BoxF _ _ _ _ _ _) := b_a.out.below HBa.out
              replace t_a : Hid (Tell _ _ _ _ _ _) := t_a.out.below HBa.out
              clear HBa ct t_r1x0
              obtain ⟨⟨b_a_0, b_a_1, b_a_2, b_a_3⟩, ⟨b_a_5, b_a_6, b_a_7, b_a_8⟩, b_a_4⟩ := b_a.out
              go_wp2_with fail
              refine (dAbs _ _ B0 17 17 _ t_a.out (by omega) (by omega)).mono ?_
              rintro e w6_ ⟨r_v, rfl, ht_, hb_⟩
              obtain ⟨r_n, r_a, r_m, r_c, r_p, rfl, ht2_⟩ := ht_.numform
              clear ht_
              clear b_a_0 b_a_1 b_a_2 b_a_3 b_a_4 b_a_5 b_a_6 b_a_7 b_a_8
              have t_r : Hid (Tell _ B0 (.agg #[.bool r_n, .slice r_a r_m r_c, .int .i64 r_p, .slice none 0 0]) 17 17 (mxv X (j + 1))) := (ht2_.base ZB0.out).eq (by rw [EM.out, if_pos HGT.out, HAV.out])
              clear ht2_
              replace BW : Hid (Below _ _ _) := bstep BW.out hb_
              replace UX : Hid (URow _ _ _ _ _) := UX.out.below hb_
              replace UU : Hid (URow _ _ _ _ _) := UU.out.below hb_
              replace b_m : Hid (BoxF _ _ _ _ _ _) := b_m.out.below hb_
              replace t_m : Hid (Tell _ _ _ _ _ _) := t_m.out.below hb_
              replace ZB0 : Hid (_ ≤ _) := Nat.le_trans ZB0.out (Below.size hb_)
              replace b_a : Hid (BoxF _ _ _ _ _ _) := b_a.out.below hb_
              replace t_a : Hid (Tell _ _ _ _ _ _) := t_a.out.below hb_
              clear hb_
              obtain ⟨⟨b_m_0, b_m_1, b_m_2, b_m_3⟩, ⟨b_m_5, b_m_6, b_m_7, b_m_8⟩, b_m_4⟩ := b_m.out
              go_wp2
              go_roundw
              case rel => exact ⟨j + 1, false, _, _, _, _, _, rfl, by go_num, by omega, FB2, b_m.out.put (.bool r_n) (.slice r_a r_m r_c) (.int .i64 r_p) (.slice none 0 0), t_r.out.put KB_m.out (.bool r_n) (.slice r_a r_m r_c) (.int .i64 r_p) (.slice none 0 0), Bes.old BW.out (bes_puts _ k_m (.bool r_n) (.slice r_a r_m r_c) (.int .i64 r_p) (.slice none 0 0)) L_m.out, UX.out.puts (HX.out.apt (fun k e => by injection e with e; rw [← e]; exact L_m.out)) (.bool r_n) (.slice r_a r_m r_c) (.int .i64 r_p) (.slice none 0 0), UU.out.puts AU.out (.bool r_n) (.slice r_a r_m r_c) (.int .i64 r_p) (.slice none 0 0), Nat.le_trans ZB0.out (Bes.size (bes_puts _ k_m (.bool r_n) (.slice r_a r_m r_c) (.int .i64 r_p) (.slice none 0 0)))⟩
              case measure => simp [intOf]; omega
            · skip
              have hc1 : ¬ 0 < c := by have := (cmp_gt _ _).2 hgt; rw [hc] at this; omega
              have HGT : Hid (AV ≤ mxv X j) := Int.not_lt.1 hgt
              clear hc hgt
              obtain ⟨⟨b_a_0, b_a_1, b_a_2, b_a_3⟩, ⟨b_a_5, b_a_6, b_a_7, b_a_8⟩, b_a_4⟩ := b_a.out
              obtain ⟨⟨b_m_0, b_m_1, b_m_2, b_m_3⟩, ⟨b_m_5, b_m_6, b_m_7, b_m_8⟩, b_m_4⟩ := b_m.out
              go_wp2_with fail
              clear b_a_0 b_a_1 b_a_2 b_a_3 b_a_4 b_a_5 b_a_6 b_a_7 b_a_8 b_m_0 b_m_1 b_m_2 b_m_3 b_m_4 b_m_5 b_m_6 b_m_7 b_m_8
              have ct : Cnt 1 := Cnt.mk _
              have HBa : Hid (Below w5_.heap.size w5_ w5_) := Below.refl _ _
              go_region_held3 (fun w' => (w'.cell? ⟨k_a, 0, none⟩ = some (.bool a_n) ∧ w'.cell? ⟨k_a, 1, none⟩ = some (.slice a_a a_m a_c) ∧ w'.cell? ⟨k_a, 2, none⟩ = some (.int .i64 a_p) ∧ w'.cell? ⟨k_a, 3, none⟩ = some (.slice none 0 0)) ∧ (w'.cell? ⟨k_m, 0, none⟩ = some (.bool m_n) ∧ w'.cell? ⟨k_m, 1, none⟩ = some (.slice m_a m_m m_c) ∧ w'.cell? ⟨k_m, 2, none⟩ = some (.int .i64 m_p) ∧ w'.cell? ⟨k_m, 3, none⟩ = some (.slice none 0 0))) (exact ⟨(b_a.out.below (by with_reducible repeat (first | (refine Below.drew ?_) | (refine bmore ?_ _) | exact HBa.out | exact Below.refl _ _))).cells, (b_m.out.below (by with_reducible repeat (first | (refine Below.drew ?_) | (refine bmore ?_ _) | exact HBa.out | exact Below.refl _ _))).cells⟩) (first | (have ck : Cnt 1 := ct; go_at_call 34; refine (dAbs _ _ B0 17 17 _ (t_a.out.below (by with_reducible repeat (first | (refine Below.drew ?_) | (refine bmore ?_ _) | exact HBa.out | exact Below.refl _ _))) (by omega) (by omega)).mono ?_; rintro e Wq0_ ⟨r1x0_v, rfl, ht_, hb_⟩; obtain ⟨r1x0_n, r1x0_a, r1x0_m, r1x0_c, r1x0_p, rfl, ht2_⟩ := ht_.numform; clear ht_; have hbt_ : Below w5_.heap.size w5_ Wq0_ := bstep (by with_reducible repeat (first | (refine Below.drew ?_) | (refine bmore ?_ _) | exact (Below.refl _ _) | exact Below.refl _ _)) hb_; have t_r1x0 : Hid (Tell Wq0_ B0 (.agg #[.bool r1x0_n, .slice r1x0_a r1x0_m r1x0_c, .int .i64 r1x0_p, .slice none 0 0]) 17 17 (((xv x).natAbs : Int))) := ht2_.base (Nat.le_trans ZB0.out (Below.size (B := w5_.heap.size) (by with_reducible repeat (first | (refine Below.drew ?_) | (refine bmore ?_ _) | exact HBa.out | exact Below.refl _ _)))); clear ht2_; replace HBa : Hid (Below w5_.heap.size w5_ Wq0_) := bstep HBa.out hbt_; replace ct : Cnt 2 := Cnt.mk _; clear hb_ hbt_ ck) | (have ck : Cnt 2 := ct; go_at_call 35; refine (dCmp _ _ _ B0 17 17 _ _ (t_r1x0.out.below (by with_reducible repeat (first | (refine Below.drew ?_) | (refine bmore ?_ _) | exact (Below.refl _ _) | exact Below.refl _ _))) (t_m.out.below (by with_reducible repeat (first | (refine Below.drew ?_) | (refine bmore ?_ _) | exact HBa.out | exact Below.refl _ _))) (by omega) (by omega)).mono ?_; rintro e Wq1_ ⟨rfl, hb_⟩; rw [HAV.out, HC.out]; have hbt_ : Below Wq0_.heap.size Wq0_ Wq1_ := bstep (by with_reducible repeat (first | (refine Below.drew ?_) | (refine bmore ?_ _) | exact (Below.refl _ _) | exact Below.refl _ _)) hb_; replace t_r1x0 : Hid (Tell _ _ _ _ _ _) := t_r1x0.out.below hbt_; replace HBa : Hid (Below w5_.heap.size w5_ Wq1_) := bstep HBa.out hbt_; replace ct : Cnt 3 := Cnt.mk _; clear hb_ hbt_ ck))
              replace BW : Hid (Below _ _ _) := bstep BW.out HBa.out
              replace UX : Hid (URow _ _ _ _ _) := UX.out.below HBa.out
              replace UU : Hid (URow _ _ _ _ _) := UU.out.below HBa.out
              replace b_m : Hid (BoxF _ _ _ _ _ _) := b_m.out.below HBa.out
              replace t_m : Hid (Tell _ _ _ _ _ _) := t_m.out.below HBa.out
              replace ZB0 : Hid (_ ≤ _) := Nat.le_trans ZB0.out (Below.size HBa.out)
              replace b_a : Hid (BoxF _ _ _ _ _ _) := b_a.out.below HBa.out
              replace t_a : Hid (Tell _ _ _ _ _ _) := t_a.out.below HBa.out
              clear HBa ct t_r1x0
              have t_r : Hid (Tell _ B0 (.agg #[.bool m_n, .slice m_a m_m m_c, .int .i64 m_p, .slice none 0 0]) 17 17 (mxv X (j + 1))) := t_m.out.eq (by rw [EM.out, if_neg (Int.not_lt.2 HGT.out)])
              go_wp2
              go_roundw
              case rel => exact ⟨j + 1, false, _, _, _, _, _, rfl, by go_num, by omega, FB2, b_m, t_r, BW, UX, UU, ZB0⟩
              case measure => simp [intOf]; omega
    · obtain rfl : len0 = j := by omega
      clear UU HUN LU
      go_wp2_with fail
      refine (vPower _ len0 _ X _ UX.out (by omega)).mono ?_
      rintro e wz ⟨q, ok, rfl, hw, hq⟩
      have hw2 := hw.symm
      clear hw
      subst hw2
      rcases hq with ⟨rfl, hF, hP⟩ | ⟨rfl, rfl, hN⟩
      · obtain rfl : fb = true := FB.out.2 hF
        obtain ⟨e0, e1⟩ : -1074 ≤ q ∧ q ≤ 1023 := ⟨hP.1, hP.2.1⟩
        obtain ⟨g1, g2⟩ := mxv_pow hP hF
        have HF : Hid (FinX X len0) := hF
        have hpos : 0 < mxv X len0 := Int.lt_of_lt_of_le (Int.ofNat_lt.2 (Nat.two_pow_pos _)) g1
        have HS : Hid (cmpZ (mxv X len0) 0 = 1) := (cmp_gt _ _).1 hpos
        have q1_ : clampT q = q := by unfold clampT; omega
        have q2_ : clampT (q + 1) = q + 1 := by unfold clampT; omega
        have QA : Hid (clampT q = q) := q1_
        have QB : Hid (clampT (q + 1) = q + 1) := q2_
        have hwq : IntKind.i64.wrap (q + 1) = q + 1 := by rw [IntKind.wrap_i64]; omega
        obtain ⟨pa, hpa⟩ : ∃ p : Int, ((2 ^ (q + 64 * 17).toNat : Nat) : Int) = p := ⟨_, rfl⟩
        obtain ⟨pb, hpb⟩ : ∃ p : Int, ((2 ^ (q + 1 + 64 * 17).toNat : Nat) : Int) = p := ⟨_, rfl⟩
        rw [hpa] at g1
        rw [hpb] at g2
        obtain ⟨ca, hca⟩ : ∃ c, cmpZ (mxv X len0) pa = c := ⟨_, rfl⟩
        obtain ⟨cb, hcb⟩ : ∃ c, cmpZ (mxv X len0) pb = c := ⟨_, rfl⟩
        have hca0 : 0 ≤ ca := by rw [← hca]; exact cmp_nonneg _ _ g1
        have hcb0 : cb < 0 := by rw [← hcb]; unfold cmpZ; rw [if_pos g2]; decide
        have HCA : Hid (_ = _) := hca
        have HCB : Hid (_ = _) := hcb
        have HPA : Hid (((2 ^ (clampT q + 64 * ((17 : Nat) : Int)).toNat : Nat) : Int) = pa) := by rw [QA.out]; exact hpa
        have HPB : Hid (((2 ^ (clampT (q + 1) + 64 * ((17 : Nat) : Int)).toNat : Nat) : Int) = pb) := by rw [QB.out]; exact hpb
        have ZX : Hid (∀ i, 0 ≤ X i ∧ X i < 18446744073709551616) := HX.out.2.2.1
        clear hF hP g1 g2 hpos q1_ q2_ hpa hpb hca hcb FB
        obtain ⟨⟨b_m_0, b_m_1, b_m_2, b_m_3⟩, ⟨b_m_5, b_m_6, b_m_7, b_m_8⟩, b_m_4⟩ := b_m.out
        go_wp2_with fail
        refine (dSign _ _ B0 17 17 _ t_m.out).mono ?_
        rintro e w3_ ⟨rfl, hb_⟩
        rw [HS.out]
        clear b_m_0 b_m_1 b_m_2 b_m_3 b_m_4 b_m_5 b_m_6 b_m_7 b_m_8
        replace BW : Hid (Below _ _ _) := bstep BW.out hb_
        replace UX : Hid (URow _ _ _ _ _) := UX.out.below hb_
        replace b_m : Hid (BoxF _ _ _ _ _ _) := b_m.out.below hb_
        replace t_m : Hid (Tell _ _ _ _ _ _) := t_m.out.below hb_
        replace ZB0 : Hid (_ ≤ _) := Nat.le_trans ZB0.out (Below.size hb_)
        clear hb_
        obtain ⟨⟨b_m_0, b_m_1, b_m_2, b_m_3⟩, ⟨b_m_5, b_m_6, b_m_7, b_m_8⟩, b_m_4⟩ := b_m.out
        go_wp2_with fail
        clear b_m_0 b_m_1 b_m_2 b_m_3 b_m_4 b_m_5 b_m_6 b_m_7 b_m_8
        have ct : Cnt 1 := Cnt.mk _
        have HBa : Hid (Below w3_.heap.size w3_ w3_) := Below.refl _ _
        go_region_held3 (fun w' => (w'.cell? ⟨k_m, 0, none⟩ = some (.bool m_n) ∧ w'.cell? ⟨k_m, 1, none⟩ = some (.slice m_a m_m m_c) ∧ w'.cell? ⟨k_m, 2, none⟩ = some (.int .i64 m_p) ∧ w'.cell? ⟨k_m, 3, none⟩ = some (.slice none 0 0))) (exact (b_m.out.below (by with_reducible repeat (first | (refine Below.drew ?_) | (refine bmore ?_ _) | exact HBa.out | exact Below.refl _ _))).cells) (first | (have ck : Cnt 1 := ct; go_at_call 38; refine (dTwoAt q 17 18 pa _ (by rw [QA.out]; omega) (by rw [QA.out]; omega) (by decide) HPA.out).mono ?_; rintro e Wq0_ ⟨r1x0_v, rfl, ht_, hb_⟩; obtain ⟨r1x0_n, r1x0_a, r1x0_m, r1x0_c, r1x0_p, rfl, ht2_⟩ := ht_.numform; clear ht_; have hbt_ : Below w3_.heap.size w3_ Wq0_ := bstep (by with_reducible repeat (first | (refine Below.drew ?_) | (refine bmore ?_ _) | exact (Below.refl _ _) | exact Below.refl _ _)) hb_; have t_r1x0 : Hid (Tell Wq0_ B0 (.agg #[.bool r1x0_n, .slice r1x0_a r1x0_m r1x0_c, .int .i64 r1x0_p, .slice none 0 0]) 17 18 (pa)) := ht2_.base (Nat.le_trans ZB0.out (Below.size (B := w3_.heap.size) (by with_reducible repeat (first | (refine Below.drew ?_) | (refine bmore ?_ _) | exact HBa.out | exact Below.refl _ _)))); clear ht2_; replace HBa : Hid (Below w3_.heap.size w3_ Wq0_) := bstep HBa.out hbt_; replace ct : Cnt 2 := Cnt.mk _; clear hb_ hbt_ ck) | (have ck : Cnt 2 := ct; go_at_call 35; refine (dCmp _ _ _ B0 17 18 _ _ ((t_m.out.below (by with_reducible repeat (first | (refine Below.drew ?_) | (refine bmore ?_ _) | exact HBa.out | exact Below.refl _ _))).wide 18 (by decide)) (t_r1x0.out.below (by with_reducible repeat (first | (refine Below.drew ?_) | (refine bmore ?_ _) | exact (Below.refl _ _) | exact Below.refl _ _))) (by omega) (by omega)).mono ?_; rintro e Wq1_ ⟨rfl, hb_⟩; rw [HCA.out]; have hbt_ : Below Wq0_.heap.size Wq0_ Wq1_ := bstep (by with_reducible repeat (first | (refine Below.drew ?_) | (refine bmore ?_ _) | exact (Below.refl _ _) | exact Below.refl _ _)) hb_; replace t_r1x0 : Hid (Tell _ _ _ _ _ _) := t_r1x0.out.below hbt_; replace HBa : Hid (Below w3_.heap.size w3_ Wq1_) := bstep HBa.out hbt_; replace ct : Cnt 3 := Cnt.mk _; clear hb_ hbt_ ck) | (have ck : Cnt 3 := ct; go_at_call 38; refine (dTwoAt (q + 1) 17 18 pb _ (by rw [QB.out]; omega) (by rw [QB.out]; omega) (by decide) HPB.out).mono ?_; rintro e Wq2_ ⟨r1x2_v, rfl, ht_, hb_⟩; obtain ⟨r1x2_n, r1x2_a, r1x2_m, r1x2_c, r1x2_p, rfl, ht2_⟩ := ht_.numform; clear ht_; have hbt_ : Below Wq1_.heap.size Wq1_ Wq2_ := bstep (by with_reducible repeat (first | (refine Below.drew ?_) | (refine bmore ?_ _) | exact (Below.refl _ _) | exact Below.refl _ _)) hb_; have t_r1x2 : Hid (Tell Wq2_ B0 (.agg #[.bool r1x2_n, .slice r1x2_a r1x2_m r1x2_c, .int .i64 r1x2_p, .slice none 0 0]) 17 18 (pb)) := ht2_.base (Nat.le_trans ZB0.out (Below.size (B := w3_.heap.size) (by with_reducible repeat (first | (refine Below.drew ?_) | (refine bmore ?_ _) | exact HBa.out | exact Below.refl _ _)))); clear ht2_; replace t_r1x0 : Hid (Tell _ _ _ _ _ _) := t_r1x0.out.below hbt_; replace HBa : Hid (Below w3_.heap.size w3_ Wq2_) := bstep HBa.out hbt_; replace ct : Cnt 4 := Cnt.mk _; clear hb_ hbt_ ck) | (have ck : Cnt 4 := ct; go_at_call 35; refine (dCmp _ _ _ B0 17 18 _ _ ((t_m.out.below (by with_reducible repeat (first | (refine Below.drew ?_) | (refine bmore ?_ _) | exact HBa.out | exact Below.refl _ _))).wide 18 (by decide)) (t_r1x2.out.below (by with_reducible repeat (first | (refine Below.drew ?_) | (refine bmore ?_ _) | exact (Below.refl _ _) | exact Below.refl _ _))) (by omega) (by omega)).mono ?_; rintro e Wq3_ ⟨rfl, hb_⟩; rw [HCB.out]; have hbt_ : Below Wq2_.heap.size Wq2_ Wq3_ := bstep (by with_reducible repeat (first | (refine Below.drew ?_) | (refine bmore ?_ _) | exact (Below.refl _ _) | exact Below.refl _ _)) hb_; replace t_r1x0 : Hid (Tell _ _ _ _ _ _) := t_r1x0.out.below hbt_; replace t_r1x2 : Hid (Tell _ _ _ _ _ _) := t_r1x2.out.below hbt_; replace HBa : Hid (Below w3_.heap.size w3_ Wq3_) := bstep HBa.out hbt_; replace ct : Cnt 5 := Cnt.mk _; clear hb_ hbt_ ck) | (have ck : Cnt 5 := ct; go_at_call 55; refine (vUnit _ len0 _ X 0 _ (UX.out.below (by with_reducible repeat (first | (refine Below.drew ?_) | (refine bmore ?_ _) | exact HBa.out | exact Below.refl _ _))) (by omega) (by decide) (by decide)).mono ?_; rintro e Wq4_ ⟨rfl, hu_, hb_⟩; have U1 : Hid (URow _ _ _ _ _) := hu_; clear hu_; have hbt_ : Below Wq3_.heap.size Wq3_ Wq4_ := bstep (by with_reducible repeat (first | (refine Below.drew ?_) | (refine bmore ?_ _) | exact (Below.refl _ _) | exact Below.refl _ _)) hb_; replace t_r1x0 : Hid (Tell _ _ _ _ _ _) := t_r1x0.out.below hbt_; replace t_r1x2 : Hid (Tell _ _ _ _ _ _) := t_r1x2.out.below hbt_; replace HBa : Hid (Below w3_.heap.size w3_ Wq4_) := bstep HBa.out hbt_; replace ct : Cnt 6 := Cnt.mk _; clear hb_ hbt_ ck) | (have ck : Cnt 6 := ct; go_at_call 47; refine (vScal _ none 0 4607182418800017408 _ len0 _ X _ (IsCalc.nil _ 0) (UX.out.below (by with_reducible repeat (first | (refine Below.drew ?_) | (refine bmore ?_ _) | exact HBa.out | exact Below.refl _ _))) (Apt.nil _ _) (by omega) (by decide) (by decide)).mono ?_; rintro e Wq5_ ⟨rfl, hv_, _, hbb_⟩; have hb_ := hbb_.nil; have U2 : Hid (URow _ _ _ _ _) := hv_; clear hv_ hbb_; have hbt_ : Below Wq4_.heap.size Wq4_ Wq5_ := bstep (by with_reducible repeat (first | (refine Below.drew ?_) | (refine bmore ?_ _) | exact (Below.refl _ _) | exact Below.refl _ _)) hb_; replace U1 : Hid (URow _ _ _ _ _) := U1.out.below hbt_; replace t_r1x0 : Hid (Tell _ _ _ _ _ _) := t_r1x0.out.below hbt_; replace t_r1x2 : Hid (Tell _ _ _ _ _ _) := t_r1x2.out.below hbt_; replace HBa : Hid (Below w3_.heap.size w3_ Wq5_) := bstep HBa.out hbt_; replace ct : Cnt 7 := Cnt.mk _; clear hb_ hbt_ ck) | (have ck : Cnt 7 := ct; go_at_call 56; refine (lSame _ _ len0 _ _ _ _ _ (U1.out.below (by with_reducible repeat (first | (refine Below.drew ?_) | (refine bmore ?_ _) | exact (Below.refl _ _) | exact Below.refl _ _))) (U2.out.below (by with_reducible repeat (first | (refine Below.drew ?_) | (refine bmore ?_ _) | exact (Below.refl _ _) | exact Below.refl _ _))) (fun i hi => (scale_none (X i) (ZX.out i).1 (ZX.out i).2 (HF.out i hi)).trans (one_times (X i) (ZX.out i).1 (ZX.out i).2 (HF.out i hi)).symm)).mono ?_; rintro e Wq6_ ⟨rfl, hb_⟩; have hbt_ : Below Wq5_.heap.size Wq5_ Wq6_ := bstep (by with_reducible repeat (first | (refine Below.drew ?_) | (refine bmore ?_ _) | exact (Below.refl _ _) | exact Below.refl _ _)) hb_; replace U1 : Hid (URow _ _ _ _ _) := U1.out.below hbt_; replace U2 : Hid (URow _ _ _ _ _) := U2.out.below hbt_; replace t_r1x0 : Hid (Tell _ _ _ _ _ _) := t_r1x0.out.below hbt_; replace t_r1x2 : Hid (Tell _ _ _ _ _ _) := t_r1x2.out.below hbt_; replace HBa : Hid (Below w3_.heap.size w3_ Wq6_) := bstep HBa.out hbt_; replace ct : Cnt 8 := Cnt.mk _; clear hb_ hbt_ ck))
        replace BW : Hid (Below _ _ _) := bstep BW.out HBa.out
        replace UX : Hid (URow _ _ _ _ _) := UX.out.below HBa.out
        replace b_m : Hid (BoxF _ _ _ _ _ _) := b_m.out.below HBa.out
        replace t_m : Hid (Tell _ _ _ _ _ _) := t_m.out.below HBa.out
        replace ZB0 : Hid (_ ≤ _) := Nat.le_trans ZB0.out (Below.size HBa.out)
        clear HBa ct t_r1x0 t_r1x2
        go_wp2
        go_ret
        exact ⟨ret_eq rfl, BW.out⟩
      · have HN : Hid (NoPow X len0) := hN
        clear hN
        cases fb
        · skip
          obtain ⟨⟨b_m_0, b_m_1, b_m_2, b_m_3⟩, ⟨b_m_5, b_m_6, b_m_7, b_m_8⟩, b_m_4⟩ := b_m.out
          go_wp2
          go_ret
          exact ⟨ret_eq rfl, BW.out⟩
        · skip
          have HZ : Hid (cmpZ (mxv X len0) 0 = 0) := by
            rcases HN.out with h | ⟨i, hi, h⟩
            · rw [mxv_zero h]; rfl
            · exact absurd (FB.out.1 rfl i hi) h
          clear FB HN
          obtain ⟨⟨b_m_0, b_m_1, b_m_2, b_m_3⟩, ⟨b_m_5, b_m_6, b_m_7, b_m_8⟩, b_m_4⟩ := b_m.out
          go_wp2_with fail
          refine (dSign _ _ B0 17 17 _ t_m.out).mono ?_
          rintro e w3_ ⟨rfl, hb_⟩
          rw [HZ.out]
          clear b_m_0 b_m_1 b_m_2 b_m_3 b_m_4 b_m_5 b_m_6 b_m_7 b_m_8
          replace BW : Hid (Below _ _ _) := bstep BW.out hb_
          replace UX : Hid (URow _ _ _ _ _) := UX.out.below hb_
          replace b_m : Hid (BoxF _ _ _ _ _ _) := b_m.out.below hb_
          replace t_m : Hid (Tell _ _ _ _ _ _) := t_m.out.below hb_
          replace ZB0 : Hid (_ ≤ _) := Nat.le_trans ZB0.out (Below.size hb_)
          clear hb_
          go_wp2
          go_ret
          exact ⟨ret_eq rfl, BW.out⟩

/-! ### THE ROW's STEP: WRITTEN OUT: LEAVE IT -/
set_option maxRecDepth 100000 in
theorem lifted (os : Os) (started : os.Started) (H : Type) (enc : TypeId × Value → H) :
    ReturnsInHanded {} Try.checked os 13 .any (Rows.vecPowersSpec.pre6 enc Try.prog Try.f13 Rows.vecPowersRow.domain false) (Rows.vecPowersSpec.post enc Try.prog Try.f13 false true false false) := by
  refine returnsInHanded_of_change (C := Try.checked) own started (by kernel_rfl) Try.func13
    (ChangeSpec.witness6 (enc := enc) (C := Try.checked) false ⟨#[], #[.slice none 0 0, .int .i64 0], []⟩ 8 (by kernel_rfl) (by kernel_rfl) (by kernel_rfl) (by kernel_rfl)) ?_
  intro W base args ds gs before hval0 hW hcnd _
  have hval : ∀ (j : Nat) t v, Try.f13.params[j]? = some t → args[j]? = some v → Value.okWide Try.prog W .any base t v := hval0
  have hW' := hW
  obtain ⟨p, q, hA0, hV, rfl, hfz, hnd⟩ := hW
  have hA : DataW.TrodAll enc Try.prog W 0 (fun _ => true) true Try.f13.params.toList args.toList ds p := hA0
  rw [Try.params13] at hA hval
  obtain ⟨v0, vs0, d0, ds0, p0, q0, hargs, rfl, rfl, h0, r0⟩ := trodAll_cons hA
  obtain ⟨v1, vs1, d1, ds1, p1, q1, rfl, rfl, rfl, h1, r1⟩ := trodAll_cons r0
  obtain ⟨rfl, rfl, rfl⟩ := trodAll_nil r1
  obtain rfl : args = #[v0, v1] := by cases args; simp_all
  obtain ⟨rfl, rfl⟩ := trodVars_none hV
  obtain ⟨a0, len0, cap0, rfl⟩ := okWide_slice Try.underlying23 (hval 0 23 v0 rfl rfl)
  have k0 := h0
  have lt0 : ∀ x ∈ p0, x.block < W.heap.size := by obtain ⟨m, hm⟩ := k0; exact DataW.trod_lt m _ _ _ hm
  obtain ⟨z0, w0⟩ : ∃ zs, IsRow .u64 W a0 len0 cap0 zs := by
    obtain ⟨fuel, hf⟩ := h0
    rcases open_ints Try.underlying23 Try.underlying26 (by kernel_rfl) hf with ⟨hcs, _⟩ | ⟨x, l, c, zs, hcs, _, hl, hm, hz, _, hcell, hwz⟩
    · simp [Value.cells] at hcs
      obtain ⟨rfl, rfl, rfl⟩ := hcs
      exact ⟨[], .inl ⟨rfl, rfl, rfl, rfl⟩⟩
    · simp [Value.cells] at hcs
      obtain ⟨rfl, rfl, rfl⟩ := hcs
      exact ⟨zs, .inr ⟨_, rfl, hl, hm, by simpa using hz, hcell, hwz⟩⟩
  obtain ⟨a1, rfl, rfl, rfl, w1⟩ := open_int Try.underlying3 (hval 1 3 v1 rfl rfl) h1
  clear hA0 hval0
  refine (walk a0 len0 cap0 z0 a1 W w0 w1).mono fun e W' ⟨he, bel⟩ => ?_
  subst he
  exact ⟨_, rfl, _, _, _, [], _, [], hW', trodAll_mk1 (shut_bool Try.underlying4 _), (trodAll_cons_mk (Below.trod laidOut (by kernel_rfl) (of_decide_eq_true (by kernel_rfl)) k0 bel lt0) (trodAll_cons_mk (shut_int Try.underlying3 w1) trodAll_mk0)), rfl, bel.frame _, fun h => by cases h⟩

theorem over : Rows.vecPowersRow.holds Try.pinned (OpenSpec.ofChange Rows.vecPowersSpec) :=
  OpenClaim.holds_of_wide 13 Try.f13 rfl rfl rfl rfl rfl rfl rfl ⟨rfl, rfl, rfl, rfl, rfl⟩ rfl rfl rfl rfl rfl (by kernel_rfl) Try.func13 (by kernel_rfl)
    (of_decide_eq_true (by kernel_rfl)) (by unfold Func.isWrapper; first | (rw [if_pos (by decide +kernel)]; kernel_rfl) | (rw [if_neg (by decide +kernel)]; exact ⟨rfl, rfl⟩))
    (fun os started H enc _ => lifted os started H enc)

/-- ████ THE STATEMENT ████ -/
theorem proved : Rows.VecPowersSaid := over
#print axioms proved
end Go.Proofs.Ytokgfeeaoioegaa.vecPowers
