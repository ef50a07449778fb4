/-
  Texts put together: SysL SysO.
-/
import Derived.Test.YtpakpgjbgehhjaaGreatProg
import Derived.Test.YtpakpgjbgehhjaaGreatGrAO
import Derived.Test.YtpakpgjbgehhjaaGreatGrAN
import Derived.Test.YtpakpgjbgehhjaaGreatGrL
import Derived.BigRegion
/-
  What solve's own lead does to a system: from the step on the number greatest in magnitude is brought to the step's place, by an exchange of two rows and of two columns. Condition: a square matrix that is right.
-/
namespace Go.Proofs.YtpakpgjbgehhjaaGreat
open Go.RowKit
set_option linter.unusedVariables false
set_option linter.unusedSimpArgs false

theorem yAbs (b : Int) (w : World) (h0 : 0 ≤ b) (h1 : b < 18446744073709551616) : Calls Tryz.prog 25 #[.int .u64 b] w fun e w' => e = .returned (.int .u64 (b % 9223372036854775808)) ∧ Below w.heap.size w w' :=
  (abs_any b w h0 h1).mono fun e w' ⟨p, q⟩ => ⟨p, by rw [q]; exact Below.refl _ _⟩
theorem RowN.swp {w : World} {g n : Nat} {f : Nat → Nat} (h : RowN w g n f) (a b x y : Nat) (hx : f b = x) (hy : f a = y) : RowN ((w.setCell ⟨g, a, none⟩ (.int .i64 (x : Int))).setCell ⟨g, b, none⟩ (.int .i64 (y : Int))) g n (fun k => f (sw a b k)) := by
  refine RowN.put (f := fun k => if k = a then x else f k) (RowN.put h a x (fun k _ => rfl)) b y (fun k hk => ?_)
  unfold sw
  by_cases e1 : k = a
  · subst e1
    rw [if_pos rfl, if_pos rfl]
    by_cases e2 : k = b
    · subst e2
      rw [if_pos rfl, hy]
    · rw [if_neg e2, hx]
  · rw [if_neg e1, if_neg e1]
    by_cases e2 : k = b
    · rw [if_pos e2, if_pos e2, hy]
    · rw [if_neg e2, if_neg e2]
theorem sw_inj (a b i k : Nat) (h : sw a b i = sw a b k) : i = k := by rw [← sw_sw a b i, h, sw_sw]
theorem SyI.swp {C D : Nat} {xs : List Int} {rs cs : Nat → Nat} (h : SyI C D xs rs cs) (a b c d : Nat) (ha : a < C) (hb : b < C) (hc : c < C) (hd : d < C) : SyI C D xs (fun k => rs (sw a b k)) (fun k => cs (sw c d k)) where
  len := h.len
  sq := h.sq
  inw := h.inw
  rl := fun i hi => h.rl _ (sw_lt a b C i ha hb hi)
  cl := fun i hi => h.cl _ (sw_lt c d C i hc hd hi)
  ri := fun i k hi hk e => sw_inj a b i k (h.ri _ _ (sw_lt a b C i ha hb hi) (sw_lt a b C k ha hb hk) e)
  ci := fun i k hi hk e => sw_inj c d i k (h.ci _ _ (sw_lt c d C i hc hd hi) (sw_lt c d C k hc hd hk) e)
/-- (row, col) is the greatest of those from s on ahead of (n, m). -/
structure LdI (A : Nat → Nat → Int) (C s row col n m : Nat) : Prop where
  ra : s ≤ row
  rb : row < C
  ca : s ≤ col
  cb : col < C
  top : ∀ i k, s ≤ i → s ≤ k → k < C → (i < n ∨ i = n ∧ k < m) → A i k % 9223372036854775808 ≤ A row col % 9223372036854775808
theorem LdI.start (A : Nat → Nat → Int) (C s : Nat) (hs : s < C) : LdI A C s s s s s := ⟨Nat.le_refl _, hs, Nat.le_refl _, hs, fun i k h1 h2 h3 h4 => by omega⟩
theorem LdI.next {A : Nat → Nat → Int} {C s row col n : Nat} (h : LdI A C s row col n C) : LdI A C s row col (n + 1) s := ⟨h.ra, h.rb, h.ca, h.cb, fun i k h1 h2 h3 h4 => h.top i k h1 h2 h3 (by omega)⟩
theorem LdI.stay {A : Nat → Nat → Int} {C s row col n m : Nat} (h : LdI A C s row col n m) (g : A n m % 9223372036854775808 ≤ A row col % 9223372036854775808) : LdI A C s row col n (m + 1) := ⟨h.ra, h.rb, h.ca, h.cb, fun i k h1 h2 h3 h4 => by
  by_cases e : i = n ∧ k = m
  · rw [e.1, e.2]; exact g
  · exact h.top i k h1 h2 h3 (by omega)⟩
theorem LdI.take {A : Nat → Nat → Int} {C s row col n m : Nat} (h : LdI A C s row col n m) (hn : s ≤ n) (hn2 : n < C) (hm : s ≤ m) (hm2 : m < C) (g : A row col % 9223372036854775808 < A n m % 9223372036854775808) : LdI A C s n m n (m + 1) := ⟨hn, hn2, hm, hm2, fun i k h1 h2 h3 h4 => by
  by_cases e : i = n ∧ k = m
  · rw [e.1, e.2]; exact Int.le_refl _
  · exact Int.le_trans (h.top i k h1 h2 h3 (by omega)) (Int.le_of_lt g)⟩
set_option maxHeartbeats 8000000 in
set_option maxRecDepth 100000 in
theorem yLead (C D gm gr gc : Nat) (xs : List Int) (rs cs : Nat → Nat) (s : Nat) (w : World) (h : Rgt (C : Int) (C : Int) (C : Int) D) (hC : C ≤ 1000) (I : SyI C D xs rs cs) (S : Sy w C gm gr gc xs rs cs) (hs : s < C) (nrc : gr ≠ gc) (ngr : gm ≠ gr) (ngc : gm ≠ gc) :
    Calls Tryz.prog 80 #[.agg #[.int .i64 (C : Int), .int .i64 (C : Int), .int .i64 (C : Int), .slice (some ⟨gm, 0, none⟩) D D, .slice (some ⟨gr, 0, none⟩) C C, .slice (some ⟨gc, 0, none⟩) C C], .int .i64 (s : Int)] w fun e w' => e = .returned (.tuple #[]) ∧ ∃ row col, LdI (vw xs rs cs C) C s row col C s ∧ Sy w' C gm gr gc xs (fun k => rs (sw s row k)) (fun k => cs (sw s col k)) ∧ Bes2 (some gr) gc w w' := by
  have HH : Hid (Rgt (C : Int) (C : Int) (C : Int) D) := h
  have SI : Hid (SyI C D xs rs cs) := I
  have SS0 : Hid (Sy w C gm gr gc xs rs cs) := S
  have NR : Hid (gm ≠ gr) := ngr
  have NC : Hid (gm ≠ gc) := ngc
  have NRC : Hid (gr ≠ gc) := nrc
  have LD : Hid (LdI (vw xs rs cs C) C s s s s s) := LdI.start _ C s hs
  clear h I S nrc ngr ngc
  go_enter Tryz.func80, Tryz.ntmps80
  go_upto_region 1 with fail
  have mT := TBox.madeS w (C : Int) (C : Int) (.slice (some ⟨gm, 0, none⟩) D D) (.slice (some ⟨gr, 0, none⟩) C C) (.slice (some ⟨gc, 0, none⟩) C C)
  have b0 : Below w.heap.size w (w.alloc (.cells #[.int .i64 (C : Int), .int .i64 (C : Int), .int .i64 (C : Int), .slice (some ⟨gm, 0, none⟩) D D, .slice (some ⟨gr, 0, none⟩) C C, .slice (some ⟨gc, 0, none⟩) C C] 82)) := bmore (Below.refl _ _) _
  generalize (w.alloc (.cells #[.int .i64 (C : Int), .int .i64 (C : Int), .int .i64 (C : Int), .slice (some ⟨gm, 0, none⟩) D D, .slice (some ⟨gr, 0, none⟩) C C, .slice (some ⟨gc, 0, none⟩) C C] 82)) = W0 at mT b0 ⊢
  obtain ⟨kt, hkt⟩ : ∃ k, k = w.heap.size := ⟨_, rfl⟩
  rw [← hkt] at mT ⊢
  have NK : Hid (gr ≠ kt) := by have := SS0.out.rows.lt; show _ ≠ _; omega
  have NK2 : Hid (gc ≠ kt) := by have := SS0.out.cols.lt; show _ ≠ _; omega
  have SS : Hid (Sy W0 C gm gr gc xs rs cs) := SS0.out.below b0
  have MT : Hid (TBox W0 kt (C : Int) (C : Int) (.slice (some ⟨gm, 0, none⟩) D D) (.slice (some ⟨gr, 0, none⟩) C C) (.slice (some ⟨gc, 0, none⟩) C C)) := mT
  have B0 : Hid (Below w.heap.size w W0) := b0
  clear mT b0 hkt SS0
  go_wp2_with fail
  go_loopw [4, 5, 6] (fun r q i wr => ∃ (n row col : Nat), r = .int .i64 (row : Int) ∧ q = .int .i64 (col : Int) ∧ i = .int .i64 (n : Int) ∧ s ≤ n ∧ n ≤ C ∧ Hid (LdI (vw xs rs cs C) C s row col n s) ∧ Hid (Sy wr C gm gr gc xs rs cs) ∧ Hid (TBox wr kt (C : Int) (C : Int) (.slice (some ⟨gm, 0, none⟩) D D) (.slice (some ⟨gr, 0, none⟩) C C) (.slice (some ⟨gc, 0, none⟩) C C)) ∧ Hid (Below w.heap.size w wr)) (fun _ _ i _ => C - (intOf i).toNat)
  case atStart => exact ⟨s, s, s, rfl, rfl, rfl, Nat.le_refl _, Nat.le_of_lt hs, LD, SS, MT, B0⟩
  case round =>
    clear SS LD MT B0
    obtain ⟨n, row, col, rfl, rfl, rfl, hn1, hnC, LD, SS, MT, B0⟩ := hrel
    obtain ⟨w1, rfl⟩ : ∃ x, x = wr := ⟨wr, rfl⟩
    obtain ⟨t0, t1, t2, t3, t4, t5⟩ := MT.out.cells
    by_cases hlt : (n : Int) < (C : Int)
    · go_wp2_with fail
      clear t0 t1 t2 t3 t4 t5
      go_loopw [4, 5, 7] (fun r q i wr => ∃ (m row col : Nat), r = .int .i64 (row : Int) ∧ q = .int .i64 (col : Int) ∧ i = .int .i64 (m : Int) ∧ s ≤ m ∧ m ≤ C ∧ Hid (LdI (vw xs rs cs C) C s row col n m) ∧ Hid (Sy wr C gm gr gc xs rs cs) ∧ Hid (TBox wr kt (C : Int) (C : Int) (.slice (some ⟨gm, 0, none⟩) D D) (.slice (some ⟨gr, 0, none⟩) C C) (.slice (some ⟨gc, 0, none⟩) C C)) ∧ Hid (Below w.heap.size w wr)) (fun _ _ i _ => C - (intOf i).toNat)
      case atStart => exact ⟨s, row, col, rfl, rfl, rfl, Nat.le_refl _, Nat.le_of_lt hs, LD, SS, MT, B0⟩
      case round =>
        as_aux_lemma =>
          clear SS LD MT B0
          obtain ⟨m, row, col, rfl, rfl, rfl, hm1, hmC, LD, SS, MT, B0⟩ := hrel
          obtain ⟨w1, rfl⟩ : ∃ x, x = wr := ⟨wr, rfl⟩
          obtain ⟨t0, t1, t2, t3, t4, t5⟩ := MT.out.cells
          by_cases hlm : (m : Int) < (C : Int)
          · obtain ⟨a0, a1⟩ := vw_rng SI.out n m
            obtain ⟨d0, d1⟩ := vw_rng SI.out row col
            obtain ⟨av, hav⟩ : ∃ a, vw xs rs cs C n m = a := ⟨_, rfl⟩
            obtain ⟨dv, hdv⟩ : ∃ a, vw xs rs cs C row col = a := ⟨_, rfl⟩
            have E3 : Hid (vw xs rs cs C n m = av) := hav
            have E4 : Hid (vw xs rs cs C row col = dv) := hdv
            rw [hav] at a0 a1
            rw [hdv] at d0 d1
            have hrow : row < C := LD.out.rb
            have hcol : col < C := LD.out.cb
            obtain ⟨ax, hax⟩ : ∃ a, av % 9223372036854775808 = a := ⟨_, rfl⟩
            obtain ⟨dx, hdx⟩ : ∃ a, dv % 9223372036854775808 = a := ⟨_, rfl⟩
            have HA : Hid (_ = _) := hax
            have HDX : Hid (_ = _) := hdx
            clear hav hdv hax hdx
            go_wp2_with fail
            have ct : Cnt 1 := Cnt.mk _
            go_region_held3 (fun w' => w'.cell? ⟨kt, 0, none⟩ = some (.int .i64 (C : Int)) ∧ w'.cell? ⟨kt, 1, none⟩ = some (.int .i64 (C : Int)) ∧ w'.cell? ⟨kt, 2, none⟩ = some (.int .i64 (C : Int)) ∧ w'.cell? ⟨kt, 3, none⟩ = some (.slice (some ⟨gm, 0, none⟩) D D) ∧ w'.cell? ⟨kt, 4, none⟩ = some (.slice (some ⟨gr, 0, none⟩) C C) ∧ w'.cell? ⟨kt, 5, none⟩ = some (.slice (some ⟨gc, 0, none⟩) C C)) (exact (by first | exact MT.out.cells | exact (MT.out.below (Below.refl _ _).drew).cells)) (first | (have ck : Cnt 1 := ct; go_at_call 81; refine (zAt C D gm gr gc xs rs cs n m _ HH.out hC SI.out (SS.out.below (by first | exact Below.refl _ _ | exact (Below.refl _ _).drew)) (by omega) (by omega)).mono ?_; rintro e w2 ⟨rfl, hb_⟩; rw [E3.out]; replace hb_ : Below w1.heap.size w1 w2 := (by first | exact hb_ | exact ((Below.refl _ _).drew).trans hb_); replace SS : Hid (Sy _ _ _ _ _ _ _ _) := SS.out.below hb_; replace MT : Hid (TBox _ _ _ _ _ _ _) := MT.out.below hb_; replace B0 : Hid (Below _ _ _) := bstep B0.out hb_; replace ct : Cnt 2 := Cnt.mk _; clear ck hb_) | (have ck : Cnt 2 := ct; go_at_call 25; refine (yAbs av _ a0 a1).mono ?_; rintro e w3 ⟨rfl, hb_⟩; rw [HA.out]; replace SS : Hid (Sy _ _ _ _ _ _ _ _) := SS.out.below hb_; replace MT : Hid (TBox _ _ _ _ _ _ _) := MT.out.below hb_; replace B0 : Hid (Below _ _ _) := bstep B0.out hb_; replace ct : Cnt 3 := Cnt.mk _; clear ck hb_) | (have ck : Cnt 3 := ct; go_at_call 81; refine (zAt C D gm gr gc xs rs cs row col _ HH.out hC SI.out (SS.out.below (by first | exact Below.refl _ _ | exact (Below.refl _ _).drew)) (by omega) (by omega)).mono ?_; rintro e w4 ⟨rfl, hb_⟩; rw [E4.out]; replace SS : Hid (Sy _ _ _ _ _ _ _ _) := SS.out.below hb_; replace MT : Hid (TBox _ _ _ _ _ _ _) := MT.out.below hb_; replace B0 : Hid (Below _ _ _) := bstep B0.out hb_; replace ct : Cnt 4 := Cnt.mk _; clear ck hb_) | (have ck : Cnt 4 := ct; go_at_call 25; refine (yAbs dv _ d0 d1).mono ?_; rintro e w5 ⟨rfl, hb_⟩; rw [HDX.out]; replace SS : Hid (Sy _ _ _ _ _ _ _ _) := SS.out.below hb_; replace MT : Hid (TBox _ _ _ _ _ _ _) := MT.out.below hb_; replace B0 : Hid (Below _ _ _) := bstep B0.out hb_; replace ct : Cnt 5 := Cnt.mk _; clear ck hb_))
            clear t0 t1 t2 t3 t4 t5 ct
            by_cases hg : dx < ax
            · have LD2 : Hid (LdI (vw xs rs cs C) C s n m n (m + 1)) := LD.out.take hn1 (by omega) hm1 (by omega) (by rw [E3.out, E4.out, HA.out, HDX.out]; exact hg)
              go_wp2
              go_roundw
              case rel => exact ⟨m + 1, n, m, rfl, rfl, by go_num, by omega, by omega, LD2, SS, MT, B0⟩
              case measure => simp [intOf]; omega
            · have LD2 : Hid (LdI (vw xs rs cs C) C s row col n (m + 1)) := LD.out.stay (by rw [E3.out, E4.out, HA.out, HDX.out]; omega)
              have hg2 : decide (dx < ax) = false := decide_eq_false hg
              go_wp2
              go_roundw
              case rel => exact ⟨m + 1, row, col, rfl, rfl, by go_num, by omega, by omega, LD2, SS, MT, B0⟩
              case measure => simp [intOf]; omega
          · obtain rfl : m = C := by omega
            have LD2 : Hid (LdI (vw xs rs cs m) m s row col (n + 1) s) := LD.out.next
            go_wp2
            go_roundw
            case rel => exact ⟨n + 1, row, col, rfl, rfl, by go_num, by omega, by omega, LD2, SS, MT, B0⟩
            case measure => simp [intOf]; omega
    · obtain rfl : n = C := by omega
      as_aux_lemma =>
        have hrow : row < n := LD.out.rb
        have hcol : col < n := LD.out.cb
        have hr2 : (row : Int) < (n : Int) := by omega
        have hc2 : (col : Int) < (n : Int) := by omega
        have hs2 : (s : Int) < (n : Int) := by omega
        obtain ⟨x1, hx1⟩ : ∃ x, rs row = x := ⟨_, rfl⟩
        obtain ⟨y1, hy1⟩ : ∃ x, rs s = x := ⟨_, rfl⟩
        have r1 := SS.out.rows.cellE row hrow hx1
        have r2 := SS.out.rows.cellE s hs hy1
        have f1 := SS.out.rows.frozen row
        have f2 := SS.out.rows.frozen s
        have f3 := (SS.out.rows.put s x1 (f' := fun k => if k = s then x1 else rs k) (fun _ _ => rfl)).frozen row
        have r3 := (SS.out.rows.put s x1 (f' := fun k => if k = s then x1 else rs k) (fun _ _ => rfl)).cell row hrow
        obtain ⟨z1, hz1⟩ : ∃ z, (if row = s then x1 else rs row) = z := ⟨_, rfl⟩
        replace r3 : (w1.setCell ⟨gr, s, none⟩ (.int .i64 (x1 : Int))).cell? ⟨gr, row, none⟩ = some (.int .i64 (z1 : Int)) := by rw [← hz1]; exact r3
        have HX1 : Hid (rs row = x1 ∧ rs s = y1) := ⟨hx1, hy1⟩
        clear hz1 hx1 hy1
        obtain ⟨u0, u1, u2, u3, u4, u5⟩ := (MT.out.bes (Bes.put w1 gr s (.int .i64 (x1 : Int))) (ne_some NK.out)).cells
        go_wp2_with fail
        go_region
        have hb_ : Bes (some gr) w1 ((w1.setCell ⟨gr, s, none⟩ (.int .i64 (x1 : Int))).setCell ⟨gr, row, none⟩ (.int .i64 (y1 : Int))).drew := ((Bes.put w1 gr s _).set (p := ⟨gr, row, none⟩) (.inr rfl) _).drew
        have hR_ : RowN ((w1.setCell ⟨gr, s, none⟩ (.int .i64 (x1 : Int))).setCell ⟨gr, row, none⟩ (.int .i64 (y1 : Int))).drew gr n (fun k => rs (sw s row k)) := (SS.out.rows.swp s row x1 y1 HX1.out.1 HX1.out.2).below (Below.refl _ _).drew
        generalize ((w1.setCell ⟨gr, s, none⟩ (.int .i64 (x1 : Int))).setCell ⟨gr, row, none⟩ (.int .i64 (y1 : Int))).drew = w2 at hb_ hR_ ⊢
        have HC_ : Hid (RowN w2 gc n cs) := SS.out.cols.bes hb_ (ne_some NRC.out)
        have HM_ : Hid (RowU w2 gm xs) := SS.out.mat.bes hb_ (ne_some (Ne.symm NR.out))
        have HR_ : Hid (RowN w2 gr n (fun k => rs (sw s row k))) := hR_
        have HB_ : Hid (Bes2 (some gr) gc w w2) := (Bes2.of B0.out).trans (Bes2.calc hb_)
        replace MT : Hid (TBox _ _ _ _ _ _ _) := MT.out.bes hb_ (ne_some NK.out)
        clear hb_ hR_ r1 r2 r3 f1 f2 f3 u0 u1 u2 u3 u4 u5 t0 t1 t2 t3 t4 t5 SS B0
        as_aux_lemma =>
          obtain ⟨x2, hx2⟩ : ∃ x, cs col = x := ⟨_, rfl⟩
          obtain ⟨y2, hy2⟩ : ∃ x, cs s = x := ⟨_, rfl⟩
          have r1 := HC_.out.cellE col hcol hx2
          have r2 := HC_.out.cellE s hs hy2
          have f1 := HC_.out.frozen col
          have f2 := HC_.out.frozen s
          have f3 := (HC_.out.put s x2 (f' := fun k => if k = s then x2 else cs k) (fun _ _ => rfl)).frozen col
          have r3 := (HC_.out.put s x2 (f' := fun k => if k = s then x2 else cs k) (fun _ _ => rfl)).cell col hcol
          obtain ⟨z2, hz2⟩ : ∃ z, (if col = s then x2 else cs col) = z := ⟨_, rfl⟩
          replace r3 : (w2.setCell ⟨gc, s, none⟩ (.int .i64 (x2 : Int))).cell? ⟨gc, col, none⟩ = some (.int .i64 (z2 : Int)) := by rw [← hz2]; exact r3
          have HX2 : Hid (cs col = x2 ∧ cs s = y2) := ⟨hx2, hy2⟩
          clear hz2 hx2 hy2
          obtain ⟨t0, t1, t2, t3, t4, t5⟩ := MT.out.cells
          obtain ⟨u0, u1, u2, u3, u4, u5⟩ := (MT.out.bes (Bes.put w2 gc s (.int .i64 (x2 : Int))) (ne_some NK2.out)).cells
          go_wp2_with fail
          go_region
          have hb_ : Bes (some gc) w2 ((w2.setCell ⟨gc, s, none⟩ (.int .i64 (x2 : Int))).setCell ⟨gc, col, none⟩ (.int .i64 (y2 : Int))).drew := ((Bes.put w2 gc s _).set (p := ⟨gc, col, none⟩) (.inr rfl) _).drew
          have hR_ : RowN ((w2.setCell ⟨gc, s, none⟩ (.int .i64 (x2 : Int))).setCell ⟨gc, col, none⟩ (.int .i64 (y2 : Int))).drew gc n (fun k => cs (sw s col k)) := (HC_.out.swp s col x2 y2 HX2.out.1 HX2.out.2).below (Below.refl _ _).drew
          generalize ((w2.setCell ⟨gc, s, none⟩ (.int .i64 (x2 : Int))).setCell ⟨gc, col, none⟩ (.int .i64 (y2 : Int))).drew = w3 at hb_ hR_ ⊢
          clear r1 r2 r3 f1 f2 f3 u0 u1 u2 u3 u4 u5 t0 t1 t2 t3 t4 t5
          go_wp2
          refine bodyPost_end (results_none rfl _ _ _) rfl ?_
          exact ⟨rfl, row, col, LD.out, ⟨HM_.out.bes hb_ (ne_some (Ne.symm NC.out)), HR_.out.bes hb_ (ne_some (Ne.symm NRC.out)), hR_⟩, HB_.out.trans (Bes2.blk hb_)⟩

end Go.Proofs.YtpakpgjbgehhjaaGreat

/-
  What solve's own ordered returns: both triangles in one matrix, its rows and columns as they stand. Condition: a square matrix that is right.
-/
namespace Go.Proofs.YtpakpgjbgehhjaaGreat
open Go.RowKit
set_option linter.unusedVariables false
set_option linter.unusedSimpArgs false

/-- Rows beneath n, and of row n what stands left of m, are there. -/
def OrI (zs : List Int) (A : Nat → Nat → Int) (C n m : Nat) : Prop := zs.length = C * C ∧ InW zs ∧ ∀ i k, i < C → k < C → (i < n ∨ (i = n ∧ k < m)) → zs[i * C + k]?.getD 0 = A i k
theorem OrI.new (A : Nat → Nat → Int) (C : Nat) : OrI (List.replicate (C * C) 0) A C 0 0 := ⟨List.length_replicate, InW.zeros _, fun i k _ _ h => by omega⟩
theorem OrI.set {zs : List Int} {A : Nat → Nat → Int} {C n m : Nat} (h : OrI zs A C n m) (hn : n < C) (hm : m < C) (x : Int) (hx : A n m = x) (x0 : 0 ≤ x) (x1 : x < 18446744073709551616) : OrI (zs.set (n * C + m) x) A C n (m + 1) := by
  obtain ⟨h1, h2, h3⟩ := h
  refine ⟨by rw [List.length_set]; exact h1, h2.set _ _ x0 x1, fun i k hi hk hik => ?_⟩
  rw [List.getElem?_set]
  by_cases e : n * C + m = i * C + k
  · obtain ⟨e1, e2⟩ := pl_eq hm hk e
    subst e1 e2
    rw [if_pos rfl, if_pos (by rw [h1]; exact pl_lt hn hm)]
    exact hx.symm
  · rw [if_neg e]
    exact h3 i k hi hk (by
      rcases hik with g | ⟨g1, g2⟩
      · exact .inl g
      · refine .inr ⟨g1, ?_⟩
        have : k ≠ m := fun e2 => e (by rw [g1, e2])
        omega)
theorem OrI.next {zs : List Int} {A : Nat → Nat → Int} {C n : Nat} (h : OrI zs A C n C) : OrI zs A C (n + 1) 0 := by
  obtain ⟨h1, h2, h3⟩ := h
  exact ⟨h1, h2, fun i k hi hk hik => h3 i k hi hk (by omega)⟩
structure OrdW (w wr : World) (C D gm gr gc kt b4 b5 gz : Nat) (xs : List Int) (rs cs : Nat → Nat) (zs : List Int) : Prop where
  t : TBox wr kt (C : Int) (C : Int) (.slice (some ⟨gm, 0, none⟩) D D) (.slice (some ⟨gr, 0, none⟩) C C) (.slice (some ⟨gc, 0, none⟩) C C)
  made : MBox wr b5 (C : Int) (C : Int) (C : Int) (.slice (some ⟨gz, 0, none⟩) (C * C) (C * C))
  ans : WBox wr b4 0 0 0 (.slice none 0 0)
  row : RowU wr gz zs
  sy : Sy wr C gm gr gc xs rs cs
  bel : Below w.heap.size w wr
theorem OrdW.below {w wr wr' : World} {C D gm gr gc kt b4 b5 gz : Nat} {xs : List Int} {rs cs : Nat → Nat} {zs : List Int} (h : OrdW w wr C D gm gr gc kt b4 b5 gz xs rs cs zs) (hb : Below wr.heap.size wr wr') : OrdW w wr' C D gm gr gc kt b4 b5 gz xs rs cs zs :=
  ⟨h.t.below hb, h.made.below hb, h.ans.below hb, h.row.below hb, h.sy.below hb, bstep h.bel hb⟩
theorem OrdW.bes {w wr wr' : World} {C D gm gr gc kt b4 b5 gz : Nat} {xs : List Int} {rs cs : Nat → Nat} {zs ys : List Int} (h : OrdW w wr C D gm gr gc kt b4 b5 gz xs rs cs zs) (hb : Bes (some gz) wr wr') (hr : RowU wr' gz ys) (d0 : gz ≠ kt) (d4 : gz ≠ b4) (d5 : gz ≠ b5) (e1 : gz ≠ gm) (e2 : gz ≠ gr) (e3 : gz ≠ gc) (dw : w.heap.size ≤ gz) : OrdW w wr' C D gm gr gc kt b4 b5 gz xs rs cs ys :=
  ⟨h.t.bes hb (ne_some d0), h.made.bes hb (ne_some d5), h.ans.bes hb (ne_some d4), hr, h.sy.bes hb (ne_some e1) (ne_some e2) (ne_some e3), h.bel.trans (hb.below _ h.bel.size (fun k e => by injection e with e; omega))⟩
set_option maxHeartbeats 8000000 in
set_option maxRecDepth 100000 in
theorem yOrdered (C D gm gr gc : Nat) (xs : List Int) (rs cs : Nat → Nat) (w : World) (h : Rgt (C : Int) (C : Int) (C : Int) D) (hC : C ≤ 1000) (I : SyI C D xs rs cs) (S : Sy w C gm gr gc xs rs cs) :
    Calls Tryz.prog 52 #[.agg #[.int .i64 (C : Int), .int .i64 (C : Int), .int .i64 (C : Int), .slice (some ⟨gm, 0, none⟩) D D, .slice (some ⟨gr, 0, none⟩) C C, .slice (some ⟨gc, 0, none⟩) C C]] w fun e w' => ∃ g, e = .returned (.agg #[.int .i64 (C : Int), .int .i64 (C : Int), .int .i64 (C : Int), .slice (some ⟨g, 0, none⟩) (C * C) (C * C)]) ∧ w.heap.size ≤ g ∧ (∃ zs, RowU w' g zs ∧ OrI zs (vw xs rs cs C) C C 0) ∧ Below w.heap.size w w' := by
  have HH : Hid (Rgt (C : Int) (C : Int) (C : Int) D) := h
  have HG : Hid (Rgt (C : Int) (C : Int) (C : Int) (C * C)) := by rw [I.sq]; exact h
  have hsq : C * C ≤ 1000000 := Nat.mul_le_mul hC hC
  have SI : Hid (SyI C D xs rs cs) := I
  have SS : Hid (Sy w C gm gr gc xs rs cs) := S
  clear h I S
  go_enter Tryz.func52, Tryz.ntmps52
  go_upto_region 1 with fail
  obtain ⟨o1, ho1⟩ : ∃ o, o = Obj.cells #[.int .i64 (C : Int), .int .i64 (C : Int), .int .i64 (C : Int), .slice (some ⟨gm, 0, none⟩) D D, .slice (some ⟨gr, 0, none⟩) C C, .slice (some ⟨gc, 0, none⟩) C C] 82 := ⟨_, rfl⟩
  have bW : Below w.heap.size w ((w.alloc o1).alloc (.cells #[.int .i64 0, .int .i64 0, .int .i64 0, .slice none 0 0] 25)) := bmore (bmore (Below.refl _ _) _) _
  have mT : TBox ((w.alloc o1).alloc (.cells #[.int .i64 0, .int .i64 0, .int .i64 0, .slice none 0 0] 25)) w.heap.size (C : Int) (C : Int) (.slice (some ⟨gm, 0, none⟩) D D) (.slice (some ⟨gr, 0, none⟩) C C) (.slice (some ⟨gc, 0, none⟩) C C) := by
    rw [ho1]
    exact (TBox.madeS w _ _ _ _ _).below ((Below.refl _ _).alloc (Nat.le_refl _) _)
  have wW : WBox ((w.alloc o1).alloc (.cells #[.int .i64 0, .int .i64 0, .int .i64 0, .slice none 0 0] 25)) (w.heap.size + 1) 0 0 0 (.slice none 0 0) := by
    have := WBox.made (w.alloc o1) 0 0 0 (.slice none 0 0)
    simp only [World.size_alloc] at this
    exact this
  rw [← ho1]
  clear ho1
  generalize ((w.alloc o1).alloc (.cells #[.int .i64 0, .int .i64 0, .int .i64 0, .slice none 0 0] 25)) = W0 at mT bW wW ⊢
  obtain ⟨b4, hb4⟩ : ∃ b, b = w.heap.size + 1 := ⟨_, rfl⟩
  obtain ⟨kt, hkt⟩ : ∃ b, b = w.heap.size := ⟨_, rfl⟩
  rw [← hb4] at wW ⊢
  rw [← hkt] at mT ⊢
  have HK : Hid (kt = w.heap.size ∧ b4 = w.heap.size + 1) := ⟨hkt, hb4⟩
  have MT : Hid (TBox W0 kt (C : Int) (C : Int) (.slice (some ⟨gm, 0, none⟩) D D) (.slice (some ⟨gr, 0, none⟩) C C) (.slice (some ⟨gc, 0, none⟩) C C)) := mT
  have A0 : Hid (WBox W0 b4 0 0 0 (.slice none 0 0)) := wW
  have B0 : Hid (Below w.heap.size w W0) := bW
  have SS1 : Hid (Sy W0 C gm gr gc xs rs cs) := SS.out.below bW
  clear mT wW bW hb4 hkt
  obtain ⟨t0, t1, t2, t3, t4, t5⟩ := MT.out.cells
  go_wp2_with fail
  refine (mNew C C W0 (by omega) (by omega) hsq).mono ?_
  rintro e w2 ⟨rfl, _, hrow, hb2⟩
  obtain ⟨gz, hgz⟩ : ∃ g, g = W0.heap.size + 1 := ⟨_, rfl⟩
  rw [← hgz] at hrow ⊢
  clear t0 t1 t2 t3 t4 t5
  have hz0 := A0.out.1.2.2.2.2
  have NZ : Hid (gz ≠ kt ∧ gz ≠ b4 ∧ gz ≠ gm ∧ gz ≠ gr ∧ gz ≠ gc ∧ w.heap.size ≤ gz) := by
    have a1 := SS1.out.mat.lt
    have a2 := SS1.out.rows.lt
    have a3 := SS1.out.cols.lt
    have a4 := MT.out.2.2.2.2.2.2
    have a5 := B0.out.size
    refine ⟨?_, ?_, ?_, ?_, ?_, ?_⟩ <;> omega
  have N5 : Hid (gz ≠ w2.heap.size) := by have := hrow.lt; show _ ≠ _; omega
  clear hz0 hgz
  go_upto_region 2 with fail
  have E0 : Hid (OrdW w (w2.alloc (.cells #[.int .i64 (C : Int), .int .i64 (C : Int), .int .i64 (C : Int), .slice (some ⟨gz, 0, none⟩) (C * C) (C * C)] 25)) C D gm gr gc kt b4 w2.heap.size gz xs rs cs (List.replicate (C * C) 0)) :=
    ⟨(MT.out.below hb2).below ((Below.refl _ _).alloc (Nat.le_refl _) _), MBox.made _ _ _ _ _, (A0.out.below hb2).below ((Below.refl _ _).alloc (Nat.le_refl _) _), hrow.below ((Below.refl _ _).alloc (Nat.le_refl _) _), (SS1.out.below hb2).below ((Below.refl _ _).alloc (Nat.le_refl _) _), bstep (bstep B0.out hb2) ((Below.refl _ _).alloc (Nat.le_refl _) _)⟩
  have I0 : Hid (OrI (List.replicate (C * C) 0) (vw xs rs cs C) C 0 0) := OrI.new _ _
  obtain ⟨b5, hb5⟩ : ∃ b, b = w2.heap.size := ⟨_, rfl⟩
  rw [← hb5] at E0 N5 ⊢
  generalize (w2.alloc (.cells #[.int .i64 (C : Int), .int .i64 (C : Int), .int .i64 (C : Int), .slice (some ⟨gz, 0, none⟩) (C * C) (C * C)] 25)) = W1 at E0 ⊢
  clear hb5 hb2 hrow MT A0 B0 SS SS1
  obtain ⟨q0, q1, q2, q3, q4⟩ := E0.out.made
  go_wp2
  clear q0 q1 q2 q3 q4
  go_loopw [15] (fun i wr => ∃ (n : Nat) (zs : List Int), i = .int .i64 (n : Int) ∧ n ≤ C ∧ Hid (OrdW w wr C D gm gr gc kt b4 b5 gz xs rs cs zs) ∧ Hid (OrI zs (vw xs rs cs C) C n 0)) (fun i _ => C - (intOf i).toNat)
  case atStart => exact ⟨0, _, rfl, Nat.zero_le _, E0, I0⟩
  case round =>
    clear E0 I0
    obtain ⟨n, zs, rfl, hn, E, OI⟩ := hrel
    obtain ⟨w1, rfl⟩ : ∃ x, x = wr := ⟨wr, rfl⟩
    obtain ⟨q0, q1, q2, q3, q4⟩ := E.out.made
    by_cases hlt : (n : Int) < (C : Int)
    · go_wp2_with fail
      clear q0 q1 q2 q3 q4
      go_loopw [20] (fun i wr => ∃ (m : Nat) (zs : List Int), i = .int .i64 (m : Int) ∧ m ≤ C ∧ Hid (OrdW w wr C D gm gr gc kt b4 b5 gz xs rs cs zs) ∧ Hid (OrI zs (vw xs rs cs C) C n m)) (fun i _ => C - (intOf i).toNat)
      case atStart => exact ⟨0, _, rfl, Nat.zero_le _, E, OI⟩
      case round =>
        clear E OI
        obtain ⟨m, zs, rfl, hm, E, OI⟩ := hrel
        obtain ⟨w1, rfl⟩ : ∃ x, x = wr := ⟨wr, rfl⟩
        by_cases hlt2 : (m : Int) < (C : Int)
        · obtain ⟨a0, a1⟩ := vw_rng SI.out n m
          obtain ⟨av, hav⟩ : ∃ a, vw xs rs cs C n m = a := ⟨_, rfl⟩
          have E3 : Hid (vw xs rs cs C n m = av) := hav
          rw [hav] at a0 a1
          have hpq : ((n : Int) * (C : Int) + (m : Int)).toNat = n * C + m := by rw [show (n : Int) * (C : Int) + (m : Int) = ((n * C + m : Nat) : Int) by push_cast; rfl]; exact Int.toNat_natCast _
          have HPQ : Hid (_ = _) := hpq
          have OI2 : Hid (OrI (zs.set (n * C + m) av) (vw xs rs cs C) C n (m + 1)) := OI.out.set (by omega) (by omega) av hav a0 a1
          have HL : Hid (zs.length = C * C) := OI.out.1
          clear hav hpq a0 a1
          obtain ⟨t0, t1, t2, t3, t4, t5⟩ := E.out.t.cells
          obtain ⟨q0, q1, q2, q3, q4⟩ := E.out.made
          go_wp2_with fail
          have ct : Cnt 1 := Cnt.mk _
          go_region_held3 (fun w' => (w'.cell? ⟨kt, 0, none⟩ = some (.int .i64 (C : Int)) ∧ w'.cell? ⟨kt, 1, none⟩ = some (.int .i64 (C : Int)) ∧ w'.cell? ⟨kt, 2, none⟩ = some (.int .i64 (C : Int)) ∧ w'.cell? ⟨kt, 3, none⟩ = some (.slice (some ⟨gm, 0, none⟩) D D) ∧ w'.cell? ⟨kt, 4, none⟩ = some (.slice (some ⟨gr, 0, none⟩) C C) ∧ w'.cell? ⟨kt, 5, none⟩ = some (.slice (some ⟨gc, 0, none⟩) C C)) ∧ (w'.cell? ⟨b5, 0, none⟩ = some (.int .i64 (C : Int)) ∧ w'.cell? ⟨b5, 1, none⟩ = some (.int .i64 (C : Int)) ∧ w'.cell? ⟨b5, 2, none⟩ = some (.int .i64 (C : Int)) ∧ w'.cell? ⟨b5, 3, none⟩ = some (.slice (some ⟨gz, 0, none⟩) (C * C) (C * C)))) (exact (by first | exact ⟨E.out.t.cells, E.out.made.cells⟩ | exact ⟨(E.out.below (Below.refl _ _).drew).t.cells, (E.out.below (Below.refl _ _).drew).made.cells⟩)) (first | (have ck : Cnt 1 := ct; go_at_call 81; refine (zAt C D gm gr gc xs rs cs n m _ HH.out hC SI.out (by first | exact E.out.sy | exact (E.out.below (Below.refl _ _).drew).sy) (by omega) (by omega)).mono ?_; rintro e w3 ⟨rfl, hb_⟩; rw [E3.out]; replace hb_ : Below w1.heap.size w1 w3 := (by first | exact hb_ | exact ((Below.refl _ _).drew).trans hb_); replace E : Hid (OrdW _ _ _ _ _ _ _ _ _ _ _ _ _ _ _) := E.out.below hb_; replace ct : Cnt 2 := Cnt.mk _; clear ck hb_) | (have ck : Cnt 2 := ct; go_at_call 27; refine (mSet (C : Int) (C : Int) (C : Int) gz (C * C) (C * C) zs (n : Int) (m : Int) av _ HG.out (by first | exact E.out.row | exact (E.out.below (Below.refl _ _).drew).row) HL.out (Nat.le_refl _) (by omega) (by omega)).mono ?_; rintro e w4 ⟨rfl, hR_, hb_⟩; rw [HPQ.out] at hR_; replace E : Hid (OrdW _ _ _ _ _ _ _ _ _ _ _ _ _ _ _) := (by obtain ⟨d1, d2, d3, d4, d5, d6⟩ := NZ.out; first | exact E.out.bes hb_ hR_ d1 d2 N5.out d3 d4 d5 d6 | exact (E.out.below (Below.refl _ _).drew).bes hb_ hR_ d1 d2 N5.out d3 d4 d5 d6); replace ct : Cnt 3 := Cnt.mk _; clear ck hb_ hR_))
          clear t0 t1 t2 t3 t4 t5 ct q0 q1 q2 q3 q4
          go_wp2
          go_roundw
          case rel => exact ⟨m + 1, _, by go_num, by omega, E, OI2⟩
          case measure => simp [intOf]; omega
        · obtain rfl : m = C := by omega
          have OI2 : Hid (OrI zs (vw xs rs cs m) m (n + 1) 0) := OI.out.next
          go_wp2
          go_roundw
          case rel => exact ⟨n + 1, zs, by go_num, by omega, E, OI2⟩
          case measure => simp [intOf]; omega
    · obtain rfl : n = C := by omega
      obtain ⟨⟨g0, g1, g2, g3, g4⟩, g5⟩ := E.out.ans
      have y0 := g5 0
      have y1 := g5 1
      have y2 := g5 2
      have y3 := g5 3
      clear g5
      go_wp2
      refine bodyPost_ret (v := .agg #[.int .i64 (n : Int), .int .i64 (n : Int), .int .i64 (n : Int), .slice (some ⟨gz, 0, none⟩) (n * n) (n * n)]) (by simp [results, Tryz.results52, go_sem, *]) rfl ?_
      obtain ⟨d1, d2, d3, d4, d5, d6⟩ := NZ.out
      obtain ⟨hk1, hk2⟩ := HK.out
      have BP : ∀ u0 u1 u2 u3, Bes (some b4) w1 ((((w1.setCell ⟨b4, 0, none⟩ u0).setCell ⟨b4, 1, none⟩ u1).setCell ⟨b4, 2, none⟩ u2).setCell ⟨b4, 3, none⟩ u3) := fun u0 u1 u2 u3 => (((Bes.put w1 _ 0 u0).set (p := ⟨b4, 1, none⟩) (.inr rfl) u1).set (p := ⟨b4, 2, none⟩) (.inr rfl) u2).set (p := ⟨b4, 3, none⟩) (.inr rfl) u3
      first | exact ⟨gz, rfl, d6, ⟨zs, E.out.row.bes (BP _ _ _ _) (ne_some (Ne.symm d2)), OI.out⟩, E.out.bel.trans ((BP _ _ _ _).below _ E.out.bel.size (fun j e => by injection e with e; omega))⟩ | exact ⟨rfl, gz, d6, ⟨zs, E.out.row.bes (BP _ _ _ _) (ne_some (Ne.symm d2)), OI.out⟩, E.out.bel.trans ((BP _ _ _ _).below _ E.out.bel.size (fun j e => by injection e with e; omega))⟩ | exact ⟨gz, rfl, d6, zs, E.out.row.bes (BP _ _ _ _) (ne_some (Ne.symm d2)), OI.out, E.out.bel.trans ((BP _ _ _ _).below _ E.out.bel.size (fun j e => by injection e with e; omega))⟩
end Go.Proofs.YtpakpgjbgehhjaaGreat
