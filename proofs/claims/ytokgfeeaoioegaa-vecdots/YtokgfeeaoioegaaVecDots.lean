/-
  The law VecDots returns true at every input (any slices of patterns), and leaves its arguments as they were. No conditions.
-/
import Derived.Test.YtokgfeeaoioegaaRows
import Derived.WalkKit
import Derived.ProofKit
import Derived.OpenShut
import Derived.Test.YtokgfeeaoioegaaGrM
import Derived.Test.YtokgfeeaoioegaaGrO
import Derived.ShutString
import Derived.ChangeOld
import Derived.Below
namespace Go.Proofs.Ytokgfeeaoioegaa.vecDots
open Go.ChangeShapes Go.WideShapes Go.ChangeAt Go.RowKit
open Go.ChangeMaps (open_string shut_string)
set_option linter.unusedVariables false

theorem own : ownKnob Try.prog.godebug = none := by kernel_rfl
theorem laidOut : laidOutB Try.prog = true := by kernel_rfl

/-- WHAT THE WALK IS TOLD OF A SLICE OF INTEGERS THAT CAME IN: it is nil; or it leads to a row of 'cap' cells, the numbers 'zs' (the first 'len' are its elements, the rest its spare room), each fitting its kind. -/
def IsRow (k : IntKind) (w : World) (a : Option Addr) (len cap : Nat) (zs : List Int) : Prop :=
  (a = none ∧ len = 0 ∧ cap = 0 ∧ zs = []) ∨
  ∃ x, a = some x ∧ len ≤ cap ∧ cap ≤ maxLen ∧ zs.length = cap ∧ (∀ i, i < zs.length → w.cell? (x.add i) = some (.int k (zs.getD i 0))) ∧ ∀ n ∈ zs, (Lit.int k n).wf = true

set_option linter.unusedSimpArgs false
theorem row_of (w : World) (a : Option Addr) (len cap : Nat) (zs : List Int) (h : IsRow .u64 w a len cap zs) : URow w a len cap (fun i => zs.getD i 0) := by
  rcases h with ⟨rfl, rfl, rfl, rfl⟩ | ⟨x, rfl, h1, h2, h3, h4, h5⟩
  · exact ⟨Nat.le_refl _, Nat.zero_le _, fun i => by simp, fun h => absurd h (Nat.lt_irrefl 0)⟩
  · refine ⟨h1, h2, fun i => ?_, fun hp => ?_⟩
    · show 0 ≤ zs.getD i 0 ∧ zs.getD i 0 < 18446744073709551616
      rcases Nat.lt_or_ge i zs.length with g | g
      · have hm : zs.getD i 0 ∈ zs := by
          rw [List.getD_eq_getElem?_getD, List.getElem?_eq_getElem g]
          exact List.getElem_mem g
        obtain ⟨q1, q2⟩ := bounds_u64 (h5 _ hm)
        exact ⟨q1, by omega⟩
      · rw [List.getD_eq_getElem?_getD, List.getElem?_eq_none g]
        simp
    · obtain ⟨b, o, s⟩ := x
      have hs : s = none := by simpa [Addr.add] using World.cell?_spot (h4 0 (by omega))
      subst hs
      have hb : b < w.heap.size := by
        have := World.block_lt_of_cell? _ _ (h4 0 (by omega))
        simpa [Addr.add] using this
      refine ⟨b, o, rfl, hb, fun i hi => ?_⟩
      have := h4 i (by omega)
      rw [add_plain] at this
      exact this
theorem calc_cell {w : World} {k : Nat} {F : Int} (h : IsCalc w (.pointer (some ⟨k, 0, none⟩)) (some k) F) : w.cell? ⟨k, 0, none⟩ = some (.int .u8 F) ∧ w.frozen? ⟨k, 0, none⟩ = false ∧ k < w.heap.size := by
  rcases h with ⟨_, h⟩ | ⟨j, _, h2, h3, h4, h5⟩
  · cases h
  · injection h2 with h2
    subst h2
    exact ⟨h4, h5, h3⟩
set_option maxRecDepth 100000 in
set_option maxHeartbeats 8000000 in
theorem walk (a0 : Option Addr) (len0 cap0 : Nat) (z0 : List Int) (a1 : Option Addr) (len1 cap1 : Nat) (z1 : List Int) (w : World) (w0 : IsRow .u64 w a0 len0 cap0 z0) (w1 : IsRow .u64 w a1 len1 cap1 z1) :
    Calls Try.prog 10 #[.slice a0 len0 cap0, .slice a1 len1 cap1] w fun e w' => e = .returned (.bool true) ∧ Below w.heap.size w w' := by
  have hx := row_of w a0 len0 cap0 z0 w0
  have hy := row_of w a1 len1 cap1 z1 w1
  generalize (fun i => z0.getD i 0) = X at hx
  generalize (fun i => z1.getD i 0) = Y at hy
  clear w0 w1
  obtain ⟨n, hn⟩ : ∃ n, n = min len0 len1 := ⟨_, rfl⟩
  have hmin : min (len0 : Int) (len1 : Int) = (n : Int) := by omega
  have hn0 : n ≤ len0 := by omega
  have hn1 : n ≤ len1 := by omega
  obtain ⟨lx, cx⟩ := hx.lenB
  obtain ⟨ly, cy⟩ := hy.lenB
  have HX : Hid (URow w a0 len0 cap0 X) := hx
  have HY : Hid (URow w a1 len1 cap1 Y) := hy
  have HN : Hid (n = min len0 len1) := hn
  clear hn hx hy hmin
  go_enter Try.func10, Try.ntmps10
  go_upto_region 3 with (go_at_call 40; refine (lHead10 _).mono ?_; rintro e w1 ⟨rfl, hb1⟩; have BW : Hid (Below w.heap.size w w1) := hb1; clear hb1)
  go_cut [5] (fun t wx => t = .int .i64 (n : Int) ∧ wx = w1)
  case first =>
    go_wp2
    all_goals
      go_meet
      exact ⟨congrArg (Value.int .i64) (by have := HN.out; omega), rfl⟩
  case rest =>
    obtain ⟨rfl, rfl⟩ := hcut
    by_cases hl : 40 < n
    · have hl2 : (40 : Int) < (n : Int) := by omega
      go_wp2
      go_ret
      exact ⟨ret_eq rfl, BW.out⟩
    have hl2 : ¬ (40 : Int) < (n : Int) := by omega
    have hdl : decide ((40 : Int) < (n : Int)) = false := decide_eq_false hl2
    have hz := Below.size BW.out
    go_wp2_with fail
    have CN := calc_new wc
    have bV : Below wc.heap.size wc (wc.alloc (.cells #[.int .u8 0] 66)) := bmore (Below.refl _ _) _
    generalize (wc.alloc (.cells #[.int .u8 0] 66)) = V at CN bV ⊢
    obtain ⟨kc, hkc⟩ : ∃ k, k = wc.heap.size := ⟨_, rfl⟩
    rw [← hkc] at CN ⊢
    have OC : Hid (w.heap.size ≤ kc) := by show _ ≤ _; omega
    replace BW : Hid (Below w.heap.size w V) := bstep BW.out bV
    have HC : Hid (IsCalc V (.pointer (some ⟨kc, 0, none⟩)) (some kc) 0) := CN
    have QX : Hid (URow w a0 n cap0 X) := HX.out.cut hn0
    have QY : Hid (URow w a1 n cap1 Y) := HY.out.cut hn1
    have UX : Hid (URow V a0 n cap0 X) := QX.out.below BW.out
    have UY : Hid (URow V a1 n cap1 Y) := QY.out.below BW.out
    have AXc : Hid (Apt (some kc) a0 n) := QX.out.apt (fun k e => by injection e with e; rw [← e]; exact OC.out)
    have AYc : Hid (Apt (some kc) a1 n) := QY.out.apt (fun k e => by injection e with e; rw [← e]; exact OC.out)
    have hnc0 : (n : Int) ≤ (cap0 : Int) := by have := HX.out.1; omega
    have hnc1 : (n : Int) ≤ (cap1 : Int) := by have := HY.out.1; omega
    have hnl0 : (n : Int) ≤ (len0 : Int) := by omega
    have hnl1 : (n : Int) ≤ (len1 : Int) := by omega
    clear CN bV hkc hz
    go_region_held3 (fun _ => True) (trivial) (first | (go_at_call 41; refine (vDot _ (some kc) 0 _ _ n _ _ X Y _ (by first | exact HC.out | exact HC.out.drew) (by first | exact UX.out | exact UX.out.drew) (by first | exact UY.out | exact UY.out.drew) AXc.out AYc.out).mono ?_; rintro e wd ⟨rfl, hC_, hB⟩; have hB1 : Bes (some kc) V wd := (by first | exact hB | exact ((Bes.refl _ _).drew).trans hB); replace BW : Hid (Below _ _ _) := Bes.old BW.out hB1 OC.out; replace UX : Hid (URow _ _ _ _ _) := UX.out.bes hB1 AXc.out; replace UY : Hid (URow _ _ _ _ _) := UY.out.bes hB1 AYc.out; replace HC : Hid (IsCalc _ _ _ _) := hC_; clear hC_ hB hB1))
    obtain ⟨c1, c2, c3⟩ := calc_cell HC.out
    obtain ⟨d0, d1⟩ := dotV_rng X Y n
    obtain ⟨FD, hFD⟩ : ∃ F, dotF 0 X Y n = F := ⟨_, rfl⟩
    obtain ⟨d, hdd⟩ : ∃ F, dotV X Y n = F := ⟨_, rfl⟩
    rw [hFD] at c1
    rw [hdd] at d0 d1 ⊢
    have HFD : Hid (_ = _) := hFD
    have HD : Hid (_ = _) := hdd
    clear hFD hdd HC c2 c3 AXc AYc
    obtain ⟨G, hG⟩ : ∃ G, bits .and .u8 FD 22 = G := ⟨_, rfl⟩
    by_cases hG0 : G = 0
    case neg =>
      have hg0 : (G == 0) = false := by rw [beq_eq_false_iff_ne]; exact hG0
      go_wp2
      go_ret
      exact ⟨ret_eq rfl, BW.out⟩
    case pos =>
      subst hG0
      have HG : Hid (bits .and .u8 (dotF 0 X Y n) 22 = 0) := by rw [HFD.out]; exact hG
      go_wp2_with fail
      have m0_ := BoxF.made wd (.bool false) (.slice none 0 0) (.int .i64 0) (.slice none 0 0) 44
      replace m0_ := m0_.alloc (.cells #[.bool false, .slice none 0 0, .int .i64 0, .slice none 0 0] 44)
      have m1_ := BoxF.made (wd.alloc (.cells #[.bool false, .slice none 0 0, .int .i64 0, .slice none 0 0] 44)) (.bool false) (.slice none 0 0) (.int .i64 0) (.slice none 0 0) 44
      simp only [World.size_alloc] at m1_
      have b_ : Below wd.heap.size wd ((wd.alloc (.cells #[.bool false, .slice none 0 0, .int .i64 0, .slice none 0 0] 44)).alloc (.cells #[.bool false, .slice none 0 0, .int .i64 0, .slice none 0 0] 44)) := bmore (bmore (Below.refl _ _) _) _
      obtain ⟨k_l, hk_l⟩ : ∃ k, k = wd.heap.size + 1 := ⟨_, rfl⟩
      have L_l : Hid (w.heap.size ≤ k_l) := by rw [hk_l]; exact Nat.le_trans BW.out.size (by omega)
      obtain ⟨k_s, hk_s⟩ : ∃ k, k = wd.heap.size := ⟨_, rfl⟩
      have L_s : Hid (w.heap.size ≤ k_s) := by rw [hk_s]; exact Nat.le_trans BW.out.size (by omega)
      have N_sl : Hid (k_s ≠ k_l) := by show _ ≠ _; omega
      rw [← hk_l] at m1_ ⊢
      rw [← hk_s] at m0_ ⊢
      generalize ((wd.alloc (.cells #[.bool false, .slice none 0 0, .int .i64 0, .slice none 0 0] 44)).alloc (.cells #[.bool false, .slice none 0 0, .int .i64 0, .slice none 0 0] 44)) = w1_ at m0_ m1_ b_ ⊢
      replace BW : Hid (Below _ _ _) := bstep BW.out b_
      replace UX : Hid (URow _ _ _ _ _) := UX.out.below b_
      replace UY : Hid (URow _ _ _ _ _) := UY.out.below b_
      have b_s : Hid (BoxF w1_ k_s (.bool false) (.slice none 0 0) (.int .i64 0) (.slice none 0 0)) := m0_
      have b_l : Hid (BoxF w1_ k_l (.bool false) (.slice none 0 0) (.int .i64 0) (.slice none 0 0)) := m1_
      clear b_ m0_ hk_s m1_ hk_l
      clear c1 hG
      obtain ⟨B0, hB0⟩ : ∃ B, B = w1_.heap.size := ⟨_, rfl⟩
      have KB_s : Hid (k_s < B0) := by rw [hB0]; exact b_s.out.2.2
      have KB_l : Hid (k_l < B0) := by rw [hB0]; exact b_l.out.2.2
      have ZB0 : Hid (B0 ≤ w1_.heap.size) := by show _ ≤ _; omega
      clear hB0
      go_loopw [11] (fun i wr => ∃ (j : Nat) (s_n : Bool) (s_a : Option Addr) (s_m s_c : Nat) (s_p : Int) (l_n : Bool) (l_a : Option Addr) (l_m l_c : Nat) (l_p : Int), i = .int .i64 (j : Int) ∧ j ≤ n ∧ Hid (∀ i, i < j → mag (X i) < 9218868437227405312 ∧ mag (Y i) < 9218868437227405312) ∧ Hid (BoxF wr k_s (.bool s_n) (.slice s_a s_m s_c) (.int .i64 s_p) (.slice none 0 0)) ∧ Hid (Tell wr B0 (.agg #[.bool s_n, .slice s_a s_m s_c, .int .i64 s_p, .slice none 0 0]) 34 (34 + j) (sumP X Y j * 268435456)) ∧ Hid (BoxF wr k_l (.bool l_n) (.slice l_a l_m l_c) (.int .i64 l_p) (.slice none 0 0)) ∧ Hid (Tell wr B0 (.agg #[.bool l_n, .slice l_a l_m l_c, .int .i64 l_p, .slice none 0 0]) 34 (34 + j) ((absP X Y j : Int) * 268435456)) ∧ Hid (Below w.heap.size w wr) ∧ Hid (URow wr a0 n cap0 X) ∧ Hid (URow wr a1 n cap1 Y) ∧ Hid (B0 ≤ wr.heap.size)) (fun i _ => n - (intOf i).toNat)
      case atStart => exact ⟨0, false, none, 0, 0, 0, false, none, 0, 0, 0, rfl, Nat.zero_le _, (fun i h => absurd h (Nat.not_lt_zero _)), b_s, (Tell.zero _ _ _ _ _ (by simp)).eq rfl, b_l, (Tell.zero _ _ _ _ _ (by simp)).eq (by simp [absP]), BW, UX, UY, ZB0⟩
      case round =>
        clear b_s b_l BW UX UY ZB0
        obtain ⟨j, s_n, s_a, s_m, s_c, s_p, l_n, l_a, l_m, l_c, l_p, rfl, hj_, FIN, b_s, t_s, b_l, t_l, BW, UX, UY, ZB0⟩ := hrel
        obtain ⟨w2_, rfl⟩ : ∃ x, x = wr := ⟨wr, rfl⟩
        by_cases hlt : (j : Int) < (n : Int)
        · skip
          obtain ⟨_, _, zx, fx⟩ := UX.out
          obtain ⟨_, _, zy, fy⟩ := UY.out
          obtain ⟨b1, o1, e_1, l_q1, e1⟩ := fx (by omega)
          obtain ⟨b2, o2, e_2, l_q2, e2⟩ := fy (by omega)
          have q1 := e1 j (by omega)
          have q2 := e2 j (by omega)
          obtain ⟨x0, x1⟩ := zx j
          obtain ⟨y0, y1⟩ := zy j
          clear zx fx zy fy e1 e2
          obtain ⟨x, hxx⟩ : ∃ x, X j = x := ⟨_, rfl⟩
          obtain ⟨y, hyy⟩ : ∃ y, Y j = y := ⟨_, rfl⟩
          rw [hxx] at q1 x0 x1
          rw [hyy] at q2 y0 y1
          have HXX : Hid (_ = _) := hxx
          have HYY : Hid (_ = _) := hyy
          clear hxx hyy
          subst e_1 e_2
          have Q1 : Hid (b1 < w2_.heap.size ∧ w2_.cell? ⟨b1, o1 + j, none⟩ = some (.int .u64 x)) := ⟨l_q1, q1⟩
          have Q2 : Hid (b2 < w2_.heap.size ∧ w2_.cell? ⟨b2, o2 + j, none⟩ = some (.int .u64 y)) := ⟨l_q2, q2⟩
          clear q1 q2 l_q1 l_q2
          obtain ⟨l_q1, q1⟩ := Q1.out
          go_wp2_with fail
          refine (dOf x _ x0 x1).mono ?_
          rintro e w3_ ⟨a_v, rfl, ht_, hb_⟩
          obtain ⟨a_n, a_a, a_m, a_c, a_p, rfl, ht2_⟩ := ht_.numform
          replace ht2_ := ht2_.base (b' := B0) ZB0.out
          clear ht_
          replace BW : Hid (Below _ _ _) := bstep BW.out hb_
          replace UX : Hid (URow _ _ _ _ _) := UX.out.below hb_
          replace UY : Hid (URow _ _ _ _ _) := UY.out.below hb_
          replace b_s : Hid (BoxF _ _ _ _ _ _) := b_s.out.below hb_
          replace t_s : Hid (Tell _ _ _ _ _ _) := t_s.out.below hb_
          replace b_l : Hid (BoxF _ _ _ _ _ _) := b_l.out.below hb_
          replace t_l : Hid (Tell _ _ _ _ _ _) := t_l.out.below hb_
          replace ZB0 : Hid (_ ≤ _) := Nat.le_trans ZB0.out (Below.size hb_)
          replace Q2 : Hid (_ ∧ _) := ⟨Nat.lt_of_lt_of_le Q2.out.1 (Below.size hb_), (Below.cell hb_ Q2.out.1).trans Q2.out.2⟩
          clear hb_
          go_upto_region 18 with fail
          have mB_ := BoxF.made w3_ (.bool a_n) (.slice a_a a_m a_c) (.int .i64 a_p) (.slice none 0 0) 44
          have tB_ := ht2_.alloc (.cells #[.bool a_n, .slice a_a a_m a_c, .int .i64 a_p, .slice none 0 0] 44)
          have b_ := bmore (Below.refl w3_.heap.size w3_) (.cells #[.bool a_n, .slice a_a a_m a_c, .int .i64 a_p, .slice none 0 0] 44)
          clear ht2_
          generalize (w3_.alloc (.cells #[.bool a_n, .slice a_a a_m a_c, .int .i64 a_p, .slice none 0 0] 44)) = w4_ at mB_ b_ tB_ ⊢
          obtain ⟨k_a, hk_a⟩ : ∃ k, k = w3_.heap.size := ⟨_, rfl⟩
          have N_sa : Hid (k_s ≠ k_a) := by have := b_s.out.2.2; show _ ≠ _; omega
          have N_la : Hid (k_l ≠ k_a) := by have := b_l.out.2.2; show _ ≠ _; omega
          rw [← hk_a] at mB_ ⊢
          replace BW : Hid (Below _ _ _) := bstep BW.out b_
          replace UX : Hid (URow _ _ _ _ _) := UX.out.below b_
          replace UY : Hid (URow _ _ _ _ _) := UY.out.below b_
          replace b_s : Hid (BoxF _ _ _ _ _ _) := b_s.out.below b_
          replace t_s : Hid (Tell _ _ _ _ _ _) := t_s.out.below b_
          replace b_l : Hid (BoxF _ _ _ _ _ _) := b_l.out.below b_
          replace t_l : Hid (Tell _ _ _ _ _ _) := t_l.out.below b_
          replace ZB0 : Hid (_ ≤ _) := Nat.le_trans ZB0.out (Below.size b_)
          replace Q2 : Hid (_ ∧ _) := ⟨Nat.lt_of_lt_of_le Q2.out.1 (Below.size b_), (Below.cell b_ Q2.out.1).trans Q2.out.2⟩
          have b_a : Hid (BoxF w4_ k_a (.bool a_n) (.slice a_a a_m a_c) (.int .i64 a_p) (.slice none 0 0)) := mB_
          have t_a : Hid (Tell w4_ B0 (.agg #[.bool a_n, .slice a_a a_m a_c, .int .i64 a_p, .slice none 0 0]) 17 17 (xv x)) := tB_
          clear mB_ b_ tB_ hk_a
          obtain ⟨l_q2, q2⟩ := Q2.out
          go_wp2_with fail
          refine (dOf y _ y0 y1).mono ?_
          rintro e w5_ ⟨h_v, rfl, ht_, hb_⟩
          obtain ⟨h_n, h_a, h_m, h_c, h_p, rfl, ht2_⟩ := ht_.numform
          replace ht2_ := ht2_.base (b' := B0) ZB0.out
          clear ht_
          replace BW : Hid (Below _ _ _) := bstep BW.out hb_
          replace UX : Hid (URow _ _ _ _ _) := UX.out.below hb_
          replace UY : Hid (URow _ _ _ _ _) := UY.out.below hb_
          replace b_s : Hid (BoxF _ _ _ _ _ _) := b_s.out.below hb_
          replace t_s : Hid (Tell _ _ _ _ _ _) := t_s.out.below hb_
          replace b_l : Hid (BoxF _ _ _ _ _ _) := b_l.out.below hb_
          replace t_l : Hid (Tell _ _ _ _ _ _) := t_l.out.below hb_
          replace ZB0 : Hid (_ ≤ _) := Nat.le_trans ZB0.out (Below.size hb_)
          replace Q2 : Hid (_ ∧ _) := ⟨Nat.lt_of_lt_of_le Q2.out.1 (Below.size hb_), (Below.cell hb_ Q2.out.1).trans Q2.out.2⟩
          replace b_a : Hid (BoxF _ _ _ _ _ _) := b_a.out.below hb_
          replace t_a : Hid (Tell _ _ _ _ _ _) := t_a.out.below hb_
          clear hb_
          go_upto_region 19 with fail
          have mB_ := BoxF.made w5_ (.bool h_n) (.slice h_a h_m h_c) (.int .i64 h_p) (.slice none 0 0) 44
          have tB_ := ht2_.alloc (.cells #[.bool h_n, .slice h_a h_m h_c, .int .i64 h_p, .slice none 0 0] 44)
          have b_ := bmore (Below.refl w5_.heap.size w5_) (.cells #[.bool h_n, .slice h_a h_m h_c, .int .i64 h_p, .slice none 0 0] 44)
          clear ht2_
          generalize (w5_.alloc (.cells #[.bool h_n, .slice h_a h_m h_c, .int .i64 h_p, .slice none 0 0] 44)) = w6_ at mB_ b_ tB_ ⊢
          obtain ⟨k_h, hk_h⟩ : ∃ k, k = w5_.heap.size := ⟨_, rfl⟩
          have N_sh : Hid (k_s ≠ k_h) := by have := b_s.out.2.2; show _ ≠ _; omega
          have N_lh : Hid (k_l ≠ k_h) := by have := b_l.out.2.2; show _ ≠ _; omega
          have N_ah : Hid (k_a ≠ k_h) := by have := b_a.out.2.2; show _ ≠ _; omega
          rw [← hk_h] at mB_ ⊢
          replace BW : Hid (Below _ _ _) := bstep BW.out b_
          replace UX : Hid (URow _ _ _ _ _) := UX.out.below b_
          replace UY : Hid (URow _ _ _ _ _) := UY.out.below b_
          replace b_s : Hid (BoxF _ _ _ _ _ _) := b_s.out.below b_
          replace t_s : Hid (Tell _ _ _ _ _ _) := t_s.out.below b_
          replace b_l : Hid (BoxF _ _ _ _ _ _) := b_l.out.below b_
          replace t_l : Hid (Tell _ _ _ _ _ _) := t_l.out.below b_
          replace ZB0 : Hid (_ ≤ _) := Nat.le_trans ZB0.out (Below.size b_)
          replace Q2 : Hid (_ ∧ _) := ⟨Nat.lt_of_lt_of_le Q2.out.1 (Below.size b_), (Below.cell b_ Q2.out.1).trans Q2.out.2⟩
          replace b_a : Hid (BoxF _ _ _ _ _ _) := b_a.out.below b_
          replace t_a : Hid (Tell _ _ _ _ _ _) := t_a.out.below b_
          have b_h : Hid (BoxF w6_ k_h (.bool h_n) (.slice h_a h_m h_c) (.int .i64 h_p) (.slice none 0 0)) := mB_
          have t_h : Hid (Tell w6_ B0 (.agg #[.bool h_n, .slice h_a h_m h_c, .int .i64 h_p, .slice none 0 0]) 17 17 (xv y)) := tB_
          clear mB_ b_ tB_ hk_h
          clear l_q1 q1 l_q2 q2 Q1 Q2
          by_cases fnx : mag x < 9218868437227405312
          case neg =>
            have hdx : decide (mag x < 9218868437227405312) = false := decide_eq_false fnx
            go_wp2
            go_ret
            exact ⟨ret_eq rfl, BW.out⟩
          by_cases fny : mag y < 9218868437227405312
          case neg =>
            have hdx : decide (mag x < 9218868437227405312) = true := decide_eq_true fnx
            have hdy : decide (mag y < 9218868437227405312) = false := decide_eq_false fny
            go_wp2
            go_ret
            exact ⟨ret_eq rfl, BW.out⟩
          have hdx : decide (mag x < 9218868437227405312) = true := decide_eq_true fnx
          have hdy : decide (mag y < 9218868437227405312) = true := decide_eq_true fny
          have FNX : Hid (mag x < 9218868437227405312) := fnx
          have FNY : Hid (mag y < 9218868437227405312) := fny
          clear fnx fny
          obtain ⟨⟨b_s_0, b_s_1, b_s_2, b_s_3⟩, ⟨b_s_5, b_s_6, b_s_7, b_s_8⟩, b_s_4⟩ := b_s.out
          obtain ⟨⟨b_a_0, b_a_1, b_a_2, b_a_3⟩, ⟨b_a_5, b_a_6, b_a_7, b_a_8⟩, b_a_4⟩ := b_a.out
          obtain ⟨⟨b_h_0, b_h_1, b_h_2, b_h_3⟩, ⟨b_h_5, b_h_6, b_h_7, b_h_8⟩, b_h_4⟩ := b_h.out
          go_wp2_with fail
          clear b_s_0 b_s_1 b_s_2 b_s_3 b_s_4 b_s_5 b_s_6 b_s_7 b_s_8 b_a_0 b_a_1 b_a_2 b_a_3 b_a_4 b_a_5 b_a_6 b_a_7 b_a_8 b_h_0 b_h_1 b_h_2 b_h_3 b_h_4 b_h_5 b_h_6 b_h_7 b_h_8
          have HBa : Hid (Below w6_.heap.size w6_ w6_.drew) := (Below.refl _ _).drew
          have hfz_ := fun (w' : World) (h : Below w6_.heap.size w6_ w') => b_s.out.below h
          refine wp_region_noPanic ?_
          refine AnyT.start (T := (fun w' => (w'.cell? ⟨k_s, 0, none⟩ = some (.bool s_n) ∧ w'.cell? ⟨k_s, 1, none⟩ = some (.slice s_a s_m s_c) ∧ w'.cell? ⟨k_s, 2, none⟩ = some (.int .i64 s_p) ∧ w'.cell? ⟨k_s, 3, none⟩ = some (.slice none 0 0)) ∧ (w'.cell? ⟨k_a, 0, none⟩ = some (.bool a_n) ∧ w'.cell? ⟨k_a, 1, none⟩ = some (.slice a_a a_m a_c) ∧ w'.cell? ⟨k_a, 2, none⟩ = some (.int .i64 a_p) ∧ w'.cell? ⟨k_a, 3, none⟩ = some (.slice none 0 0)) ∧ (w'.cell? ⟨k_h, 0, none⟩ = some (.bool h_n) ∧ w'.cell? ⟨k_h, 1, none⟩ = some (.slice h_a h_m h_c) ∧ w'.cell? ⟨k_h, 2, none⟩ = some (.int .i64 h_p) ∧ w'.cell? ⟨k_h, 3, none⟩ = some (.slice none 0 0)))) (z := 5) (by kernel_rfl) ?_
          have hHeld0 := (⟨b_s.out.drew.cells, b_a.out.drew.cells, b_h.out.drew.cells⟩ : (fun w' => (w'.cell? ⟨k_s, 0, none⟩ = some (.bool s_n) ∧ w'.cell? ⟨k_s, 1, none⟩ = some (.slice s_a s_m s_c) ∧ w'.cell? ⟨k_s, 2, none⟩ = some (.int .i64 s_p) ∧ w'.cell? ⟨k_s, 3, none⟩ = some (.slice none 0 0)) ∧ (w'.cell? ⟨k_a, 0, none⟩ = some (.bool a_n) ∧ w'.cell? ⟨k_a, 1, none⟩ = some (.slice a_a a_m a_c) ∧ w'.cell? ⟨k_a, 2, none⟩ = some (.int .i64 a_p) ∧ w'.cell? ⟨k_a, 3, none⟩ = some (.slice none 0 0)) ∧ (w'.cell? ⟨k_h, 0, none⟩ = some (.bool h_n) ∧ w'.cell? ⟨k_h, 1, none⟩ = some (.slice h_a h_m h_c) ∧ w'.cell? ⟨k_h, 2, none⟩ = some (.int .i64 h_p) ∧ w'.cell? ⟨k_h, 3, none⟩ = some (.slice none 0 0))) w6_.drew)
          refine AnyT.take (i := 0) (oi := ({ dst := some 77, op := Op.load _ (Operand.tmp 9), type := _, pos := _, after := _, guard := none } : Oper)) (v := ?_) rfl (by kernel_rfl) (by kernel_rfl) (by kernel_rfl) (by kernel_rfl) (fun _ _ _ h => h) (Or.inl ⟨by rfl, ?_⟩) hHeld0 ?_
          rotate_left
          · intro w' hSw; (try dsimp only at hSw); go_simp <;> (try with_reducible rfl)
          (try simp only [Act.put, List.setIfInBounds_toArray, List.set_cons_zero, List.set_cons_succ])
          refine AnyT.take (i := 1) (oi := ({ dst := some 78, op := Op.load _ (Operand.tmp 12), type := _, pos := _, after := _, guard := none } : Oper)) (v := ?_) rfl (by kernel_rfl) (by kernel_rfl) (by kernel_rfl) (by kernel_rfl) (fun _ _ _ h => h) (Or.inl ⟨by rfl, ?_⟩) hHeld0 ?_
          rotate_left
          · intro w' hSw; (try dsimp only at hSw); go_simp <;> (try with_reducible rfl)
          (try simp only [Act.put, List.setIfInBounds_toArray, List.set_cons_zero, List.set_cons_succ])
          refine AnyT.take (i := 2) (oi := ({ dst := some 79, op := Op.load _ (Operand.tmp 14), type := _, pos := _, after := _, guard := none } : Oper)) (v := ?_) rfl (by kernel_rfl) (by kernel_rfl) (by kernel_rfl) (by kernel_rfl) (fun _ _ _ h => h) (Or.inl ⟨by rfl, ?_⟩) hHeld0 ?_
          rotate_left
          · intro w' hSw; (try dsimp only at hSw); go_simp <;> (try with_reducible rfl)
          (try simp only [Act.put, List.setIfInBounds_toArray, List.set_cons_zero, List.set_cons_succ])
          refine AnyT.one (i := 3) (o := ({ dst := some 80, op := Op.call { callee := Callee.value (Operand.func _), args := #[Operand.tmp 78, Operand.tmp 79], argTypes := _ }, type := _, pos := _, after := _, guard := none } : Oper)) (by kernel_rfl) rfl (fun K hK => ?_)
          go_simp
          refine (dMul _ _ _ B0 17 17 17 17 _ _ (t_a.out.below HBa.out) (t_h.out.below HBa.out) (by omega) (by omega) (by omega) (by omega) (by omega) (by omega)).mono ?_
          rintro e Wq0_ ⟨r1x0_v, rfl, ht_, hb_⟩
          obtain ⟨r1x0_n, r1x0_a, r1x0_m, r1x0_c, r1x0_p, rfl, ht2_⟩ := ht_.numform
          clear ht_
          have t_r1x0 : Hid (Tell Wq0_ B0 (.agg #[.bool r1x0_n, .slice r1x0_a r1x0_m r1x0_c, .int .i64 r1x0_p, .slice none 0 0]) 34 34 (xv x * xv y)) := ht2_.base (by have := ZB0.out; have := Below.size HBa.out; show B0 ≤ _; omega)
          clear ht2_
          replace HBa : Hid (Below w6_.heap.size w6_ Wq0_) := bstep HBa.out hb_
          clear hb_
          (try go_wp2_with fail)
          refine hK.out _ _ (fun _ => ⟨(b_s.out.below HBa.out).cells, (b_a.out.below HBa.out).cells, (b_h.out.below HBa.out).cells⟩) (fun hHeld1 => ?_)
          replace hHeld0 := hHeld1 (by decide)
          clear hK K hHeld1
          (try simp only [Act.put, List.setIfInBounds_toArray, List.set_cons_zero, List.set_cons_succ])
          refine AnyT.one (i := 4) (o := ({ dst := some 81, op := Op.call { callee := Callee.value (Operand.func _), args := #[Operand.tmp 77, Operand.tmp 80], argTypes := _ }, type := _, pos := _, after := _, guard := none } : Oper)) (by kernel_rfl) rfl (fun K hK => ?_)
          go_simp
          refine (dAdd _ _ _ B0 34 (34 + (j : Int)) _ _ (t_s.out.below HBa.out) ((t_r1x0.out).wide (34 + (j : Int)) (by omega)) (by omega) (by omega) (by omega)).mono ?_
          rintro e Wq1_ ⟨r1x1_v, rfl, ht_, hb_⟩
          obtain ⟨r1x1_n, r1x1_a, r1x1_m, r1x1_c, r1x1_p, rfl, ht2_⟩ := ht_.numform
          clear ht_
          have t_r1x1 : Hid (Tell Wq1_ B0 (.agg #[.bool r1x1_n, .slice r1x1_a r1x1_m r1x1_c, .int .i64 r1x1_p, .slice none 0 0]) 34 (34 + (j : Int) + 1) (sumP X Y j * 268435456 + xv x * xv y)) := ht2_.base (by have := ZB0.out; have := Below.size HBa.out; show B0 ≤ _; omega)
          clear ht2_
          replace t_r1x0 : Hid (Tell _ _ _ _ _ _) := t_r1x0.out.below hb_
          replace HBa : Hid (Below w6_.heap.size w6_ Wq1_) := bstep HBa.out hb_
          clear hb_
          (try go_wp2_with fail)
          refine hK.out _ _ (fun _ => ⟨(b_s.out.below HBa.out).cells, (b_a.out.below HBa.out).cells, (b_h.out.below HBa.out).cells⟩) (fun hHeld1 => ?_)
          replace hHeld0 := hHeld1 (by decide)
          clear hK K hHeld1
          (try simp only [Act.put, List.setIfInBounds_toArray, List.set_cons_zero, List.set_cons_succ])
          refine AnyT.one (i := 5) (o := ({ dst := none, op := Op.store _ (Operand.tmp 9) (Operand.tmp 81), type := _, pos := _, after := _, guard := none } : Oper)) (by kernel_rfl) rfl (fun K hK => ?_)
          clear hHeld0
          obtain ⟨⟨z0_, z1_, z2_, z3_⟩, ⟨z5_, z6_, z7_, z8_⟩, z4_⟩ := hfz_ _ HBa.out
          go_simp
          refine hK.out _ _ (fun h => absurd rfl h) (fun _ => ?_)
          clear hK K
          (try simp only [Act.put, List.setIfInBounds_toArray, List.set_cons_zero, List.set_cons_succ])
          refine AnyT.done (by kernel_rfl) ?_
          refine NoPanic.normal ?_
          have bs_ := bes_puts Wq1_ k_s (.bool r1x1_n) (.slice r1x1_a r1x1_m r1x1_c) (.int .i64 r1x1_p) (.slice none 0 0)
          have mB_ := (b_s.out.below HBa.out).put (.bool r1x1_n) (.slice r1x1_a r1x1_m r1x1_c) (.int .i64 r1x1_p) (.slice none 0 0)
          have tB_ := t_r1x1.out.put (b := k_s) KB_s.out (.bool r1x1_n) (.slice r1x1_a r1x1_m r1x1_c) (.int .i64 r1x1_p) (.slice none 0 0)
          clear z0_ z1_ z2_ z3_ z4_ z5_ z6_ z7_ z8_ hfz_
          replace BW : Hid (Below _ _ _) := bstep BW.out HBa.out
          replace UX : Hid (URow _ _ _ _ _) := UX.out.below HBa.out
          replace UY : Hid (URow _ _ _ _ _) := UY.out.below HBa.out
          replace b_s : Hid (BoxF _ _ _ _ _ _) := b_s.out.below HBa.out
          replace t_s : Hid (Tell _ _ _ _ _ _) := t_s.out.below HBa.out
          replace b_l : Hid (BoxF _ _ _ _ _ _) := b_l.out.below HBa.out
          replace t_l : Hid (Tell _ _ _ _ _ _) := t_l.out.below HBa.out
          replace ZB0 : Hid (_ ≤ _) := Nat.le_trans ZB0.out (Below.size HBa.out)
          replace b_a : Hid (BoxF _ _ _ _ _ _) := b_a.out.below HBa.out
          replace t_a : Hid (Tell _ _ _ _ _ _) := t_a.out.below HBa.out
          replace b_h : Hid (BoxF _ _ _ _ _ _) := b_h.out.below HBa.out
          replace t_h : Hid (Tell _ _ _ _ _ _) := t_h.out.below HBa.out
          replace BW : Hid (Below _ _ _) := Bes.old BW.out bs_ L_s.out
          replace UX : Hid (URow _ _ _ _ _) := UX.out.puts (QX.out.apt (fun k e => by injection e with e; rw [← e]; exact L_s.out)) (.bool r1x1_n) (.slice r1x1_a r1x1_m r1x1_c) (.int .i64 r1x1_p) (.slice none 0 0)
          replace UY : Hid (URow _ _ _ _ _) := UY.out.puts (QY.out.apt (fun k e => by injection e with e; rw [← e]; exact L_s.out)) (.bool r1x1_n) (.slice r1x1_a r1x1_m r1x1_c) (.int .i64 r1x1_p) (.slice none 0 0)
          replace b_l : Hid (BoxF _ _ _ _ _ _) := b_l.out.puts N_sl.out (.bool r1x1_n) (.slice r1x1_a r1x1_m r1x1_c) (.int .i64 r1x1_p) (.slice none 0 0)
          replace t_l : Hid (Tell _ _ _ _ _ _) := t_l.out.put (b := k_s) KB_s.out (.bool r1x1_n) (.slice r1x1_a r1x1_m r1x1_c) (.int .i64 r1x1_p) (.slice none 0 0)
          replace ZB0 : Hid (_ ≤ _) := Nat.le_trans ZB0.out (Bes.size bs_)
          replace b_a : Hid (BoxF _ _ _ _ _ _) := b_a.out.puts N_sa.out (.bool r1x1_n) (.slice r1x1_a r1x1_m r1x1_c) (.int .i64 r1x1_p) (.slice none 0 0)
          replace t_a : Hid (Tell _ _ _ _ _ _) := t_a.out.put (b := k_s) KB_s.out (.bool r1x1_n) (.slice r1x1_a r1x1_m r1x1_c) (.int .i64 r1x1_p) (.slice none 0 0)
          replace b_h : Hid (BoxF _ _ _ _ _ _) := b_h.out.puts N_sh.out (.bool r1x1_n) (.slice r1x1_a r1x1_m r1x1_c) (.int .i64 r1x1_p) (.slice none 0 0)
          replace t_h : Hid (Tell _ _ _ _ _ _) := t_h.out.put (b := k_s) KB_s.out (.bool r1x1_n) (.slice r1x1_a r1x1_m r1x1_c) (.int .i64 r1x1_p) (.slice none 0 0)
          replace b_s : Hid (BoxF _ _ _ _ _ _) := mB_
          replace t_s : Hid (Tell _ B0 (.agg #[.bool r1x1_n, .slice r1x1_a r1x1_m r1x1_c, .int .i64 r1x1_p, .slice none 0 0]) 34 (34 + (j : Int) + 1) (sumP X Y j * 268435456 + xv x * xv y)) := tB_
          clear mB_ tB_ bs_ HBa t_r1x0 t_r1x1
          generalize ((((Wq1_.setCell ⟨k_s, 0, none⟩ (.bool r1x1_n)).setCell ⟨k_s, 1, none⟩ (.slice r1x1_a r1x1_m r1x1_c)).setCell ⟨k_s, 2, none⟩ (.int .i64 r1x1_p)).setCell ⟨k_s, 3, none⟩ (.slice none 0 0)) = w7_ at BW UX UY b_s t_s b_l t_l ZB0 b_a t_a b_h t_h ⊢
          obtain ⟨⟨b_l_0, b_l_1, b_l_2, b_l_3⟩, ⟨b_l_5, b_l_6, b_l_7, b_l_8⟩, b_l_4⟩ := b_l.out
          obtain ⟨⟨b_a_0, b_a_1, b_a_2, b_a_3⟩, ⟨b_a_5, b_a_6, b_a_7, b_a_8⟩, b_a_4⟩ := b_a.out
          obtain ⟨⟨b_h_0, b_h_1, b_h_2, b_h_3⟩, ⟨b_h_5, b_h_6, b_h_7, b_h_8⟩, b_h_4⟩ := b_h.out
          go_wp2_with fail
          clear b_l_0 b_l_1 b_l_2 b_l_3 b_l_4 b_l_5 b_l_6 b_l_7 b_l_8 b_a_0 b_a_1 b_a_2 b_a_3 b_a_4 b_a_5 b_a_6 b_a_7 b_a_8 b_h_0 b_h_1 b_h_2 b_h_3 b_h_4 b_h_5 b_h_6 b_h_7 b_h_8
          have HBa : Hid (Below w7_.heap.size w7_ w7_.drew) := (Below.refl _ _).drew
          have hfz_ := fun (w' : World) (h : Below w7_.heap.size w7_ w') => b_l.out.below h
          refine wp_region_noPanic ?_
          refine AnyT.start (T := (fun w' => (w'.cell? ⟨k_l, 0, none⟩ = some (.bool l_n) ∧ w'.cell? ⟨k_l, 1, none⟩ = some (.slice l_a l_m l_c) ∧ w'.cell? ⟨k_l, 2, none⟩ = some (.int .i64 l_p) ∧ w'.cell? ⟨k_l, 3, none⟩ = some (.slice none 0 0)) ∧ (w'.cell? ⟨k_a, 0, none⟩ = some (.bool a_n) ∧ w'.cell? ⟨k_a, 1, none⟩ = some (.slice a_a a_m a_c) ∧ w'.cell? ⟨k_a, 2, none⟩ = some (.int .i64 a_p) ∧ w'.cell? ⟨k_a, 3, none⟩ = some (.slice none 0 0)) ∧ (w'.cell? ⟨k_h, 0, none⟩ = some (.bool h_n) ∧ w'.cell? ⟨k_h, 1, none⟩ = some (.slice h_a h_m h_c) ∧ w'.cell? ⟨k_h, 2, none⟩ = some (.int .i64 h_p) ∧ w'.cell? ⟨k_h, 3, none⟩ = some (.slice none 0 0)))) (z := 6) (by kernel_rfl) ?_
          have hHeld0 := (⟨b_l.out.drew.cells, b_a.out.drew.cells, b_h.out.drew.cells⟩ : (fun w' => (w'.cell? ⟨k_l, 0, none⟩ = some (.bool l_n) ∧ w'.cell? ⟨k_l, 1, none⟩ = some (.slice l_a l_m l_c) ∧ w'.cell? ⟨k_l, 2, none⟩ = some (.int .i64 l_p) ∧ w'.cell? ⟨k_l, 3, none⟩ = some (.slice none 0 0)) ∧ (w'.cell? ⟨k_a, 0, none⟩ = some (.bool a_n) ∧ w'.cell? ⟨k_a, 1, none⟩ = some (.slice a_a a_m a_c) ∧ w'.cell? ⟨k_a, 2, none⟩ = some (.int .i64 a_p) ∧ w'.cell? ⟨k_a, 3, none⟩ = some (.slice none 0 0)) ∧ (w'.cell? ⟨k_h, 0, none⟩ = some (.bool h_n) ∧ w'.cell? ⟨k_h, 1, none⟩ = some (.slice h_a h_m h_c) ∧ w'.cell? ⟨k_h, 2, none⟩ = some (.int .i64 h_p) ∧ w'.cell? ⟨k_h, 3, none⟩ = some (.slice none 0 0))) w7_.drew)
          refine AnyT.take (i := 0) (oi := ({ dst := some 82, op := Op.load _ (Operand.tmp 10), type := _, pos := _, after := _, guard := none } : Oper)) (v := ?_) rfl (by kernel_rfl) (by kernel_rfl) (by kernel_rfl) (by kernel_rfl) (fun _ _ _ h => h) (Or.inl ⟨by rfl, ?_⟩) hHeld0 ?_
          rotate_left
          · intro w' hSw; (try dsimp only at hSw); go_simp <;> (try with_reducible rfl)
          (try simp only [Act.put, List.setIfInBounds_toArray, List.set_cons_zero, List.set_cons_succ])
          refine AnyT.take (i := 1) (oi := ({ dst := some 83, op := Op.load _ (Operand.tmp 12), type := _, pos := _, after := _, guard := none } : Oper)) (v := ?_) rfl (by kernel_rfl) (by kernel_rfl) (by kernel_rfl) (by kernel_rfl) (fun _ _ _ h => h) (Or.inl ⟨by rfl, ?_⟩) hHeld0 ?_
          rotate_left
          · intro w' hSw; (try dsimp only at hSw); go_simp <;> (try with_reducible rfl)
          (try simp only [Act.put, List.setIfInBounds_toArray, List.set_cons_zero, List.set_cons_succ])
          refine AnyT.take (i := 2) (oi := ({ dst := some 84, op := Op.load _ (Operand.tmp 14), type := _, pos := _, after := _, guard := none } : Oper)) (v := ?_) rfl (by kernel_rfl) (by kernel_rfl) (by kernel_rfl) (by kernel_rfl) (fun _ _ _ h => h) (Or.inl ⟨by rfl, ?_⟩) hHeld0 ?_
          rotate_left
          · intro w' hSw; (try dsimp only at hSw); go_simp <;> (try with_reducible rfl)
          (try simp only [Act.put, List.setIfInBounds_toArray, List.set_cons_zero, List.set_cons_succ])
          refine AnyT.one (i := 3) (o := ({ dst := some 85, op := Op.call { callee := Callee.value (Operand.func _), args := #[Operand.tmp 83, Operand.tmp 84], argTypes := _ }, type := _, pos := _, after := _, guard := none } : Oper)) (by kernel_rfl) rfl (fun K hK => ?_)
          go_simp
          refine (dMul _ _ _ B0 17 17 17 17 _ _ (t_a.out.below HBa.out) (t_h.out.below HBa.out) (by omega) (by omega) (by omega) (by omega) (by omega) (by omega)).mono ?_
          rintro e Wq0_ ⟨r2x0_v, rfl, ht_, hb_⟩
          obtain ⟨r2x0_n, r2x0_a, r2x0_m, r2x0_c, r2x0_p, rfl, ht2_⟩ := ht_.numform
          clear ht_
          have t_r2x0 : Hid (Tell Wq0_ B0 (.agg #[.bool r2x0_n, .slice r2x0_a r2x0_m r2x0_c, .int .i64 r2x0_p, .slice none 0 0]) 34 34 (xv x * xv y)) := ht2_.base (by have := ZB0.out; have := Below.size HBa.out; show B0 ≤ _; omega)
          clear ht2_
          replace HBa : Hid (Below w7_.heap.size w7_ Wq0_) := bstep HBa.out hb_
          clear hb_
          (try go_wp2_with fail)
          refine hK.out _ _ (fun _ => ⟨(b_l.out.below HBa.out).cells, (b_a.out.below HBa.out).cells, (b_h.out.below HBa.out).cells⟩) (fun hHeld1 => ?_)
          replace hHeld0 := hHeld1 (by decide)
          clear hK K hHeld1
          (try simp only [Act.put, List.setIfInBounds_toArray, List.set_cons_zero, List.set_cons_succ])
          refine AnyT.one (i := 4) (o := ({ dst := some 86, op := Op.call { callee := Callee.value (Operand.func _), args := #[Operand.tmp 85], argTypes := _ }, type := _, pos := _, after := _, guard := none } : Oper)) (by kernel_rfl) rfl (fun K hK => ?_)
          go_simp
          refine (dAbs _ _ B0 34 34 _ t_r2x0.out (by omega) (by omega)).mono ?_
          rintro e Wq1_ ⟨r2x1_v, rfl, ht_, hb_⟩
          obtain ⟨r2x1_n, r2x1_a, r2x1_m, r2x1_c, r2x1_p, rfl, ht2_⟩ := ht_.numform
          clear ht_
          have t_r2x1 : Hid (Tell Wq1_ B0 (.agg #[.bool r2x1_n, .slice r2x1_a r2x1_m r2x1_c, .int .i64 r2x1_p, .slice none 0 0]) 34 34 (((xv x * xv y).natAbs : Int))) := ht2_.base (by have := ZB0.out; have := Below.size HBa.out; show B0 ≤ _; omega)
          clear ht2_
          replace t_r2x0 : Hid (Tell _ _ _ _ _ _) := t_r2x0.out.below hb_
          replace HBa : Hid (Below w7_.heap.size w7_ Wq1_) := bstep HBa.out hb_
          clear hb_
          (try go_wp2_with fail)
          refine hK.out _ _ (fun _ => ⟨(b_l.out.below HBa.out).cells, (b_a.out.below HBa.out).cells, (b_h.out.below HBa.out).cells⟩) (fun hHeld1 => ?_)
          replace hHeld0 := hHeld1 (by decide)
          clear hK K hHeld1
          (try simp only [Act.put, List.setIfInBounds_toArray, List.set_cons_zero, List.set_cons_succ])
          refine AnyT.one (i := 5) (o := ({ dst := some 87, op := Op.call { callee := Callee.value (Operand.func _), args := #[Operand.tmp 82, Operand.tmp 86], argTypes := _ }, type := _, pos := _, after := _, guard := none } : Oper)) (by kernel_rfl) rfl (fun K hK => ?_)
          go_simp
          refine (dAdd _ _ _ B0 34 (34 + (j : Int)) _ _ (t_l.out.below HBa.out) ((t_r2x1.out).wide (34 + (j : Int)) (by omega)) (by omega) (by omega) (by omega)).mono ?_
          rintro e Wq2_ ⟨r2x2_v, rfl, ht_, hb_⟩
          obtain ⟨r2x2_n, r2x2_a, r2x2_m, r2x2_c, r2x2_p, rfl, ht2_⟩ := ht_.numform
          clear ht_
          have t_r2x2 : Hid (Tell Wq2_ B0 (.agg #[.bool r2x2_n, .slice r2x2_a r2x2_m r2x2_c, .int .i64 r2x2_p, .slice none 0 0]) 34 (34 + (j : Int) + 1) ((absP X Y j : Int) * 268435456 + ((xv x * xv y).natAbs : Int))) := ht2_.base (by have := ZB0.out; have := Below.size HBa.out; show B0 ≤ _; omega)
          clear ht2_
          replace t_r2x0 : Hid (Tell _ _ _ _ _ _) := t_r2x0.out.below hb_
          replace t_r2x1 : Hid (Tell _ _ _ _ _ _) := t_r2x1.out.below hb_
          replace HBa : Hid (Below w7_.heap.size w7_ Wq2_) := bstep HBa.out hb_
          clear hb_
          (try go_wp2_with fail)
          refine hK.out _ _ (fun _ => ⟨(b_l.out.below HBa.out).cells, (b_a.out.below HBa.out).cells, (b_h.out.below HBa.out).cells⟩) (fun hHeld1 => ?_)
          replace hHeld0 := hHeld1 (by decide)
          clear hK K hHeld1
          (try simp only [Act.put, List.setIfInBounds_toArray, List.set_cons_zero, List.set_cons_succ])
          refine AnyT.one (i := 6) (o := ({ dst := none, op := Op.store _ (Operand.tmp 10) (Operand.tmp 87), type := _, pos := _, after := _, guard := none } : Oper)) (by kernel_rfl) rfl (fun K hK => ?_)
          clear hHeld0
          obtain ⟨⟨z0_, z1_, z2_, z3_⟩, ⟨z5_, z6_, z7_, z8_⟩, z4_⟩ := hfz_ _ HBa.out
          go_simp
          refine hK.out _ _ (fun h => absurd rfl h) (fun _ => ?_)
          clear hK K
          (try simp only [Act.put, List.setIfInBounds_toArray, List.set_cons_zero, List.set_cons_succ])
          refine AnyT.done (by kernel_rfl) ?_
          refine NoPanic.normal ?_
          have bs_ := bes_puts Wq2_ k_l (.bool r2x2_n) (.slice r2x2_a r2x2_m r2x2_c) (.int .i64 r2x2_p) (.slice none 0 0)
          have mB_ := (b_l.out.below HBa.out).put (.bool r2x2_n) (.slice r2x2_a r2x2_m r2x2_c) (.int .i64 r2x2_p) (.slice none 0 0)
          have tB_ := t_r2x2.out.put (b := k_l) KB_l.out (.bool r2x2_n) (.slice r2x2_a r2x2_m r2x2_c) (.int .i64 r2x2_p) (.slice none 0 0)
          clear z0_ z1_ z2_ z3_ z4_ z5_ z6_ z7_ z8_ hfz_
          replace BW : Hid (Below _ _ _) := bstep BW.out HBa.out
          replace UX : Hid (URow _ _ _ _ _) := UX.out.below HBa.out
          replace UY : Hid (URow _ _ _ _ _) := UY.out.below HBa.out
          replace b_s : Hid (BoxF _ _ _ _ _ _) := b_s.out.below HBa.out
          replace t_s : Hid (Tell _ _ _ _ _ _) := t_s.out.below HBa.out
          replace b_l : Hid (BoxF _ _ _ _ _ _) := b_l.out.below HBa.out
          replace t_l : Hid (Tell _ _ _ _ _ _) := t_l.out.below HBa.out
          replace ZB0 : Hid (_ ≤ _) := Nat.le_trans ZB0.out (Below.size HBa.out)
          replace b_a : Hid (BoxF _ _ _ _ _ _) := b_a.out.below HBa.out
          replace t_a : Hid (Tell _ _ _ _ _ _) := t_a.out.below HBa.out
          replace b_h : Hid (BoxF _ _ _ _ _ _) := b_h.out.below HBa.out
          replace t_h : Hid (Tell _ _ _ _ _ _) := t_h.out.below HBa.out
          replace BW : Hid (Below _ _ _) := Bes.old BW.out bs_ L_l.out
          replace UX : Hid (URow _ _ _ _ _) := UX.out.puts (QX.out.apt (fun k e => by injection e with e; rw [← e]; exact L_l.out)) (.bool r2x2_n) (.slice r2x2_a r2x2_m r2x2_c) (.int .i64 r2x2_p) (.slice none 0 0)
          replace UY : Hid (URow _ _ _ _ _) := UY.out.puts (QY.out.apt (fun k e => by injection e with e; rw [← e]; exact L_l.out)) (.bool r2x2_n) (.slice r2x2_a r2x2_m r2x2_c) (.int .i64 r2x2_p) (.slice none 0 0)
          replace b_s : Hid (BoxF _ _ _ _ _ _) := b_s.out.puts (Ne.symm N_sl.out) (.bool r2x2_n) (.slice r2x2_a r2x2_m r2x2_c) (.int .i64 r2x2_p) (.slice none 0 0)
          replace t_s : Hid (Tell _ _ _ _ _ _) := t_s.out.put (b := k_l) KB_l.out (.bool r2x2_n) (.slice r2x2_a r2x2_m r2x2_c) (.int .i64 r2x2_p) (.slice none 0 0)
          replace ZB0 : Hid (_ ≤ _) := Nat.le_trans ZB0.out (Bes.size bs_)
          replace b_a : Hid (BoxF _ _ _ _ _ _) := b_a.out.puts N_la.out (.bool r2x2_n) (.slice r2x2_a r2x2_m r2x2_c) (.int .i64 r2x2_p) (.slice none 0 0)
          replace t_a : Hid (Tell _ _ _ _ _ _) := t_a.out.put (b := k_l) KB_l.out (.bool r2x2_n) (.slice r2x2_a r2x2_m r2x2_c) (.int .i64 r2x2_p) (.slice none 0 0)
          replace b_h : Hid (BoxF _ _ _ _ _ _) := b_h.out.puts N_lh.out (.bool r2x2_n) (.slice r2x2_a r2x2_m r2x2_c) (.int .i64 r2x2_p) (.slice none 0 0)
          replace t_h : Hid (Tell _ _ _ _ _ _) := t_h.out.put (b := k_l) KB_l.out (.bool r2x2_n) (.slice r2x2_a r2x2_m r2x2_c) (.int .i64 r2x2_p) (.slice none 0 0)
          replace b_l : Hid (BoxF _ _ _ _ _ _) := mB_
          replace t_l : Hid (Tell _ B0 (.agg #[.bool r2x2_n, .slice r2x2_a r2x2_m r2x2_c, .int .i64 r2x2_p, .slice none 0 0]) 34 (34 + (j : Int) + 1) ((absP X Y j : Int) * 268435456 + ((xv x * xv y).natAbs : Int))) := tB_
          clear mB_ tB_ bs_ HBa t_r2x0 t_r2x1 t_r2x2
          generalize ((((Wq2_.setCell ⟨k_l, 0, none⟩ (.bool r2x2_n)).setCell ⟨k_l, 1, none⟩ (.slice r2x2_a r2x2_m r2x2_c)).setCell ⟨k_l, 2, none⟩ (.int .i64 r2x2_p)).setCell ⟨k_l, 3, none⟩ (.slice none 0 0)) = w8_ at BW UX UY b_s t_s b_l t_l ZB0 b_a t_a b_h t_h ⊢
          have XE := xv_mul x y FNX.out FNY.out
          have ES : sumP X Y j * 268435456 + xv x * xv y = sumP X Y (j + 1) * 268435456 := by
            show _ = (sumP X Y j + sv (X j) * sv (Y j)) * 268435456
            rw [HXX.out, HYY.out, XE, Int.add_mul]
          have EL : (absP X Y j : Int) * 268435456 + ((xv x * xv y).natAbs : Int) = (absP X Y (j + 1) : Int) * 268435456 := by
            show _ = ((absP X Y j + (sv (X j) * sv (Y j)).natAbs : Nat) : Int) * 268435456
            rw [HXX.out, HYY.out, XE]
            generalize sv x * sv y = P
            omega
          have TS : Hid (Tell _ _ _ 34 (34 + ((j + 1 : Nat) : Int)) (sumP X Y (j + 1) * 268435456)) := (t_s.out.wide _ (by omega)).eq ES
          have TL : Hid (Tell _ _ _ 34 (34 + ((j + 1 : Nat) : Int)) ((absP X Y (j + 1) : Int) * 268435456)) := (t_l.out.wide _ (by omega)).eq EL
          have FN2 : Hid (∀ i, i < j + 1 → mag (X i) < 9218868437227405312 ∧ mag (Y i) < 9218868437227405312) := fun i hi => by
            rcases Nat.lt_or_ge i j with g | g
            · exact FIN.out i g
            · obtain rfl : i = j := by omega
              rw [HXX.out, HYY.out]
              exact ⟨FNX.out, FNY.out⟩
          clear XE ES EL t_s t_l t_a t_h b_a b_h
          go_wp2
          go_roundw
          case rel => exact ⟨j + 1, _, _, _, _, _, _, _, _, _, _, by go_num, by omega, FN2, b_s, TS, b_l, TL, BW, UX, UY, ZB0⟩
          case measure => simp [intOf]; omega
        · obtain rfl : n = j := by omega
          obtain ⟨fd, dd⟩ := dot_err X Y n (by omega) (fun i hi => (FIN.out i hi).1) (fun i hi => (FIN.out i hi).2) HG.out
          rw [HD.out] at fd dd
          have hdd : decide (mag d < 9218868437227405312) = true := decide_eq_true fd
          have DD : Hid (_ ≤ _) := dd
          have FD_ : Hid (mag d < 9218868437227405312) := fd
          clear dd fd FIN UX UY
          go_wp2_with fail
          refine (dOf d _ d0 d1).mono ?_
          rintro e w3_ ⟨g_v, rfl, ht_, hb_⟩
          obtain ⟨g_n, g_a, g_m, g_c, g_p, rfl, ht2_⟩ := ht_.numform
          replace ht2_ := ht2_.base (b' := B0) ZB0.out
          clear ht_
          replace BW : Hid (Below _ _ _) := bstep BW.out hb_
          replace b_s : Hid (BoxF _ _ _ _ _ _) := b_s.out.below hb_
          replace t_s : Hid (Tell _ _ _ _ _ _) := t_s.out.below hb_
          replace b_l : Hid (BoxF _ _ _ _ _ _) := b_l.out.below hb_
          replace t_l : Hid (Tell _ _ _ _ _ _) := t_l.out.below hb_
          replace ZB0 : Hid (_ ≤ _) := Nat.le_trans ZB0.out (Below.size hb_)
          clear hb_
          go_upto_region 24 with fail
          have mB_ := BoxF.made w3_ (.bool g_n) (.slice g_a g_m g_c) (.int .i64 g_p) (.slice none 0 0) 44
          have tB_ := ht2_.alloc (.cells #[.bool g_n, .slice g_a g_m g_c, .int .i64 g_p, .slice none 0 0] 44)
          have b_ := bmore (Below.refl w3_.heap.size w3_) (.cells #[.bool g_n, .slice g_a g_m g_c, .int .i64 g_p, .slice none 0 0] 44)
          clear ht2_
          generalize (w3_.alloc (.cells #[.bool g_n, .slice g_a g_m g_c, .int .i64 g_p, .slice none 0 0] 44)) = w4_ at mB_ b_ tB_ ⊢
          obtain ⟨k_g, hk_g⟩ : ∃ k, k = w3_.heap.size := ⟨_, rfl⟩
          have N_sg : Hid (k_s ≠ k_g) := by have := b_s.out.2.2; show _ ≠ _; omega
          have N_lg : Hid (k_l ≠ k_g) := by have := b_l.out.2.2; show _ ≠ _; omega
          rw [← hk_g] at mB_ ⊢
          replace BW : Hid (Below _ _ _) := bstep BW.out b_
          replace b_s : Hid (BoxF _ _ _ _ _ _) := b_s.out.below b_
          replace t_s : Hid (Tell _ _ _ _ _ _) := t_s.out.below b_
          replace b_l : Hid (BoxF _ _ _ _ _ _) := b_l.out.below b_
          replace t_l : Hid (Tell _ _ _ _ _ _) := t_l.out.below b_
          replace ZB0 : Hid (_ ≤ _) := Nat.le_trans ZB0.out (Below.size b_)
          have b_g : Hid (BoxF w4_ k_g (.bool g_n) (.slice g_a g_m g_c) (.int .i64 g_p) (.slice none 0 0)) := mB_
          have t_g : Hid (Tell w4_ B0 (.agg #[.bool g_n, .slice g_a g_m g_c, .int .i64 g_p, .slice none 0 0]) 17 17 (xv d)) := tB_
          clear mB_ b_ tB_ hk_g
          have hw2 : IntKind.i64.wrap (2 * (n : Int)) = 2 * (n : Int) := by rw [IntKind.wrap_i64]; omega
          obtain ⟨cc, hcc⟩ : ∃ c, cmpZ (((xv d * pw (34 - 17) - sumP X Y n * 268435456).natAbs : Int) * pw (35 - 34)) ((absP X Y n : Int) * 268435456 * (2 * (n : Int)) * 2048) = c := ⟨_, rfl⟩
          have hc0 : cc ≤ 0 := by
            rw [← hcc]
            refine cmp_nonpos _ _ ?_
            have e : xv d = sv d * 16384 := by unfold xv; rw [if_pos FD_.out]
            rw [show 34 - 17 = 17 from rfl, show 35 - 34 = 1 from rfl, pw17, pw1, e]
            exact dots_le _ _ _ _ _ DD.out
          have HCC : Hid (_ = _) := hcc
          clear hcc
          obtain ⟨⟨b_g_0, b_g_1, b_g_2, b_g_3⟩, ⟨b_g_5, b_g_6, b_g_7, b_g_8⟩, b_g_4⟩ := b_g.out
          obtain ⟨⟨b_s_0, b_s_1, b_s_2, b_s_3⟩, ⟨b_s_5, b_s_6, b_s_7, b_s_8⟩, b_s_4⟩ := b_s.out
          obtain ⟨⟨b_l_0, b_l_1, b_l_2, b_l_3⟩, ⟨b_l_5, b_l_6, b_l_7, b_l_8⟩, b_l_4⟩ := b_l.out
          go_wp2_with fail
          clear b_g_0 b_g_1 b_g_2 b_g_3 b_g_4 b_g_5 b_g_6 b_g_7 b_g_8 b_s_0 b_s_1 b_s_2 b_s_3 b_s_4 b_s_5 b_s_6 b_s_7 b_s_8 b_l_0 b_l_1 b_l_2 b_l_3 b_l_4 b_l_5 b_l_6 b_l_7 b_l_8
          have ct : Cnt 1 := Cnt.mk _
          have HBa : Hid (Below w4_.heap.size w4_ w4_) := Below.refl _ _
          go_region_held3 (fun w' => (w'.cell? ⟨k_g, 0, none⟩ = some (.bool g_n) ∧ w'.cell? ⟨k_g, 1, none⟩ = some (.slice g_a g_m g_c) ∧ w'.cell? ⟨k_g, 2, none⟩ = some (.int .i64 g_p) ∧ w'.cell? ⟨k_g, 3, none⟩ = some (.slice none 0 0)) ∧ (w'.cell? ⟨k_s, 0, none⟩ = some (.bool s_n) ∧ w'.cell? ⟨k_s, 1, none⟩ = some (.slice s_a s_m s_c) ∧ w'.cell? ⟨k_s, 2, none⟩ = some (.int .i64 s_p) ∧ w'.cell? ⟨k_s, 3, none⟩ = some (.slice none 0 0)) ∧ (w'.cell? ⟨k_l, 0, none⟩ = some (.bool l_n) ∧ w'.cell? ⟨k_l, 1, none⟩ = some (.slice l_a l_m l_c) ∧ w'.cell? ⟨k_l, 2, none⟩ = some (.int .i64 l_p) ∧ w'.cell? ⟨k_l, 3, none⟩ = some (.slice none 0 0))) (exact ⟨(b_g.out.below (by with_reducible repeat (first | (refine Below.drew ?_) | (refine bmore ?_ _) | exact HBa.out | exact Below.refl _ _))).cells, (b_s.out.below (by with_reducible repeat (first | (refine Below.drew ?_) | (refine bmore ?_ _) | exact HBa.out | exact Below.refl _ _))).cells, (b_l.out.below (by with_reducible repeat (first | (refine Below.drew ?_) | (refine bmore ?_ _) | exact HBa.out | exact Below.refl _ _))).cells⟩) (first | (have ck : Cnt 1 := ct; go_at_call 50; refine (dSub _ _ _ B0 34 (34 + (n : Int)) _ _ ((t_g.out.below (by with_reducible repeat (first | (refine Below.drew ?_) | (refine bmore ?_ _) | exact HBa.out | exact Below.refl _ _))).up 34 (34 + (n : Int)) (by omega) (by omega)) (t_s.out.below (by with_reducible repeat (first | (refine Below.drew ?_) | (refine bmore ?_ _) | exact HBa.out | exact Below.refl _ _))) (by omega) (by omega) (by omega)).mono ?_; rintro e Wq0_ ⟨r1x0_v, rfl, ht_, hb_⟩; obtain ⟨r1x0_n, r1x0_a, r1x0_m, r1x0_c, r1x0_p, rfl, ht2_⟩ := ht_.numform; clear ht_; have hbt_ : Below w4_.heap.size w4_ Wq0_ := bstep (by with_reducible repeat (first | (refine Below.drew ?_) | (refine bmore ?_ _) | exact (Below.refl _ _) | exact Below.refl _ _)) hb_; have t_r1x0 : Hid (Tell Wq0_ B0 (.agg #[.bool r1x0_n, .slice r1x0_a r1x0_m r1x0_c, .int .i64 r1x0_p, .slice none 0 0]) 34 ((34 + (n : Int)) + 1) (xv d * pw (34 - 17) - sumP X Y n * 268435456)) := ht2_.base (Nat.le_trans ZB0.out (Below.size (B := w4_.heap.size) (by with_reducible repeat (first | (refine Below.drew ?_) | (refine bmore ?_ _) | exact HBa.out | exact Below.refl _ _)))); clear ht2_; replace HBa : Hid (Below w4_.heap.size w4_ Wq0_) := bstep HBa.out hbt_; replace ct : Cnt 2 := Cnt.mk _; clear hb_ hbt_ ck) | (have ck : Cnt 2 := ct; go_at_call 34; refine (dAbs _ _ B0 34 ((34 + (n : Int)) + 1) _ (t_r1x0.out.below (by with_reducible repeat (first | (refine Below.drew ?_) | (refine bmore ?_ _) | exact (Below.refl _ _) | exact Below.refl _ _))) (by omega) (by omega)).mono ?_; rintro e Wq1_ ⟨r1x1_v, rfl, ht_, hb_⟩; obtain ⟨r1x1_n, r1x1_a, r1x1_m, r1x1_c, r1x1_p, rfl, ht2_⟩ := ht_.numform; clear ht_; have hbt_ : Below Wq0_.heap.size Wq0_ Wq1_ := bstep (by with_reducible repeat (first | (refine Below.drew ?_) | (refine bmore ?_ _) | exact (Below.refl _ _) | exact Below.refl _ _)) hb_; have t_r1x1 : Hid (Tell Wq1_ B0 (.agg #[.bool r1x1_n, .slice r1x1_a r1x1_m r1x1_c, .int .i64 r1x1_p, .slice none 0 0]) 34 ((34 + (n : Int)) + 1) (((xv d * pw (34 - 17) - sumP X Y n * 268435456).natAbs : Int))) := ht2_.base (Nat.le_trans ZB0.out (Below.size (B := w4_.heap.size) (by with_reducible repeat (first | (refine Below.drew ?_) | (refine bmore ?_ _) | exact HBa.out | exact Below.refl _ _)))); clear ht2_; replace t_r1x0 : Hid (Tell _ _ _ _ _ _) := t_r1x0.out.below hbt_; replace HBa : Hid (Below w4_.heap.size w4_ Wq1_) := bstep HBa.out hbt_; replace ct : Cnt 3 := Cnt.mk _; clear hb_ hbt_ ck) | (have ck : Cnt 3 := ct; go_at_call 30; refine (dInt (2 * (n : Int)) _ (by omega) (by omega)).mono ?_; rintro e Wq2_ ⟨r1x2_v, rfl, ht_, hb_⟩; obtain ⟨r1x2_n, r1x2_a, r1x2_m, r1x2_c, r1x2_p, rfl, ht2_⟩ := ht_.numform; clear ht_; have hbt_ : Below Wq1_.heap.size Wq1_ Wq2_ := bstep (by with_reducible repeat (first | (refine Below.drew ?_) | (refine bmore ?_ _) | exact (Below.refl _ _) | exact Below.refl _ _)) hb_; have t_r1x2 : Hid (Tell Wq2_ B0 (.agg #[.bool r1x2_n, .slice r1x2_a r1x2_m r1x2_c, .int .i64 r1x2_p, .slice none 0 0]) 0 2 (2 * (n : Int))) := ht2_.base (Nat.le_trans ZB0.out (Below.size (B := w4_.heap.size) (by with_reducible repeat (first | (refine Below.drew ?_) | (refine bmore ?_ _) | exact HBa.out | exact Below.refl _ _)))); clear ht2_; replace t_r1x0 : Hid (Tell _ _ _ _ _ _) := t_r1x0.out.below hbt_; replace t_r1x1 : Hid (Tell _ _ _ _ _ _) := t_r1x1.out.below hbt_; replace HBa : Hid (Below w4_.heap.size w4_ Wq2_) := bstep HBa.out hbt_; replace ct : Cnt 4 := Cnt.mk _; clear hb_ hbt_ ck) | (have ck : Cnt 4 := ct; go_at_call 32; refine (dMul _ _ _ B0 34 0 (34 + (n : Int)) 2 _ _ (t_l.out.below (by with_reducible repeat (first | (refine Below.drew ?_) | (refine bmore ?_ _) | exact HBa.out | exact Below.refl _ _))) (t_r1x2.out.below (by with_reducible repeat (first | (refine Below.drew ?_) | (refine bmore ?_ _) | exact (Below.refl _ _) | exact Below.refl _ _))) (by omega) (by omega) (by omega) (by omega) (by omega) (by omega)).mono ?_; rintro e Wq3_ ⟨r1x3_v, rfl, ht_, hb_⟩; obtain ⟨r1x3_n, r1x3_a, r1x3_m, r1x3_c, r1x3_p, rfl, ht2_⟩ := ht_.numform; clear ht_; have hbt_ : Below Wq2_.heap.size Wq2_ Wq3_ := bstep (by with_reducible repeat (first | (refine Below.drew ?_) | (refine bmore ?_ _) | exact (Below.refl _ _) | exact Below.refl _ _)) hb_; have t_r1x3 : Hid (Tell Wq3_ B0 (.agg #[.bool r1x3_n, .slice r1x3_a r1x3_m r1x3_c, .int .i64 r1x3_p, .slice none 0 0]) 34 ((34 + (n : Int)) + 2) ((absP X Y n : Int) * 268435456 * (2 * (n : Int)))) := ht2_.base (Nat.le_trans ZB0.out (Below.size (B := w4_.heap.size) (by with_reducible repeat (first | (refine Below.drew ?_) | (refine bmore ?_ _) | exact HBa.out | exact Below.refl _ _)))); clear ht2_; replace t_r1x0 : Hid (Tell _ _ _ _ _ _) := t_r1x0.out.below hbt_; replace t_r1x1 : Hid (Tell _ _ _ _ _ _) := t_r1x1.out.below hbt_; replace t_r1x2 : Hid (Tell _ _ _ _ _ _) := t_r1x2.out.below hbt_; replace HBa : Hid (Below w4_.heap.size w4_ Wq3_) := bstep HBa.out hbt_; replace ct : Cnt 5 := Cnt.mk _; clear hb_ hbt_ ck) | (have ck : Cnt 5 := ct; go_at_call 38; refine (dTwoAt (-53) 1 1 2048 _ (by decide) (by decide) (by decide) (by decide)).mono ?_; rintro e Wq4_ ⟨r1x4_v, rfl, ht_, hb_⟩; obtain ⟨r1x4_n, r1x4_a, r1x4_m, r1x4_c, r1x4_p, rfl, ht2_⟩ := ht_.numform; clear ht_; have hbt_ : Below Wq3_.heap.size Wq3_ Wq4_ := bstep (by with_reducible repeat (first | (refine Below.drew ?_) | (refine bmore ?_ _) | exact (Below.refl _ _) | exact Below.refl _ _)) hb_; have t_r1x4 : Hid (Tell Wq4_ B0 (.agg #[.bool r1x4_n, .slice r1x4_a r1x4_m r1x4_c, .int .i64 r1x4_p, .slice none 0 0]) 1 1 (2048)) := ht2_.base (Nat.le_trans ZB0.out (Below.size (B := w4_.heap.size) (by with_reducible repeat (first | (refine Below.drew ?_) | (refine bmore ?_ _) | exact HBa.out | exact Below.refl _ _)))); clear ht2_; replace t_r1x0 : Hid (Tell _ _ _ _ _ _) := t_r1x0.out.below hbt_; replace t_r1x1 : Hid (Tell _ _ _ _ _ _) := t_r1x1.out.below hbt_; replace t_r1x2 : Hid (Tell _ _ _ _ _ _) := t_r1x2.out.below hbt_; replace t_r1x3 : Hid (Tell _ _ _ _ _ _) := t_r1x3.out.below hbt_; replace HBa : Hid (Below w4_.heap.size w4_ Wq4_) := bstep HBa.out hbt_; replace ct : Cnt 6 := Cnt.mk _; clear hb_ hbt_ ck) | (have ck : Cnt 6 := ct; go_at_call 32; refine (dMul _ _ _ B0 34 1 ((34 + (n : Int)) + 2) 1 _ _ (t_r1x3.out.below (by with_reducible repeat (first | (refine Below.drew ?_) | (refine bmore ?_ _) | exact (Below.refl _ _) | exact Below.refl _ _))) (t_r1x4.out.below (by with_reducible repeat (first | (refine Below.drew ?_) | (refine bmore ?_ _) | exact (Below.refl _ _) | exact Below.refl _ _))) (by omega) (by omega) (by omega) (by omega) (by omega) (by omega)).mono ?_; rintro e Wq5_ ⟨r1x5_v, rfl, ht_, hb_⟩; obtain ⟨r1x5_n, r1x5_a, r1x5_m, r1x5_c, r1x5_p, rfl, ht2_⟩ := ht_.numform; clear ht_; have hbt_ : Below Wq4_.heap.size Wq4_ Wq5_ := bstep (by with_reducible repeat (first | (refine Below.drew ?_) | (refine bmore ?_ _) | exact (Below.refl _ _) | exact Below.refl _ _)) hb_; have t_r1x5 : Hid (Tell Wq5_ B0 (.agg #[.bool r1x5_n, .slice r1x5_a r1x5_m r1x5_c, .int .i64 r1x5_p, .slice none 0 0]) 35 ((34 + (n : Int)) + 2 + 1) ((absP X Y n : Int) * 268435456 * (2 * (n : Int)) * 2048)) := ht2_.base (Nat.le_trans ZB0.out (Below.size (B := w4_.heap.size) (by with_reducible repeat (first | (refine Below.drew ?_) | (refine bmore ?_ _) | exact HBa.out | exact Below.refl _ _)))); clear ht2_; replace t_r1x0 : Hid (Tell _ _ _ _ _ _) := t_r1x0.out.below hbt_; replace t_r1x1 : Hid (Tell _ _ _ _ _ _) := t_r1x1.out.below hbt_; replace t_r1x2 : Hid (Tell _ _ _ _ _ _) := t_r1x2.out.below hbt_; replace t_r1x3 : Hid (Tell _ _ _ _ _ _) := t_r1x3.out.below hbt_; replace t_r1x4 : Hid (Tell _ _ _ _ _ _) := t_r1x4.out.below hbt_; replace HBa : Hid (Below w4_.heap.size w4_ Wq5_) := bstep HBa.out hbt_; replace ct : Cnt 7 := Cnt.mk _; clear hb_ hbt_ ck) | (have ck : Cnt 7 := ct; go_at_call 35; refine (dCmp _ _ _ B0 35 ((34 + (n : Int)) + 2 + 1) _ _ ((t_r1x1.out.below (by with_reducible repeat (first | (refine Below.drew ?_) | (refine bmore ?_ _) | exact (Below.refl _ _) | exact Below.refl _ _))).up 35 ((34 + (n : Int)) + 2 + 1) (by omega) (by omega)) (t_r1x5.out.below (by with_reducible repeat (first | (refine Below.drew ?_) | (refine bmore ?_ _) | exact (Below.refl _ _) | exact Below.refl _ _))) (by omega) (by omega)).mono ?_; rintro e Wq6_ ⟨rfl, hb_⟩; rw [HCC.out]; have hbt_ : Below Wq5_.heap.size Wq5_ Wq6_ := bstep (by with_reducible repeat (first | (refine Below.drew ?_) | (refine bmore ?_ _) | exact (Below.refl _ _) | exact Below.refl _ _)) hb_; replace t_r1x0 : Hid (Tell _ _ _ _ _ _) := t_r1x0.out.below hbt_; replace t_r1x1 : Hid (Tell _ _ _ _ _ _) := t_r1x1.out.below hbt_; replace t_r1x2 : Hid (Tell _ _ _ _ _ _) := t_r1x2.out.below hbt_; replace t_r1x3 : Hid (Tell _ _ _ _ _ _) := t_r1x3.out.below hbt_; replace t_r1x4 : Hid (Tell _ _ _ _ _ _) := t_r1x4.out.below hbt_; replace t_r1x5 : Hid (Tell _ _ _ _ _ _) := t_r1x5.out.below hbt_; replace HBa : Hid (Below w4_.heap.size w4_ Wq6_) := bstep HBa.out hbt_; replace ct : Cnt 8 := Cnt.mk _; clear hb_ hbt_ ck))
          replace BW : Hid (Below _ _ _) := bstep BW.out HBa.out
          replace b_s : Hid (BoxF _ _ _ _ _ _) := b_s.out.below HBa.out
          replace t_s : Hid (Tell _ _ _ _ _ _) := t_s.out.below HBa.out
          replace b_l : Hid (BoxF _ _ _ _ _ _) := b_l.out.below HBa.out
          replace t_l : Hid (Tell _ _ _ _ _ _) := t_l.out.below HBa.out
          replace ZB0 : Hid (_ ≤ _) := Nat.le_trans ZB0.out (Below.size HBa.out)
          replace b_g : Hid (BoxF _ _ _ _ _ _) := b_g.out.below HBa.out
          replace t_g : Hid (Tell _ _ _ _ _ _) := t_g.out.below HBa.out
          clear HBa ct t_r1x0 t_r1x1 t_r1x2 t_r1x3 t_r1x4 t_r1x5
          go_wp2
          go_ret
          exact ⟨ret_eq rfl, BW.out⟩

/-! ### THE ROW's STEP: WRITTEN OUT: LEAVE IT -/
set_option maxRecDepth 100000 in
theorem lifted (os : Os) (started : os.Started) (H : Type) (enc : TypeId × Value → H) :
    ReturnsInHanded {} Try.checked os 10 .any (Rows.vecDotsSpec.pre6 enc Try.prog Try.f10 Rows.vecDotsRow.domain false) (Rows.vecDotsSpec.post enc Try.prog Try.f10 false true false false) := by
  refine returnsInHanded_of_change (C := Try.checked) own started (by kernel_rfl) Try.func10
    (ChangeSpec.witness6 (enc := enc) (C := Try.checked) false ⟨#[], #[.slice none 0 0, .slice none 0 0], []⟩ 8 (by kernel_rfl) (by kernel_rfl) (by kernel_rfl) (by kernel_rfl)) ?_
  intro W base args ds gs before hval0 hW hcnd _
  have hval : ∀ (j : Nat) t v, Try.f10.params[j]? = some t → args[j]? = some v → Value.okWide Try.prog W .any base t v := hval0
  have hW' := hW
  obtain ⟨p, q, hA0, hV, rfl, hfz, hnd⟩ := hW
  have hA : DataW.TrodAll enc Try.prog W 0 (fun _ => true) true Try.f10.params.toList args.toList ds p := hA0
  rw [Try.params10] at hA hval
  obtain ⟨v0, vs0, d0, ds0, p0, q0, hargs, rfl, rfl, h0, r0⟩ := trodAll_cons hA
  obtain ⟨v1, vs1, d1, ds1, p1, q1, rfl, rfl, rfl, h1, r1⟩ := trodAll_cons r0
  obtain ⟨rfl, rfl, rfl⟩ := trodAll_nil r1
  obtain rfl : args = #[v0, v1] := by cases args; simp_all
  obtain ⟨rfl, rfl⟩ := trodVars_none hV
  obtain ⟨a0, len0, cap0, rfl⟩ := okWide_slice Try.underlying23 (hval 0 23 v0 rfl rfl)
  have k0 := h0
  have lt0 : ∀ x ∈ p0, x.block < W.heap.size := by obtain ⟨m, hm⟩ := k0; exact DataW.trod_lt m _ _ _ hm
  obtain ⟨z0, w0⟩ : ∃ zs, IsRow .u64 W a0 len0 cap0 zs := by
    obtain ⟨fuel, hf⟩ := h0
    rcases open_ints Try.underlying23 Try.underlying26 (by kernel_rfl) hf with ⟨hcs, _⟩ | ⟨x, l, c, zs, hcs, _, hl, hm, hz, _, hcell, hwz⟩
    · simp [Value.cells] at hcs
      obtain ⟨rfl, rfl, rfl⟩ := hcs
      exact ⟨[], .inl ⟨rfl, rfl, rfl, rfl⟩⟩
    · simp [Value.cells] at hcs
      obtain ⟨rfl, rfl, rfl⟩ := hcs
      exact ⟨zs, .inr ⟨_, rfl, hl, hm, by simpa using hz, hcell, hwz⟩⟩
  obtain ⟨a1, len1, cap1, rfl⟩ := okWide_slice Try.underlying23 (hval 1 23 v1 rfl rfl)
  have k1 := h1
  have lt1 : ∀ x ∈ p1, x.block < W.heap.size := by obtain ⟨m, hm⟩ := k1; exact DataW.trod_lt m _ _ _ hm
  obtain ⟨z1, w1⟩ : ∃ zs, IsRow .u64 W a1 len1 cap1 zs := by
    obtain ⟨fuel, hf⟩ := h1
    rcases open_ints Try.underlying23 Try.underlying26 (by kernel_rfl) hf with ⟨hcs, _⟩ | ⟨x, l, c, zs, hcs, _, hl, hm, hz, _, hcell, hwz⟩
    · simp [Value.cells] at hcs
      obtain ⟨rfl, rfl, rfl⟩ := hcs
      exact ⟨[], .inl ⟨rfl, rfl, rfl, rfl⟩⟩
    · simp [Value.cells] at hcs
      obtain ⟨rfl, rfl, rfl⟩ := hcs
      exact ⟨zs, .inr ⟨_, rfl, hl, hm, by simpa using hz, hcell, hwz⟩⟩
  clear hA0 hval0
  refine (walk a0 len0 cap0 z0 a1 len1 cap1 z1 W w0 w1).mono fun e W' ⟨he, bel⟩ => ?_
  subst he
  exact ⟨_, rfl, _, _, _, [], _, [], hW', trodAll_mk1 (shut_bool Try.underlying4 _), (trodAll_cons_mk (Below.trod laidOut (by kernel_rfl) (of_decide_eq_true (by kernel_rfl)) k0 bel lt0) (trodAll_cons_mk (Below.trod laidOut (by kernel_rfl) (of_decide_eq_true (by kernel_rfl)) k1 bel lt1) trodAll_mk0)), rfl, bel.frame _, fun h => by cases h⟩

theorem over : Rows.vecDotsRow.holds Try.pinned (OpenSpec.ofChange Rows.vecDotsSpec) :=
  OpenClaim.holds_of_wide 10 Try.f10 rfl rfl rfl rfl rfl rfl rfl ⟨rfl, rfl, rfl, rfl, rfl⟩ rfl rfl rfl rfl rfl (by kernel_rfl) Try.func10 (by kernel_rfl)
    (of_decide_eq_true (by kernel_rfl)) (by unfold Func.isWrapper; first | (rw [if_pos (by decide +kernel)]; kernel_rfl) | (rw [if_neg (by decide +kernel)]; exact ⟨rfl, rfl⟩))
    (fun os started H enc _ => lifted os started H enc)

/-- ████ THE STATEMENT ████ -/
theorem proved : Rows.VecDotsSaid := over
#print axioms proved
end Go.Proofs.Ytokgfeeaoioegaa.vecDots
