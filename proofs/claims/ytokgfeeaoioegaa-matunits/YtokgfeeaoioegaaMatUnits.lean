/-
  The law MatUnits returns true at every input (any sizes, any slice of patterns), and leaves its arguments as they were. No conditions.
-/
import Derived.Test.YtokgfeeaoioegaaRows
import Derived.WalkKit
import Derived.ProofKit
import Derived.OpenShut
import Derived.Test.YtokgfeeaoioegaaGrR
import Derived.ShutString
import Derived.ChangeOld
import Derived.Below
namespace Go.Proofs.Ytokgfeeaoioegaa.matUnits
open Go.ChangeShapes Go.WideShapes Go.ChangeAt Go.RowKit
open Go.ChangeMaps (open_string shut_string)
set_option linter.unusedVariables false

theorem own : ownKnob Try.prog.godebug = none := by kernel_rfl
theorem laidOut : laidOutB Try.prog = true := by kernel_rfl

/-- WHAT THE WALK IS TOLD OF A SLICE OF INTEGERS THAT CAME IN: it is nil; or it leads to a row of 'cap' cells, the numbers 'zs' (the first 'len' are its elements, the rest its spare room), each fitting its kind. -/
def IsRow (k : IntKind) (w : World) (a : Option Addr) (len cap : Nat) (zs : List Int) : Prop :=
  (a = none ∧ len = 0 ∧ cap = 0 ∧ zs = []) ∨
  ∃ x, a = some x ∧ len ≤ cap ∧ cap ≤ maxLen ∧ zs.length = cap ∧ (∀ i, i < zs.length → w.cell? (x.add i) = some (.int k (zs.getD i 0))) ∧ ∀ n ∈ zs, (Lit.int k n).wf = true

set_option linter.unusedSimpArgs false
theorem row_of (w : World) (a : Option Addr) (len cap : Nat) (zs : List Int) (h : IsRow .u64 w a len cap zs) : URow w a len cap (fun i => zs.getD i 0) := by
  rcases h with ⟨rfl, rfl, rfl, rfl⟩ | ⟨x, rfl, h1, h2, h3, h4, h5⟩
  · exact ⟨Nat.le_refl _, Nat.zero_le _, fun i => by simp, fun h => absurd h (Nat.lt_irrefl 0)⟩
  · refine ⟨h1, h2, fun i => ?_, fun hp => ?_⟩
    · show 0 ≤ zs.getD i 0 ∧ zs.getD i 0 < 18446744073709551616
      rcases Nat.lt_or_ge i zs.length with g | g
      · have hm : zs.getD i 0 ∈ zs := by
          rw [List.getD_eq_getElem?_getD, List.getElem?_eq_getElem g]
          exact List.getElem_mem g
        obtain ⟨q1, q2⟩ := bounds_u64 (h5 _ hm)
        exact ⟨q1, by omega⟩
      · rw [List.getD_eq_getElem?_getD, List.getElem?_eq_none g]
        simp
    · obtain ⟨b, o, s⟩ := x
      have hs : s = none := by simpa [Addr.add] using World.cell?_spot (h4 0 (by omega))
      subst hs
      have hb : b < w.heap.size := by
        have := World.block_lt_of_cell? _ _ (h4 0 (by omega))
        simpa [Addr.add] using this
      refine ⟨b, o, rfl, hb, fun i hi => ?_⟩
      have := h4 i (by omega)
      rw [add_plain] at this
      exact this
/-- Whether the first j are finite. -/
def FinB (fb : Bool) (X : Nat → Int) (j : Nat) : Prop := fb = true ↔ ∀ i, i < j → mag (X i) < 9218868437227405312
set_option maxRecDepth 100000 in
set_option maxHeartbeats 8000000 in
theorem walk (a0 : Int) (a1 : Int) (a2 : Int) (a3 : Option Addr) (len3 cap3 : Nat) (z3 : List Int) (w : World) (w0 : (Lit.int .i64 a0).wf = true) (w1 : (Lit.int .i64 a1).wf = true) (w2 : (Lit.int .i64 a2).wf = true) (w3 : IsRow .u64 w a3 len3 cap3 z3) :
    Calls Try.prog 6 #[.int .i64 a0, .int .i64 a1, .int .i64 a2, .slice a3 len3 cap3] w fun e w' => e = .returned (.bool true) ∧ Below w.heap.size w w' := by
  have hr := row_of w a3 len3 cap3 z3 w3
  generalize (fun i => z3.getD i 0) = U at hr
  clear w0 w1 w2 w3
  obtain ⟨R, hR⟩ : ∃ R : Nat, (R : Int) = a0 % 8 := ⟨(a0 % 8).toNat, by omega⟩
  obtain ⟨C, hC⟩ : ∃ C : Nat, (C : Int) = a1 % 8 := ⟨(a1 % 8).toNat, by omega⟩
  obtain ⟨S, hS⟩ : ∃ S : Nat, (S : Int) = a1 % 8 + a2 % 4 := ⟨(a1 % 8 + a2 % 4).toNat, by omega⟩
  by_cases hl : 100 < len3
  · obtain ⟨h1, h2, hz, h4⟩ := hr
    have hl2 : (100 : Int) < (len3 : Int) := by omega
    clear hz h4 hR hC hS
    go_enter Try.func6, Try.ntmps6
    go_wp2_with fail
    refine (lHead9 _).mono ?_
    rintro e w1 ⟨rfl, hb1⟩
    go_wp2
    go_ret
    exact ⟨ret_eq rfl, hb1⟩
  · have hl2 : ¬ (100 : Int) < (len3 : Int) := by omega
    have hdl : decide ((100 : Int) < (len3 : Int)) = false := by simp; omega
    have HR : Hid (URow _ _ _ _ _) := hr
    have hR7 : R ≤ 7 := by omega
    have hC7 : C ≤ 7 := by omega
    have hS7 : S ≤ 10 := by omega
    have hCS : C ≤ S := by omega
    have hRC : R * C ≤ 49 := Nat.mul_le_mul hR7 hC7
    have hRS : R * S ≤ 70 := Nat.mul_le_mul hR7 hS7
    have PR : Hid ((R : Int) = a0 % 8) := hR
    have PC : Hid ((C : Int) = a1 % 8) := hC
    have PS : Hid ((S : Int) = a1 % 8 + a2 % 4) := hS
    clear hr hR hC hS
    go_enter Try.func6, Try.ntmps6
    go_wp2_with fail
    refine (lHead9 _).mono ?_
    rintro e w1 ⟨rfl, hb1⟩
    have B1 : Hid (Below w.heap.size w w1) := hb1
    clear hb1
    go_wp2_with fail
    refine (lMade a0 a1 a2 a3 len3 cap3 U R C S w1 PR.out PC.out PS.out (HR.out.below B1.out) (by omega)).mono ?_
    rintro e w2 ⟨g, xs, rfl, hg, hx, ⟨hxl, hxw, hxi⟩, hb2⟩
    obtain ⟨Z, hZ⟩ : ∃ Z : Nat → Int, Z = fun j => xs[j]?.getD 0 := ⟨_, rfl⟩
    have hu := hx.rowZ hxl (by omega) hxw
    rw [← hZ] at hu
    have UZ : Hid (URow w2 (some ⟨g, 0, none⟩) (R * S) (R * S) Z) := hu
    have ZB : Hid (∀ i, 0 ≤ Z i ∧ Z i < 18446744073709551616) := hu.2.2.1
    have LG : Hid (g < w2.heap.size) := hx.lt
    have BW : Hid (Below w.heap.size w w2) := bstep B1.out hb2
    have T2 : Hid (Rgt (R : Int) (C : Int) (S : Int) (R * S)) := loose R C S (by omega) hCS (by omega)
    obtain ⟨XF, hXF⟩ : ∃ X, X = flat Z C S := ⟨_, rfl⟩
    have HXF : Hid (XF = flat Z C S) := hXF
    have FX : Hid (∀ i k, k < C → XF (i * C + k) = Z (i * S + k)) := by rw [hXF]; exact fun i k hk => flat_at Z C S i k hk
    clear hb2 hx hxl hxw hxi hu hZ hg B1 HR hXF
    go_upto_region 6 with fail
    have m_ := MBox.made w2 (R : Int) (C : Int) (S : Int) (.slice (some ⟨g, 0, none⟩) (R * S) (R * S))
    have b_ : Below w2.heap.size w2 (w2.alloc (.cells #[.int .i64 (R : Int), .int .i64 (C : Int), .int .i64 (S : Int), .slice (some ⟨g, 0, none⟩) (R * S) (R * S)] 25)) := (Below.refl _ _).alloc (Nat.le_refl _) _
    obtain ⟨k_M, hk_M⟩ : ∃ k, k = w2.heap.size := ⟨_, rfl⟩
    have L_M : Hid (w.heap.size ≤ k_M) := by rw [hk_M]; exact BW.out.size
    have GM : Hid (g < k_M) := by have := LG.out; show _ < _; omega
    rw [← hk_M] at m_ ⊢
    generalize (w2.alloc (.cells #[.int .i64 (R : Int), .int .i64 (C : Int), .int .i64 (S : Int), .slice (some ⟨g, 0, none⟩) (R * S) (R * S)] 25)) = w1_ at m_ b_ ⊢
    replace BW : Hid (Below _ _ _) := bstep BW.out b_
    replace UZ : Hid (URow _ _ _ _ _) := UZ.out.below b_
    replace LG : Hid (_ < _) := Nat.lt_of_lt_of_le LG.out (Below.size b_)
    have M : Hid (MBox w1_ k_M (R : Int) (C : Int) (S : Int) (.slice (some ⟨g, 0, none⟩) (R * S) (R * S))) := m_
    clear m_ b_ hk_M
    have LM : Hid (k_M < w1_.heap.size) := M.out.2.2.2.2
    go_wp2_with fail
    have m0_ := BoxF.made w1_ (.bool false) (.slice none 0 0) (.int .i64 0) (.slice none 0 0) 44
    have b_ : Below w1_.heap.size w1_ (w1_.alloc (.cells #[.bool false, .slice none 0 0, .int .i64 0, .slice none 0 0] 44)) := bmore (Below.refl _ _) _
    obtain ⟨k_s, hk_s⟩ : ∃ k, k = w1_.heap.size := ⟨_, rfl⟩
    have L_s : Hid (w.heap.size ≤ k_s) := by rw [hk_s]; exact Nat.le_trans BW.out.size (by omega)
    have K_sM : Hid (k_s ≠ k_M) := by have := LM.out; show _ ≠ _; omega
    have LMS : Hid (k_M < k_s) := by have := LM.out; show _ < _; omega
    rw [← hk_s] at m0_ ⊢
    generalize (w1_.alloc (.cells #[.bool false, .slice none 0 0, .int .i64 0, .slice none 0 0] 44)) = w2_ at m0_ b_ ⊢
    replace BW : Hid (Below _ _ _) := bstep BW.out b_
    replace UZ : Hid (URow _ _ _ _ _) := UZ.out.below b_
    replace M : Hid (MBox _ _ _ _ _ _) := M.out.below b_
    replace LM : Hid (_ < _) := Nat.lt_of_lt_of_le LM.out (Below.size b_)
    have b_s : Hid (BoxF w2_ k_s (.bool false) (.slice none 0 0) (.int .i64 0) (.slice none 0 0)) := m0_
    clear b_ m0_ hk_s
    have K_sg : Hid (k_s ≠ g) := by have := GM.out; have := LMS.out; show _ ≠ _; omega
    obtain ⟨B0, hB0⟩ : ∃ B, B = w2_.heap.size := ⟨_, rfl⟩
    have KB_s : Hid (k_s < B0) := by rw [hB0]; exact b_s.out.2.2
    have ZB0 : Hid (B0 ≤ w2_.heap.size) := by show _ ≤ _; omega
    clear hB0 LM
    obtain ⟨M_0, M_1, M_2, M_3, M_4⟩ := M.out
    go_wp2_with fail
    clear M_0 M_1 M_2 M_3 M_4
    go_loopw [10, 12] (fun f i wr => ∃ (n : Nat) (fb : Bool) (s_n : Bool) (s_a : Option Addr) (s_m s_c : Nat) (s_p : Int), f = .bool fb ∧ i = .int .i64 (n : Int) ∧ n ≤ R ∧ Hid (MBox wr k_M (R : Int) (C : Int) (S : Int) (.slice (some ⟨g, 0, none⟩) (R * S) (R * S))) ∧ Hid (URow wr (some ⟨g, 0, none⟩) (R * S) (R * S) Z) ∧ Hid (BoxF wr k_s (.bool s_n) (.slice s_a s_m s_c) (.int .i64 s_p) (.slice none 0 0)) ∧ Hid (Tell wr B0 (.agg #[.bool s_n, .slice s_a s_m s_c, .int .i64 s_p, .slice none 0 0]) 34 (34 + (n * C + 0 : Nat)) (sumQ XF (n * C + 0))) ∧ Hid (Below w.heap.size w wr) ∧ Hid (B0 ≤ wr.heap.size) ∧ Hid (FinB fb XF (n * C + 0))) (fun _ i _ => R - (intOf i).toNat)
    case atStart => exact ⟨0, true, false, none, 0, 0, 0, rfl, rfl, Nat.zero_le _, M, UZ, b_s, (Tell.zero _ _ _ _ _ (by omega)).eq (by rw [Nat.zero_mul]; rfl), BW, ZB0, ⟨fun _ i h => by rw [Nat.zero_mul] at h; exact absurd h (Nat.not_lt_zero _), fun _ => rfl⟩⟩
    case round =>
      clear M UZ b_s BW ZB0
      obtain ⟨n, fb, s_n, s_a, s_m, s_c, s_p, rfl, rfl, hn_, M, UZ, b_s, t_s, BW, ZB0, FB⟩ := hrel
      obtain ⟨w3_, rfl⟩ : ∃ x, x = wr := ⟨wr, rfl⟩
      by_cases hlt : (n : Int) < (R : Int)
      · skip
        obtain ⟨M_0, M_1, M_2, M_3, M_4⟩ := M.out
        go_wp2_with fail
        clear M_0 M_1 M_2 M_3 M_4
        go_loopw [10, 13] (fun f i wr => ∃ (m : Nat) (fb : Bool) (s_n : Bool) (s_a : Option Addr) (s_m s_c : Nat) (s_p : Int), f = .bool fb ∧ i = .int .i64 (m : Int) ∧ m ≤ C ∧ Hid (MBox wr k_M (R : Int) (C : Int) (S : Int) (.slice (some ⟨g, 0, none⟩) (R * S) (R * S))) ∧ Hid (URow wr (some ⟨g, 0, none⟩) (R * S) (R * S) Z) ∧ Hid (BoxF wr k_s (.bool s_n) (.slice s_a s_m s_c) (.int .i64 s_p) (.slice none 0 0)) ∧ Hid (Tell wr B0 (.agg #[.bool s_n, .slice s_a s_m s_c, .int .i64 s_p, .slice none 0 0]) 34 (34 + (n * C + m : Nat)) (sumQ XF (n * C + m))) ∧ Hid (Below w.heap.size w wr) ∧ Hid (B0 ≤ wr.heap.size) ∧ Hid (FinB fb XF (n * C + m))) (fun _ i _ => C - (intOf i).toNat)
        case atStart => exact ⟨0, fb, _, _, _, _, _, rfl, rfl, Nat.zero_le _, M, UZ, b_s, t_s, BW, ZB0, FB⟩
        case round =>
          clear M UZ b_s t_s BW ZB0 FB
          obtain ⟨m, fb, s_n, s_a, s_m, s_c, s_p, rfl, rfl, hm_, M, UZ, b_s, t_s, BW, ZB0, FB⟩ := hrel
          obtain ⟨w4_, rfl⟩ : ∃ x, x = wr := ⟨wr, rfl⟩
          by_cases hlt2 : (m : Int) < (C : Int)
          · skip
            have FXm := FX.out n m (by omega)
            obtain ⟨x0, x1⟩ := ZB.out (n * S + m)
            obtain ⟨x, hxx⟩ : ∃ x, Z (n * S + m) = x := ⟨_, rfl⟩
            rw [hxx] at x0 x1 FXm
            have HZX : Hid (Z (n * S + m) = x) := hxx
            have HXX : Hid (XF (n * C + m) = x) := FXm
            clear hxx FXm
            obtain ⟨NC, hNC⟩ : ∃ N : Nat, n * C + m = N := ⟨_, rfl⟩
            have hN1 : NC + 1 ≤ R * C := by rw [← hNC]; exact row_lt C n m R (by omega) (by omega)
            rw [hNC] at t_s HXX FB
            have HNC : Hid (n * C + m = NC) := hNC
            clear hNC
            obtain ⟨M_0, M_1, M_2, M_3, M_4⟩ := M.out
            go_wp2_with fail
            refine (mAtN R C S _ _ _ Z n m _ T2.out UZ.out (by omega) (by omega)).mono ?_
            rintro e w5_ ⟨rfl, hb5_⟩
            rw [HZX.out]
            clear M_0 M_1 M_2 M_3 M_4
            replace BW : Hid (Below _ _ _) := bstep BW.out hb5_
            replace UZ : Hid (URow _ _ _ _ _) := UZ.out.below hb5_
            replace M : Hid (MBox _ _ _ _ _ _) := M.out.below hb5_
            replace b_s : Hid (BoxF _ _ _ _ _ _) := b_s.out.below hb5_
            replace t_s : Hid (Tell _ _ _ _ _ _) := t_s.out.below hb5_
            replace ZB0 : Hid (_ ≤ _) := Nat.le_trans ZB0.out (Below.size hb5_)
            clear hb5_
            go_wp2_with fail
            refine (dOf x _ x0 x1).mono ?_
            rintro e w6_ ⟨d_v, rfl, ht_, hb_⟩
            obtain ⟨d_n, d_a, d_m, d_c, d_p, rfl, ht2_⟩ := ht_.numform
            replace ht2_ := ht2_.base (b' := B0) ZB0.out
            clear ht_
            replace BW : Hid (Below _ _ _) := bstep BW.out hb_
            replace UZ : Hid (URow _ _ _ _ _) := UZ.out.below hb_
            replace M : Hid (MBox _ _ _ _ _ _) := M.out.below hb_
            replace b_s : Hid (BoxF _ _ _ _ _ _) := b_s.out.below hb_
            replace t_s : Hid (Tell _ _ _ _ _ _) := t_s.out.below hb_
            replace ZB0 : Hid (_ ≤ _) := Nat.le_trans ZB0.out (Below.size hb_)
            clear hb_
            go_upto_region 15 with fail
            have mB_ := BoxF.made w6_ (.bool d_n) (.slice d_a d_m d_c) (.int .i64 d_p) (.slice none 0 0) 44
            have tB_ := ht2_.alloc (.cells #[.bool d_n, .slice d_a d_m d_c, .int .i64 d_p, .slice none 0 0] 44)
            have b_ := bmore (Below.refl w6_.heap.size w6_) (.cells #[.bool d_n, .slice d_a d_m d_c, .int .i64 d_p, .slice none 0 0] 44)
            clear ht2_
            generalize (w6_.alloc (.cells #[.bool d_n, .slice d_a d_m d_c, .int .i64 d_p, .slice none 0 0] 44)) = w7_ at mB_ b_ tB_ ⊢
            obtain ⟨k_d, hk_d⟩ : ∃ k, k = w6_.heap.size := ⟨_, rfl⟩
            have N_sd : Hid (k_s ≠ k_d) := by have := b_s.out.2.2; show _ ≠ _; omega
            rw [← hk_d] at mB_ ⊢
            replace BW : Hid (Below _ _ _) := bstep BW.out b_
            replace UZ : Hid (URow _ _ _ _ _) := UZ.out.below b_
            replace M : Hid (MBox _ _ _ _ _ _) := M.out.below b_
            replace b_s : Hid (BoxF _ _ _ _ _ _) := b_s.out.below b_
            replace t_s : Hid (Tell _ _ _ _ _ _) := t_s.out.below b_
            replace ZB0 : Hid (_ ≤ _) := Nat.le_trans ZB0.out (Below.size b_)
            have b_d : Hid (BoxF w7_ k_d (.bool d_n) (.slice d_a d_m d_c) (.int .i64 d_p) (.slice none 0 0)) := mB_
            have t_d : Hid (Tell w7_ B0 (.agg #[.bool d_n, .slice d_a d_m d_c, .int .i64 d_p, .slice none 0 0]) 17 17 (xv x)) := tB_
            clear mB_ b_ tB_ hk_d
            by_cases fnx : mag x < 9218868437227405312
            · have hdx : decide (mag x < 9218868437227405312) = true := decide_eq_true fnx
              have FNX : Hid (mag x < 9218868437227405312) := fnx
              clear fnx
              cases fb
              · skip
                have FB2 : Hid (FinB false XF (n * C + (m + 1))) := by
                  rw [← Nat.add_assoc, HNC.out]
                  exact ⟨fun h => absurd h (by decide), fun h => FB.out.2 (fun i hi => h i (by omega))⟩
                clear FB FNX
                obtain ⟨⟨b_s_0, b_s_1, b_s_2, b_s_3⟩, ⟨b_s_5, b_s_6, b_s_7, b_s_8⟩, b_s_4⟩ := b_s.out
                obtain ⟨⟨b_d_0, b_d_1, b_d_2, b_d_3⟩, ⟨b_d_5, b_d_6, b_d_7, b_d_8⟩, b_d_4⟩ := b_d.out
                go_wp2_with fail
                clear b_s_0 b_s_1 b_s_2 b_s_3 b_s_4 b_s_5 b_s_6 b_s_7 b_s_8 b_d_0 b_d_1 b_d_2 b_d_3 b_d_4 b_d_5 b_d_6 b_d_7 b_d_8
                have HBa : Hid (Below w7_.heap.size w7_ w7_.drew) := (Below.refl _ _).drew
                have hfz_ := fun (w' : World) (h : Below w7_.heap.size w7_ w') => b_s.out.below h
                refine wp_region_noPanic ?_
                refine AnyT.start (T := (fun w' => (w'.cell? ⟨k_s, 0, none⟩ = some (.bool s_n) ∧ w'.cell? ⟨k_s, 1, none⟩ = some (.slice s_a s_m s_c) ∧ w'.cell? ⟨k_s, 2, none⟩ = some (.int .i64 s_p) ∧ w'.cell? ⟨k_s, 3, none⟩ = some (.slice none 0 0)) ∧ (w'.cell? ⟨k_d, 0, none⟩ = some (.bool d_n) ∧ w'.cell? ⟨k_d, 1, none⟩ = some (.slice d_a d_m d_c) ∧ w'.cell? ⟨k_d, 2, none⟩ = some (.int .i64 d_p) ∧ w'.cell? ⟨k_d, 3, none⟩ = some (.slice none 0 0)))) (z := 5) (by kernel_rfl) ?_
                have hHeld0 := (⟨b_s.out.drew.cells, b_d.out.drew.cells⟩ : (fun w' => (w'.cell? ⟨k_s, 0, none⟩ = some (.bool s_n) ∧ w'.cell? ⟨k_s, 1, none⟩ = some (.slice s_a s_m s_c) ∧ w'.cell? ⟨k_s, 2, none⟩ = some (.int .i64 s_p) ∧ w'.cell? ⟨k_s, 3, none⟩ = some (.slice none 0 0)) ∧ (w'.cell? ⟨k_d, 0, none⟩ = some (.bool d_n) ∧ w'.cell? ⟨k_d, 1, none⟩ = some (.slice d_a d_m d_c) ∧ w'.cell? ⟨k_d, 2, none⟩ = some (.int .i64 d_p) ∧ w'.cell? ⟨k_d, 3, none⟩ = some (.slice none 0 0))) w7_.drew)
                refine AnyT.take (i := 0) (oi := ({ dst := some 60, op := Op.load _ (Operand.tmp 11), type := _, pos := _, after := _, guard := none } : Oper)) (v := ?_) rfl (by kernel_rfl) (by kernel_rfl) (by kernel_rfl) (by kernel_rfl) (fun _ _ _ h => h) (Or.inl ⟨by rfl, ?_⟩) hHeld0 ?_
                rotate_left
                · intro w' hSw; (try dsimp only at hSw); go_simp <;> (try with_reducible rfl)
                (try simp only [Act.put, List.setIfInBounds_toArray, List.set_cons_zero, List.set_cons_succ])
                refine AnyT.take (i := 1) (oi := ({ dst := some 61, op := Op.load _ (Operand.tmp 14), type := _, pos := _, after := _, guard := none } : Oper)) (v := ?_) rfl (by kernel_rfl) (by kernel_rfl) (by kernel_rfl) (by kernel_rfl) (fun _ _ _ h => h) (Or.inl ⟨by rfl, ?_⟩) hHeld0 ?_
                rotate_left
                · intro w' hSw; (try dsimp only at hSw); go_simp <;> (try with_reducible rfl)
                (try simp only [Act.put, List.setIfInBounds_toArray, List.set_cons_zero, List.set_cons_succ])
                refine AnyT.take (i := 2) (oi := ({ dst := some 62, op := Op.load _ (Operand.tmp 14), type := _, pos := _, after := _, guard := none } : Oper)) (v := ?_) rfl (by kernel_rfl) (by kernel_rfl) (by kernel_rfl) (by kernel_rfl) (fun _ _ _ h => h) (Or.inl ⟨by rfl, ?_⟩) hHeld0 ?_
                rotate_left
                · intro w' hSw; (try dsimp only at hSw); go_simp <;> (try with_reducible rfl)
                (try simp only [Act.put, List.setIfInBounds_toArray, List.set_cons_zero, List.set_cons_succ])
                refine AnyT.one (i := 3) (o := ({ dst := some 63, op := Op.call { callee := Callee.value (Operand.func _), args := #[Operand.tmp 61, Operand.tmp 62], argTypes := _ }, type := _, pos := _, after := _, guard := none } : Oper)) (by kernel_rfl) rfl (fun K hK => ?_)
                go_simp
                refine (dMul _ _ _ B0 17 17 17 17 _ _ (t_d.out.below HBa.out) (t_d.out.below HBa.out) (by omega) (by omega) (by omega) (by omega) (by omega) (by omega)).mono ?_
                rintro e Wq0_ ⟨r1x0_v, rfl, ht_, hb_⟩
                obtain ⟨r1x0_n, r1x0_a, r1x0_m, r1x0_c, r1x0_p, rfl, ht2_⟩ := ht_.numform
                clear ht_
                have t_r1x0 : Hid (Tell Wq0_ B0 (.agg #[.bool r1x0_n, .slice r1x0_a r1x0_m r1x0_c, .int .i64 r1x0_p, .slice none 0 0]) 34 34 (xv x * xv x)) := ht2_.base (by have := ZB0.out; have := Below.size HBa.out; show B0 ≤ _; omega)
                clear ht2_
                replace HBa : Hid (Below w7_.heap.size w7_ Wq0_) := bstep HBa.out hb_
                clear hb_
                (try go_wp2_with fail)
                refine hK.out _ _ (fun _ => ⟨(b_s.out.below HBa.out).cells, (b_d.out.below HBa.out).cells⟩) (fun hHeld1 => ?_)
                replace hHeld0 := hHeld1 (by decide)
                clear hK K hHeld1
                (try simp only [Act.put, List.setIfInBounds_toArray, List.set_cons_zero, List.set_cons_succ])
                refine AnyT.one (i := 4) (o := ({ dst := some 64, op := Op.call { callee := Callee.value (Operand.func _), args := #[Operand.tmp 60, Operand.tmp 63], argTypes := _ }, type := _, pos := _, after := _, guard := none } : Oper)) (by kernel_rfl) rfl (fun K hK => ?_)
                go_simp
                refine (dAdd _ _ _ B0 34 (34 + (NC : Int)) _ _ (t_s.out.below HBa.out) ((t_r1x0.out).wide (34 + (NC : Int)) (by omega)) (by omega) (by omega) (by omega)).mono ?_
                rintro e Wq1_ ⟨r1x1_v, rfl, ht_, hb_⟩
                obtain ⟨r1x1_n, r1x1_a, r1x1_m, r1x1_c, r1x1_p, rfl, ht2_⟩ := ht_.numform
                clear ht_
                have t_r1x1 : Hid (Tell Wq1_ B0 (.agg #[.bool r1x1_n, .slice r1x1_a r1x1_m r1x1_c, .int .i64 r1x1_p, .slice none 0 0]) 34 (34 + (NC : Int) + 1) (sumQ XF NC + xv x * xv x)) := ht2_.base (by have := ZB0.out; have := Below.size HBa.out; show B0 ≤ _; omega)
                clear ht2_
                replace t_r1x0 : Hid (Tell _ _ _ _ _ _) := t_r1x0.out.below hb_
                replace HBa : Hid (Below w7_.heap.size w7_ Wq1_) := bstep HBa.out hb_
                clear hb_
                (try go_wp2_with fail)
                refine hK.out _ _ (fun _ => ⟨(b_s.out.below HBa.out).cells, (b_d.out.below HBa.out).cells⟩) (fun hHeld1 => ?_)
                replace hHeld0 := hHeld1 (by decide)
                clear hK K hHeld1
                (try simp only [Act.put, List.setIfInBounds_toArray, List.set_cons_zero, List.set_cons_succ])
                refine AnyT.one (i := 5) (o := ({ dst := none, op := Op.store _ (Operand.tmp 11) (Operand.tmp 64), type := _, pos := _, after := _, guard := none } : Oper)) (by kernel_rfl) rfl (fun K hK => ?_)
                clear hHeld0
                obtain ⟨⟨z0_, z1_, z2_, z3_⟩, ⟨z5_, z6_, z7_, z8_⟩, z4_⟩ := hfz_ _ HBa.out
                go_simp
                refine hK.out _ _ (fun h => absurd rfl h) (fun _ => ?_)
                clear hK K
                (try simp only [Act.put, List.setIfInBounds_toArray, List.set_cons_zero, List.set_cons_succ])
                refine AnyT.done (by kernel_rfl) ?_
                refine NoPanic.normal ?_
                have bs_ := bes_puts Wq1_ k_s (.bool r1x1_n) (.slice r1x1_a r1x1_m r1x1_c) (.int .i64 r1x1_p) (.slice none 0 0)
                have mB_ := (b_s.out.below HBa.out).put (.bool r1x1_n) (.slice r1x1_a r1x1_m r1x1_c) (.int .i64 r1x1_p) (.slice none 0 0)
                have tB_ := t_r1x1.out.put (b := k_s) KB_s.out (.bool r1x1_n) (.slice r1x1_a r1x1_m r1x1_c) (.int .i64 r1x1_p) (.slice none 0 0)
                clear z0_ z1_ z2_ z3_ z4_ z5_ z6_ z7_ z8_ hfz_
                replace BW : Hid (Below _ _ _) := bstep BW.out HBa.out
                replace UZ : Hid (URow _ _ _ _ _) := UZ.out.below HBa.out
                replace M : Hid (MBox _ _ _ _ _ _) := M.out.below HBa.out
                replace b_s : Hid (BoxF _ _ _ _ _ _) := b_s.out.below HBa.out
                replace t_s : Hid (Tell _ _ _ _ _ _) := t_s.out.below HBa.out
                replace ZB0 : Hid (_ ≤ _) := Nat.le_trans ZB0.out (Below.size HBa.out)
                replace b_d : Hid (BoxF _ _ _ _ _ _) := b_d.out.below HBa.out
                replace t_d : Hid (Tell _ _ _ _ _ _) := t_d.out.below HBa.out
                replace BW : Hid (Below _ _ _) := Bes.old BW.out bs_ L_s.out
                replace UZ : Hid (URow _ _ _ _ _) := UZ.out.puts (Apt.ne K_sg.out) (.bool r1x1_n) (.slice r1x1_a r1x1_m r1x1_c) (.int .i64 r1x1_p) (.slice none 0 0)
                replace M : Hid (MBox _ _ _ _ _ _) := M.out.bes bs_ (ne_some K_sM.out)
                replace ZB0 : Hid (_ ≤ _) := Nat.le_trans ZB0.out (Bes.size bs_)
                replace b_d : Hid (BoxF _ _ _ _ _ _) := b_d.out.puts N_sd.out (.bool r1x1_n) (.slice r1x1_a r1x1_m r1x1_c) (.int .i64 r1x1_p) (.slice none 0 0)
                replace t_d : Hid (Tell _ _ _ _ _ _) := t_d.out.put (b := k_s) KB_s.out (.bool r1x1_n) (.slice r1x1_a r1x1_m r1x1_c) (.int .i64 r1x1_p) (.slice none 0 0)
                replace b_s : Hid (BoxF _ _ _ _ _ _) := mB_
                replace t_s : Hid (Tell _ B0 (.agg #[.bool r1x1_n, .slice r1x1_a r1x1_m r1x1_c, .int .i64 r1x1_p, .slice none 0 0]) 34 (34 + (NC : Int) + 1) (sumQ XF NC + xv x * xv x)) := tB_
                clear mB_ tB_ bs_ HBa t_r1x0 t_r1x1
                generalize ((((Wq1_.setCell ⟨k_s, 0, none⟩ (.bool r1x1_n)).setCell ⟨k_s, 1, none⟩ (.slice r1x1_a r1x1_m r1x1_c)).setCell ⟨k_s, 2, none⟩ (.int .i64 r1x1_p)).setCell ⟨k_s, 3, none⟩ (.slice none 0 0)) = w8_ at BW UZ M b_s t_s ZB0 b_d t_d ⊢
                have ES : sumQ XF NC + xv x * xv x = sumQ XF (n * C + (m + 1)) := by
                  rw [← Nat.add_assoc, HNC.out]
                  show _ = sumQ XF NC + xv (XF NC) * xv (XF NC)
                  rw [HXX.out]
                have TS : Hid (Tell _ _ _ 34 (34 + ((n * C + (m + 1) : Nat) : Int)) (sumQ XF (n * C + (m + 1)))) := (t_s.out.wide _ (by have := HNC.out; omega)).eq ES
                clear ES t_s t_d b_d
                go_wp2
                go_roundw
                case rel => exact ⟨m + 1, false, _, _, _, _, _, rfl, by go_num, by omega, M, UZ, b_s, TS, BW, ZB0, FB2⟩
                case measure => simp [intOf]; omega
              · skip
                have FB2 : Hid (FinB true XF (n * C + (m + 1))) := by
                  rw [← Nat.add_assoc, HNC.out]
                  exact ⟨fun _ i hi => by rcases Nat.lt_or_ge i NC with g | g; exact FB.out.1 rfl i g; obtain rfl : i = NC := (by omega); rw [HXX.out]; exact FNX.out, fun _ => rfl⟩
                clear FB FNX
                obtain ⟨⟨b_s_0, b_s_1, b_s_2, b_s_3⟩, ⟨b_s_5, b_s_6, b_s_7, b_s_8⟩, b_s_4⟩ := b_s.out
                obtain ⟨⟨b_d_0, b_d_1, b_d_2, b_d_3⟩, ⟨b_d_5, b_d_6, b_d_7, b_d_8⟩, b_d_4⟩ := b_d.out
                go_wp2_with fail
                clear b_s_0 b_s_1 b_s_2 b_s_3 b_s_4 b_s_5 b_s_6 b_s_7 b_s_8 b_d_0 b_d_1 b_d_2 b_d_3 b_d_4 b_d_5 b_d_6 b_d_7 b_d_8
                have HBa : Hid (Below w7_.heap.size w7_ w7_.drew) := (Below.refl _ _).drew
                have hfz_ := fun (w' : World) (h : Below w7_.heap.size w7_ w') => b_s.out.below h
                refine wp_region_noPanic ?_
                refine AnyT.start (T := (fun w' => (w'.cell? ⟨k_s, 0, none⟩ = some (.bool s_n) ∧ w'.cell? ⟨k_s, 1, none⟩ = some (.slice s_a s_m s_c) ∧ w'.cell? ⟨k_s, 2, none⟩ = some (.int .i64 s_p) ∧ w'.cell? ⟨k_s, 3, none⟩ = some (.slice none 0 0)) ∧ (w'.cell? ⟨k_d, 0, none⟩ = some (.bool d_n) ∧ w'.cell? ⟨k_d, 1, none⟩ = some (.slice d_a d_m d_c) ∧ w'.cell? ⟨k_d, 2, none⟩ = some (.int .i64 d_p) ∧ w'.cell? ⟨k_d, 3, none⟩ = some (.slice none 0 0)))) (z := 5) (by kernel_rfl) ?_
                have hHeld0 := (⟨b_s.out.drew.cells, b_d.out.drew.cells⟩ : (fun w' => (w'.cell? ⟨k_s, 0, none⟩ = some (.bool s_n) ∧ w'.cell? ⟨k_s, 1, none⟩ = some (.slice s_a s_m s_c) ∧ w'.cell? ⟨k_s, 2, none⟩ = some (.int .i64 s_p) ∧ w'.cell? ⟨k_s, 3, none⟩ = some (.slice none 0 0)) ∧ (w'.cell? ⟨k_d, 0, none⟩ = some (.bool d_n) ∧ w'.cell? ⟨k_d, 1, none⟩ = some (.slice d_a d_m d_c) ∧ w'.cell? ⟨k_d, 2, none⟩ = some (.int .i64 d_p) ∧ w'.cell? ⟨k_d, 3, none⟩ = some (.slice none 0 0))) w7_.drew)
                refine AnyT.take (i := 0) (oi := ({ dst := some 60, op := Op.load _ (Operand.tmp 11), type := _, pos := _, after := _, guard := none } : Oper)) (v := ?_) rfl (by kernel_rfl) (by kernel_rfl) (by kernel_rfl) (by kernel_rfl) (fun _ _ _ h => h) (Or.inl ⟨by rfl, ?_⟩) hHeld0 ?_
                rotate_left
                · intro w' hSw; (try dsimp only at hSw); go_simp <;> (try with_reducible rfl)
                (try simp only [Act.put, List.setIfInBounds_toArray, List.set_cons_zero, List.set_cons_succ])
                refine AnyT.take (i := 1) (oi := ({ dst := some 61, op := Op.load _ (Operand.tmp 14), type := _, pos := _, after := _, guard := none } : Oper)) (v := ?_) rfl (by kernel_rfl) (by kernel_rfl) (by kernel_rfl) (by kernel_rfl) (fun _ _ _ h => h) (Or.inl ⟨by rfl, ?_⟩) hHeld0 ?_
                rotate_left
                · intro w' hSw; (try dsimp only at hSw); go_simp <;> (try with_reducible rfl)
                (try simp only [Act.put, List.setIfInBounds_toArray, List.set_cons_zero, List.set_cons_succ])
                refine AnyT.take (i := 2) (oi := ({ dst := some 62, op := Op.load _ (Operand.tmp 14), type := _, pos := _, after := _, guard := none } : Oper)) (v := ?_) rfl (by kernel_rfl) (by kernel_rfl) (by kernel_rfl) (by kernel_rfl) (fun _ _ _ h => h) (Or.inl ⟨by rfl, ?_⟩) hHeld0 ?_
                rotate_left
                · intro w' hSw; (try dsimp only at hSw); go_simp <;> (try with_reducible rfl)
                (try simp only [Act.put, List.setIfInBounds_toArray, List.set_cons_zero, List.set_cons_succ])
                refine AnyT.one (i := 3) (o := ({ dst := some 63, op := Op.call { callee := Callee.value (Operand.func _), args := #[Operand.tmp 61, Operand.tmp 62], argTypes := _ }, type := _, pos := _, after := _, guard := none } : Oper)) (by kernel_rfl) rfl (fun K hK => ?_)
                go_simp
                refine (dMul _ _ _ B0 17 17 17 17 _ _ (t_d.out.below HBa.out) (t_d.out.below HBa.out) (by omega) (by omega) (by omega) (by omega) (by omega) (by omega)).mono ?_
                rintro e Wq0_ ⟨r1x0_v, rfl, ht_, hb_⟩
                obtain ⟨r1x0_n, r1x0_a, r1x0_m, r1x0_c, r1x0_p, rfl, ht2_⟩ := ht_.numform
                clear ht_
                have t_r1x0 : Hid (Tell Wq0_ B0 (.agg #[.bool r1x0_n, .slice r1x0_a r1x0_m r1x0_c, .int .i64 r1x0_p, .slice none 0 0]) 34 34 (xv x * xv x)) := ht2_.base (by have := ZB0.out; have := Below.size HBa.out; show B0 ≤ _; omega)
                clear ht2_
                replace HBa : Hid (Below w7_.heap.size w7_ Wq0_) := bstep HBa.out hb_
                clear hb_
                (try go_wp2_with fail)
                refine hK.out _ _ (fun _ => ⟨(b_s.out.below HBa.out).cells, (b_d.out.below HBa.out).cells⟩) (fun hHeld1 => ?_)
                replace hHeld0 := hHeld1 (by decide)
                clear hK K hHeld1
                (try simp only [Act.put, List.setIfInBounds_toArray, List.set_cons_zero, List.set_cons_succ])
                refine AnyT.one (i := 4) (o := ({ dst := some 64, op := Op.call { callee := Callee.value (Operand.func _), args := #[Operand.tmp 60, Operand.tmp 63], argTypes := _ }, type := _, pos := _, after := _, guard := none } : Oper)) (by kernel_rfl) rfl (fun K hK => ?_)
                go_simp
                refine (dAdd _ _ _ B0 34 (34 + (NC : Int)) _ _ (t_s.out.below HBa.out) ((t_r1x0.out).wide (34 + (NC : Int)) (by omega)) (by omega) (by omega) (by omega)).mono ?_
                rintro e Wq1_ ⟨r1x1_v, rfl, ht_, hb_⟩
                obtain ⟨r1x1_n, r1x1_a, r1x1_m, r1x1_c, r1x1_p, rfl, ht2_⟩ := ht_.numform
                clear ht_
                have t_r1x1 : Hid (Tell Wq1_ B0 (.agg #[.bool r1x1_n, .slice r1x1_a r1x1_m r1x1_c, .int .i64 r1x1_p, .slice none 0 0]) 34 (34 + (NC : Int) + 1) (sumQ XF NC + xv x * xv x)) := ht2_.base (by have := ZB0.out; have := Below.size HBa.out; show B0 ≤ _; omega)
                clear ht2_
                replace t_r1x0 : Hid (Tell _ _ _ _ _ _) := t_r1x0.out.below hb_
                replace HBa : Hid (Below w7_.heap.size w7_ Wq1_) := bstep HBa.out hb_
                clear hb_
                (try go_wp2_with fail)
                refine hK.out _ _ (fun _ => ⟨(b_s.out.below HBa.out).cells, (b_d.out.below HBa.out).cells⟩) (fun hHeld1 => ?_)
                replace hHeld0 := hHeld1 (by decide)
                clear hK K hHeld1
                (try simp only [Act.put, List.setIfInBounds_toArray, List.set_cons_zero, List.set_cons_succ])
                refine AnyT.one (i := 5) (o := ({ dst := none, op := Op.store _ (Operand.tmp 11) (Operand.tmp 64), type := _, pos := _, after := _, guard := none } : Oper)) (by kernel_rfl) rfl (fun K hK => ?_)
                clear hHeld0
                obtain ⟨⟨z0_, z1_, z2_, z3_⟩, ⟨z5_, z6_, z7_, z8_⟩, z4_⟩ := hfz_ _ HBa.out
                go_simp
                refine hK.out _ _ (fun h => absurd rfl h) (fun _ => ?_)
                clear hK K
                (try simp only [Act.put, List.setIfInBounds_toArray, List.set_cons_zero, List.set_cons_succ])
                refine AnyT.done (by kernel_rfl) ?_
                refine NoPanic.normal ?_
                have bs_ := bes_puts Wq1_ k_s (.bool r1x1_n) (.slice r1x1_a r1x1_m r1x1_c) (.int .i64 r1x1_p) (.slice none 0 0)
                have mB_ := (b_s.out.below HBa.out).put (.bool r1x1_n) (.slice r1x1_a r1x1_m r1x1_c) (.int .i64 r1x1_p) (.slice none 0 0)
                have tB_ := t_r1x1.out.put (b := k_s) KB_s.out (.bool r1x1_n) (.slice r1x1_a r1x1_m r1x1_c) (.int .i64 r1x1_p) (.slice none 0 0)
                clear z0_ z1_ z2_ z3_ z4_ z5_ z6_ z7_ z8_ hfz_
                replace BW : Hid (Below _ _ _) := bstep BW.out HBa.out
                replace UZ : Hid (URow _ _ _ _ _) := UZ.out.below HBa.out
                replace M : Hid (MBox _ _ _ _ _ _) := M.out.below HBa.out
                replace b_s : Hid (BoxF _ _ _ _ _ _) := b_s.out.below HBa.out
                replace t_s : Hid (Tell _ _ _ _ _ _) := t_s.out.below HBa.out
                replace ZB0 : Hid (_ ≤ _) := Nat.le_trans ZB0.out (Below.size HBa.out)
                replace b_d : Hid (BoxF _ _ _ _ _ _) := b_d.out.below HBa.out
                replace t_d : Hid (Tell _ _ _ _ _ _) := t_d.out.below HBa.out
                replace BW : Hid (Below _ _ _) := Bes.old BW.out bs_ L_s.out
                replace UZ : Hid (URow _ _ _ _ _) := UZ.out.puts (Apt.ne K_sg.out) (.bool r1x1_n) (.slice r1x1_a r1x1_m r1x1_c) (.int .i64 r1x1_p) (.slice none 0 0)
                replace M : Hid (MBox _ _ _ _ _ _) := M.out.bes bs_ (ne_some K_sM.out)
                replace ZB0 : Hid (_ ≤ _) := Nat.le_trans ZB0.out (Bes.size bs_)
                replace b_d : Hid (BoxF _ _ _ _ _ _) := b_d.out.puts N_sd.out (.bool r1x1_n) (.slice r1x1_a r1x1_m r1x1_c) (.int .i64 r1x1_p) (.slice none 0 0)
                replace t_d : Hid (Tell _ _ _ _ _ _) := t_d.out.put (b := k_s) KB_s.out (.bool r1x1_n) (.slice r1x1_a r1x1_m r1x1_c) (.int .i64 r1x1_p) (.slice none 0 0)
                replace b_s : Hid (BoxF _ _ _ _ _ _) := mB_
                replace t_s : Hid (Tell _ B0 (.agg #[.bool r1x1_n, .slice r1x1_a r1x1_m r1x1_c, .int .i64 r1x1_p, .slice none 0 0]) 34 (34 + (NC : Int) + 1) (sumQ XF NC + xv x * xv x)) := tB_
                clear mB_ tB_ bs_ HBa t_r1x0 t_r1x1
                generalize ((((Wq1_.setCell ⟨k_s, 0, none⟩ (.bool r1x1_n)).setCell ⟨k_s, 1, none⟩ (.slice r1x1_a r1x1_m r1x1_c)).setCell ⟨k_s, 2, none⟩ (.int .i64 r1x1_p)).setCell ⟨k_s, 3, none⟩ (.slice none 0 0)) = w8_ at BW UZ M b_s t_s ZB0 b_d t_d ⊢
                have ES : sumQ XF NC + xv x * xv x = sumQ XF (n * C + (m + 1)) := by
                  rw [← Nat.add_assoc, HNC.out]
                  show _ = sumQ XF NC + xv (XF NC) * xv (XF NC)
                  rw [HXX.out]
                have TS : Hid (Tell _ _ _ 34 (34 + ((n * C + (m + 1) : Nat) : Int)) (sumQ XF (n * C + (m + 1)))) := (t_s.out.wide _ (by have := HNC.out; omega)).eq ES
                clear ES t_s t_d b_d
                go_wp2
                go_roundw
                case rel => exact ⟨m + 1, true, _, _, _, _, _, rfl, by go_num, by omega, M, UZ, b_s, TS, BW, ZB0, FB2⟩
                case measure => simp [intOf]; omega
            · have hdx : decide (mag x < 9218868437227405312) = false := decide_eq_false fnx
              have FNX : Hid (¬ mag x < 9218868437227405312) := fnx
              clear fnx
              cases fb
              · skip
                have FB2 : Hid (FinB false XF (n * C + (m + 1))) := by
                  rw [← Nat.add_assoc, HNC.out]
                  exact ⟨fun h => absurd h (by decide), fun h => absurd (by have := h NC (by omega); rw [HXX.out] at this; exact this) FNX.out⟩
                clear FB FNX
                obtain ⟨⟨b_s_0, b_s_1, b_s_2, b_s_3⟩, ⟨b_s_5, b_s_6, b_s_7, b_s_8⟩, b_s_4⟩ := b_s.out
                obtain ⟨⟨b_d_0, b_d_1, b_d_2, b_d_3⟩, ⟨b_d_5, b_d_6, b_d_7, b_d_8⟩, b_d_4⟩ := b_d.out
                go_wp2_with fail
                clear b_s_0 b_s_1 b_s_2 b_s_3 b_s_4 b_s_5 b_s_6 b_s_7 b_s_8 b_d_0 b_d_1 b_d_2 b_d_3 b_d_4 b_d_5 b_d_6 b_d_7 b_d_8
                have HBa : Hid (Below w7_.heap.size w7_ w7_.drew) := (Below.refl _ _).drew
                have hfz_ := fun (w' : World) (h : Below w7_.heap.size w7_ w') => b_s.out.below h
                refine wp_region_noPanic ?_
                refine AnyT.start (T := (fun w' => (w'.cell? ⟨k_s, 0, none⟩ = some (.bool s_n) ∧ w'.cell? ⟨k_s, 1, none⟩ = some (.slice s_a s_m s_c) ∧ w'.cell? ⟨k_s, 2, none⟩ = some (.int .i64 s_p) ∧ w'.cell? ⟨k_s, 3, none⟩ = some (.slice none 0 0)) ∧ (w'.cell? ⟨k_d, 0, none⟩ = some (.bool d_n) ∧ w'.cell? ⟨k_d, 1, none⟩ = some (.slice d_a d_m d_c) ∧ w'.cell? ⟨k_d, 2, none⟩ = some (.int .i64 d_p) ∧ w'.cell? ⟨k_d, 3, none⟩ = some (.slice none 0 0)))) (z := 5) (by kernel_rfl) ?_
                have hHeld0 := (⟨b_s.out.drew.cells, b_d.out.drew.cells⟩ : (fun w' => (w'.cell? ⟨k_s, 0, none⟩ = some (.bool s_n) ∧ w'.cell? ⟨k_s, 1, none⟩ = some (.slice s_a s_m s_c) ∧ w'.cell? ⟨k_s, 2, none⟩ = some (.int .i64 s_p) ∧ w'.cell? ⟨k_s, 3, none⟩ = some (.slice none 0 0)) ∧ (w'.cell? ⟨k_d, 0, none⟩ = some (.bool d_n) ∧ w'.cell? ⟨k_d, 1, none⟩ = some (.slice d_a d_m d_c) ∧ w'.cell? ⟨k_d, 2, none⟩ = some (.int .i64 d_p) ∧ w'.cell? ⟨k_d, 3, none⟩ = some (.slice none 0 0))) w7_.drew)
                refine AnyT.take (i := 0) (oi := ({ dst := some 60, op := Op.load _ (Operand.tmp 11), type := _, pos := _, after := _, guard := none } : Oper)) (v := ?_) rfl (by kernel_rfl) (by kernel_rfl) (by kernel_rfl) (by kernel_rfl) (fun _ _ _ h => h) (Or.inl ⟨by rfl, ?_⟩) hHeld0 ?_
                rotate_left
                · intro w' hSw; (try dsimp only at hSw); go_simp <;> (try with_reducible rfl)
                (try simp only [Act.put, List.setIfInBounds_toArray, List.set_cons_zero, List.set_cons_succ])
                refine AnyT.take (i := 1) (oi := ({ dst := some 61, op := Op.load _ (Operand.tmp 14), type := _, pos := _, after := _, guard := none } : Oper)) (v := ?_) rfl (by kernel_rfl) (by kernel_rfl) (by kernel_rfl) (by kernel_rfl) (fun _ _ _ h => h) (Or.inl ⟨by rfl, ?_⟩) hHeld0 ?_
                rotate_left
                · intro w' hSw; (try dsimp only at hSw); go_simp <;> (try with_reducible rfl)
                (try simp only [Act.put, List.setIfInBounds_toArray, List.set_cons_zero, List.set_cons_succ])
                refine AnyT.take (i := 2) (oi := ({ dst := some 62, op := Op.load _ (Operand.tmp 14), type := _, pos := _, after := _, guard := none } : Oper)) (v := ?_) rfl (by kernel_rfl) (by kernel_rfl) (by kernel_rfl) (by kernel_rfl) (fun _ _ _ h => h) (Or.inl ⟨by rfl, ?_⟩) hHeld0 ?_
                rotate_left
                · intro w' hSw; (try dsimp only at hSw); go_simp <;> (try with_reducible rfl)
                (try simp only [Act.put, List.setIfInBounds_toArray, List.set_cons_zero, List.set_cons_succ])
                refine AnyT.one (i := 3) (o := ({ dst := some 63, op := Op.call { callee := Callee.value (Operand.func _), args := #[Operand.tmp 61, Operand.tmp 62], argTypes := _ }, type := _, pos := _, after := _, guard := none } : Oper)) (by kernel_rfl) rfl (fun K hK => ?_)
                go_simp
                refine (dMul _ _ _ B0 17 17 17 17 _ _ (t_d.out.below HBa.out) (t_d.out.below HBa.out) (by omega) (by omega) (by omega) (by omega) (by omega) (by omega)).mono ?_
                rintro e Wq0_ ⟨r1x0_v, rfl, ht_, hb_⟩
                obtain ⟨r1x0_n, r1x0_a, r1x0_m, r1x0_c, r1x0_p, rfl, ht2_⟩ := ht_.numform
                clear ht_
                have t_r1x0 : Hid (Tell Wq0_ B0 (.agg #[.bool r1x0_n, .slice r1x0_a r1x0_m r1x0_c, .int .i64 r1x0_p, .slice none 0 0]) 34 34 (xv x * xv x)) := ht2_.base (by have := ZB0.out; have := Below.size HBa.out; show B0 ≤ _; omega)
                clear ht2_
                replace HBa : Hid (Below w7_.heap.size w7_ Wq0_) := bstep HBa.out hb_
                clear hb_
                (try go_wp2_with fail)
                refine hK.out _ _ (fun _ => ⟨(b_s.out.below HBa.out).cells, (b_d.out.below HBa.out).cells⟩) (fun hHeld1 => ?_)
                replace hHeld0 := hHeld1 (by decide)
                clear hK K hHeld1
                (try simp only [Act.put, List.setIfInBounds_toArray, List.set_cons_zero, List.set_cons_succ])
                refine AnyT.one (i := 4) (o := ({ dst := some 64, op := Op.call { callee := Callee.value (Operand.func _), args := #[Operand.tmp 60, Operand.tmp 63], argTypes := _ }, type := _, pos := _, after := _, guard := none } : Oper)) (by kernel_rfl) rfl (fun K hK => ?_)
                go_simp
                refine (dAdd _ _ _ B0 34 (34 + (NC : Int)) _ _ (t_s.out.below HBa.out) ((t_r1x0.out).wide (34 + (NC : Int)) (by omega)) (by omega) (by omega) (by omega)).mono ?_
                rintro e Wq1_ ⟨r1x1_v, rfl, ht_, hb_⟩
                obtain ⟨r1x1_n, r1x1_a, r1x1_m, r1x1_c, r1x1_p, rfl, ht2_⟩ := ht_.numform
                clear ht_
                have t_r1x1 : Hid (Tell Wq1_ B0 (.agg #[.bool r1x1_n, .slice r1x1_a r1x1_m r1x1_c, .int .i64 r1x1_p, .slice none 0 0]) 34 (34 + (NC : Int) + 1) (sumQ XF NC + xv x * xv x)) := ht2_.base (by have := ZB0.out; have := Below.size HBa.out; show B0 ≤ _; omega)
                clear ht2_
                replace t_r1x0 : Hid (Tell _ _ _ _ _ _) := t_r1x0.out.below hb_
                replace HBa : Hid (Below w7_.heap.size w7_ Wq1_) := bstep HBa.out hb_
                clear hb_
                (try go_wp2_with fail)
                refine hK.out _ _ (fun _ => ⟨(b_s.out.below HBa.out).cells, (b_d.out.below HBa.out).cells⟩) (fun hHeld1 => ?_)
                replace hHeld0 := hHeld1 (by decide)
                clear hK K hHeld1
                (try simp only [Act.put, List.setIfInBounds_toArray, List.set_cons_zero, List.set_cons_succ])
                refine AnyT.one (i := 5) (o := ({ dst := none, op := Op.store _ (Operand.tmp 11) (Operand.tmp 64), type := _, pos := _, after := _, guard := none } : Oper)) (by kernel_rfl) rfl (fun K hK => ?_)
                clear hHeld0
                obtain ⟨⟨z0_, z1_, z2_, z3_⟩, ⟨z5_, z6_, z7_, z8_⟩, z4_⟩ := hfz_ _ HBa.out
                go_simp
                refine hK.out _ _ (fun h => absurd rfl h) (fun _ => ?_)
                clear hK K
                (try simp only [Act.put, List.setIfInBounds_toArray, List.set_cons_zero, List.set_cons_succ])
                refine AnyT.done (by kernel_rfl) ?_
                refine NoPanic.normal ?_
                have bs_ := bes_puts Wq1_ k_s (.bool r1x1_n) (.slice r1x1_a r1x1_m r1x1_c) (.int .i64 r1x1_p) (.slice none 0 0)
                have mB_ := (b_s.out.below HBa.out).put (.bool r1x1_n) (.slice r1x1_a r1x1_m r1x1_c) (.int .i64 r1x1_p) (.slice none 0 0)
                have tB_ := t_r1x1.out.put (b := k_s) KB_s.out (.bool r1x1_n) (.slice r1x1_a r1x1_m r1x1_c) (.int .i64 r1x1_p) (.slice none 0 0)
                clear z0_ z1_ z2_ z3_ z4_ z5_ z6_ z7_ z8_ hfz_
                replace BW : Hid (Below _ _ _) := bstep BW.out HBa.out
                replace UZ : Hid (URow _ _ _ _ _) := UZ.out.below HBa.out
                replace M : Hid (MBox _ _ _ _ _ _) := M.out.below HBa.out
                replace b_s : Hid (BoxF _ _ _ _ _ _) := b_s.out.below HBa.out
                replace t_s : Hid (Tell _ _ _ _ _ _) := t_s.out.below HBa.out
                replace ZB0 : Hid (_ ≤ _) := Nat.le_trans ZB0.out (Below.size HBa.out)
                replace b_d : Hid (BoxF _ _ _ _ _ _) := b_d.out.below HBa.out
                replace t_d : Hid (Tell _ _ _ _ _ _) := t_d.out.below HBa.out
                replace BW : Hid (Below _ _ _) := Bes.old BW.out bs_ L_s.out
                replace UZ : Hid (URow _ _ _ _ _) := UZ.out.puts (Apt.ne K_sg.out) (.bool r1x1_n) (.slice r1x1_a r1x1_m r1x1_c) (.int .i64 r1x1_p) (.slice none 0 0)
                replace M : Hid (MBox _ _ _ _ _ _) := M.out.bes bs_ (ne_some K_sM.out)
                replace ZB0 : Hid (_ ≤ _) := Nat.le_trans ZB0.out (Bes.size bs_)
                replace b_d : Hid (BoxF _ _ _ _ _ _) := b_d.out.puts N_sd.out (.bool r1x1_n) (.slice r1x1_a r1x1_m r1x1_c) (.int .i64 r1x1_p) (.slice none 0 0)
                replace t_d : Hid (Tell _ _ _ _ _ _) := t_d.out.put (b := k_s) KB_s.out (.bool r1x1_n) (.slice r1x1_a r1x1_m r1x1_c) (.int .i64 r1x1_p) (.slice none 0 0)
                replace b_s : Hid (BoxF _ _ _ _ _ _) := mB_
                replace t_s : Hid (Tell _ B0 (.agg #[.bool r1x1_n, .slice r1x1_a r1x1_m r1x1_c, .int .i64 r1x1_p, .slice none 0 0]) 34 (34 + (NC : Int) + 1) (sumQ XF NC + xv x * xv x)) := tB_
                clear mB_ tB_ bs_ HBa t_r1x0 t_r1x1
                generalize ((((Wq1_.setCell ⟨k_s, 0, none⟩ (.bool r1x1_n)).setCell ⟨k_s, 1, none⟩ (.slice r1x1_a r1x1_m r1x1_c)).setCell ⟨k_s, 2, none⟩ (.int .i64 r1x1_p)).setCell ⟨k_s, 3, none⟩ (.slice none 0 0)) = w8_ at BW UZ M b_s t_s ZB0 b_d t_d ⊢
                have ES : sumQ XF NC + xv x * xv x = sumQ XF (n * C + (m + 1)) := by
                  rw [← Nat.add_assoc, HNC.out]
                  show _ = sumQ XF NC + xv (XF NC) * xv (XF NC)
                  rw [HXX.out]
                have TS : Hid (Tell _ _ _ 34 (34 + ((n * C + (m + 1) : Nat) : Int)) (sumQ XF (n * C + (m + 1)))) := (t_s.out.wide _ (by have := HNC.out; omega)).eq ES
                clear ES t_s t_d b_d
                go_wp2
                go_roundw
                case rel => exact ⟨m + 1, false, _, _, _, _, _, rfl, by go_num, by omega, M, UZ, b_s, TS, BW, ZB0, FB2⟩
                case measure => simp [intOf]; omega
              · skip
                have FB2 : Hid (FinB false XF (n * C + (m + 1))) := by
                  rw [← Nat.add_assoc, HNC.out]
                  exact ⟨fun h => absurd h (by decide), fun h => absurd (by have := h NC (by omega); rw [HXX.out] at this; exact this) FNX.out⟩
                clear FB FNX
                obtain ⟨⟨b_s_0, b_s_1, b_s_2, b_s_3⟩, ⟨b_s_5, b_s_6, b_s_7, b_s_8⟩, b_s_4⟩ := b_s.out
                obtain ⟨⟨b_d_0, b_d_1, b_d_2, b_d_3⟩, ⟨b_d_5, b_d_6, b_d_7, b_d_8⟩, b_d_4⟩ := b_d.out
                go_wp2_with fail
                clear b_s_0 b_s_1 b_s_2 b_s_3 b_s_4 b_s_5 b_s_6 b_s_7 b_s_8 b_d_0 b_d_1 b_d_2 b_d_3 b_d_4 b_d_5 b_d_6 b_d_7 b_d_8
                have HBa : Hid (Below w7_.heap.size w7_ w7_.drew) := (Below.refl _ _).drew
                have hfz_ := fun (w' : World) (h : Below w7_.heap.size w7_ w') => b_s.out.below h
                refine wp_region_noPanic ?_
                refine AnyT.start (T := (fun w' => (w'.cell? ⟨k_s, 0, none⟩ = some (.bool s_n) ∧ w'.cell? ⟨k_s, 1, none⟩ = some (.slice s_a s_m s_c) ∧ w'.cell? ⟨k_s, 2, none⟩ = some (.int .i64 s_p) ∧ w'.cell? ⟨k_s, 3, none⟩ = some (.slice none 0 0)) ∧ (w'.cell? ⟨k_d, 0, none⟩ = some (.bool d_n) ∧ w'.cell? ⟨k_d, 1, none⟩ = some (.slice d_a d_m d_c) ∧ w'.cell? ⟨k_d, 2, none⟩ = some (.int .i64 d_p) ∧ w'.cell? ⟨k_d, 3, none⟩ = some (.slice none 0 0)))) (z := 5) (by kernel_rfl) ?_
                have hHeld0 := (⟨b_s.out.drew.cells, b_d.out.drew.cells⟩ : (fun w' => (w'.cell? ⟨k_s, 0, none⟩ = some (.bool s_n) ∧ w'.cell? ⟨k_s, 1, none⟩ = some (.slice s_a s_m s_c) ∧ w'.cell? ⟨k_s, 2, none⟩ = some (.int .i64 s_p) ∧ w'.cell? ⟨k_s, 3, none⟩ = some (.slice none 0 0)) ∧ (w'.cell? ⟨k_d, 0, none⟩ = some (.bool d_n) ∧ w'.cell? ⟨k_d, 1, none⟩ = some (.slice d_a d_m d_c) ∧ w'.cell? ⟨k_d, 2, none⟩ = some (.int .i64 d_p) ∧ w'.cell? ⟨k_d, 3, none⟩ = some (.slice none 0 0))) w7_.drew)
                refine AnyT.take (i := 0) (oi := ({ dst := some 60, op := Op.load _ (Operand.tmp 11), type := _, pos := _, after := _, guard := none } : Oper)) (v := ?_) rfl (by kernel_rfl) (by kernel_rfl) (by kernel_rfl) (by kernel_rfl) (fun _ _ _ h => h) (Or.inl ⟨by rfl, ?_⟩) hHeld0 ?_
                rotate_left
                · intro w' hSw; (try dsimp only at hSw); go_simp <;> (try with_reducible rfl)
                (try simp only [Act.put, List.setIfInBounds_toArray, List.set_cons_zero, List.set_cons_succ])
                refine AnyT.take (i := 1) (oi := ({ dst := some 61, op := Op.load _ (Operand.tmp 14), type := _, pos := _, after := _, guard := none } : Oper)) (v := ?_) rfl (by kernel_rfl) (by kernel_rfl) (by kernel_rfl) (by kernel_rfl) (fun _ _ _ h => h) (Or.inl ⟨by rfl, ?_⟩) hHeld0 ?_
                rotate_left
                · intro w' hSw; (try dsimp only at hSw); go_simp <;> (try with_reducible rfl)
                (try simp only [Act.put, List.setIfInBounds_toArray, List.set_cons_zero, List.set_cons_succ])
                refine AnyT.take (i := 2) (oi := ({ dst := some 62, op := Op.load _ (Operand.tmp 14), type := _, pos := _, after := _, guard := none } : Oper)) (v := ?_) rfl (by kernel_rfl) (by kernel_rfl) (by kernel_rfl) (by kernel_rfl) (fun _ _ _ h => h) (Or.inl ⟨by rfl, ?_⟩) hHeld0 ?_
                rotate_left
                · intro w' hSw; (try dsimp only at hSw); go_simp <;> (try with_reducible rfl)
                (try simp only [Act.put, List.setIfInBounds_toArray, List.set_cons_zero, List.set_cons_succ])
                refine AnyT.one (i := 3) (o := ({ dst := some 63, op := Op.call { callee := Callee.value (Operand.func _), args := #[Operand.tmp 61, Operand.tmp 62], argTypes := _ }, type := _, pos := _, after := _, guard := none } : Oper)) (by kernel_rfl) rfl (fun K hK => ?_)
                go_simp
                refine (dMul _ _ _ B0 17 17 17 17 _ _ (t_d.out.below HBa.out) (t_d.out.below HBa.out) (by omega) (by omega) (by omega) (by omega) (by omega) (by omega)).mono ?_
                rintro e Wq0_ ⟨r1x0_v, rfl, ht_, hb_⟩
                obtain ⟨r1x0_n, r1x0_a, r1x0_m, r1x0_c, r1x0_p, rfl, ht2_⟩ := ht_.numform
                clear ht_
                have t_r1x0 : Hid (Tell Wq0_ B0 (.agg #[.bool r1x0_n, .slice r1x0_a r1x0_m r1x0_c, .int .i64 r1x0_p, .slice none 0 0]) 34 34 (xv x * xv x)) := ht2_.base (by have := ZB0.out; have := Below.size HBa.out; show B0 ≤ _; omega)
                clear ht2_
                replace HBa : Hid (Below w7_.heap.size w7_ Wq0_) := bstep HBa.out hb_
                clear hb_
                (try go_wp2_with fail)
                refine hK.out _ _ (fun _ => ⟨(b_s.out.below HBa.out).cells, (b_d.out.below HBa.out).cells⟩) (fun hHeld1 => ?_)
                replace hHeld0 := hHeld1 (by decide)
                clear hK K hHeld1
                (try simp only [Act.put, List.setIfInBounds_toArray, List.set_cons_zero, List.set_cons_succ])
                refine AnyT.one (i := 4) (o := ({ dst := some 64, op := Op.call { callee := Callee.value (Operand.func _), args := #[Operand.tmp 60, Operand.tmp 63], argTypes := _ }, type := _, pos := _, after := _, guard := none } : Oper)) (by kernel_rfl) rfl (fun K hK => ?_)
                go_simp
                refine (dAdd _ _ _ B0 34 (34 + (NC : Int)) _ _ (t_s.out.below HBa.out) ((t_r1x0.out).wide (34 + (NC : Int)) (by omega)) (by omega) (by omega) (by omega)).mono ?_
                rintro e Wq1_ ⟨r1x1_v, rfl, ht_, hb_⟩
                obtain ⟨r1x1_n, r1x1_a, r1x1_m, r1x1_c, r1x1_p, rfl, ht2_⟩ := ht_.numform
                clear ht_
                have t_r1x1 : Hid (Tell Wq1_ B0 (.agg #[.bool r1x1_n, .slice r1x1_a r1x1_m r1x1_c, .int .i64 r1x1_p, .slice none 0 0]) 34 (34 + (NC : Int) + 1) (sumQ XF NC + xv x * xv x)) := ht2_.base (by have := ZB0.out; have := Below.size HBa.out; show B0 ≤ _; omega)
                clear ht2_
                replace t_r1x0 : Hid (Tell _ _ _ _ _ _) := t_r1x0.out.below hb_
                replace HBa : Hid (Below w7_.heap.size w7_ Wq1_) := bstep HBa.out hb_
                clear hb_
                (try go_wp2_with fail)
                refine hK.out _ _ (fun _ => ⟨(b_s.out.below HBa.out).cells, (b_d.out.below HBa.out).cells⟩) (fun hHeld1 => ?_)
                replace hHeld0 := hHeld1 (by decide)
                clear hK K hHeld1
                (try simp only [Act.put, List.setIfInBounds_toArray, List.set_cons_zero, List.set_cons_succ])
                refine AnyT.one (i := 5) (o := ({ dst := none, op := Op.store _ (Operand.tmp 11) (Operand.tmp 64), type := _, pos := _, after := _, guard := none } : Oper)) (by kernel_rfl) rfl (fun K hK => ?_)
                clear hHeld0
                obtain ⟨⟨z0_, z1_, z2_, z3_⟩, ⟨z5_, z6_, z7_, z8_⟩, z4_⟩ := hfz_ _ HBa.out
                go_simp
                refine hK.out _ _ (fun h => absurd rfl h) (fun _ => ?_)
                clear hK K
                (try simp only [Act.put, List.setIfInBounds_toArray, List.set_cons_zero, List.set_cons_succ])
                refine AnyT.done (by kernel_rfl) ?_
                refine NoPanic.normal ?_
                have bs_ := bes_puts Wq1_ k_s (.bool r1x1_n) (.slice r1x1_a r1x1_m r1x1_c) (.int .i64 r1x1_p) (.slice none 0 0)
                have mB_ := (b_s.out.below HBa.out).put (.bool r1x1_n) (.slice r1x1_a r1x1_m r1x1_c) (.int .i64 r1x1_p) (.slice none 0 0)
                have tB_ := t_r1x1.out.put (b := k_s) KB_s.out (.bool r1x1_n) (.slice r1x1_a r1x1_m r1x1_c) (.int .i64 r1x1_p) (.slice none 0 0)
                clear z0_ z1_ z2_ z3_ z4_ z5_ z6_ z7_ z8_ hfz_
                replace BW : Hid (Below _ _ _) := bstep BW.out HBa.out
                replace UZ : Hid (URow _ _ _ _ _) := UZ.out.below HBa.out
                replace M : Hid (MBox _ _ _ _ _ _) := M.out.below HBa.out
                replace b_s : Hid (BoxF _ _ _ _ _ _) := b_s.out.below HBa.out
                replace t_s : Hid (Tell _ _ _ _ _ _) := t_s.out.below HBa.out
                replace ZB0 : Hid (_ ≤ _) := Nat.le_trans ZB0.out (Below.size HBa.out)
                replace b_d : Hid (BoxF _ _ _ _ _ _) := b_d.out.below HBa.out
                replace t_d : Hid (Tell _ _ _ _ _ _) := t_d.out.below HBa.out
                replace BW : Hid (Below _ _ _) := Bes.old BW.out bs_ L_s.out
                replace UZ : Hid (URow _ _ _ _ _) := UZ.out.puts (Apt.ne K_sg.out) (.bool r1x1_n) (.slice r1x1_a r1x1_m r1x1_c) (.int .i64 r1x1_p) (.slice none 0 0)
                replace M : Hid (MBox _ _ _ _ _ _) := M.out.bes bs_ (ne_some K_sM.out)
                replace ZB0 : Hid (_ ≤ _) := Nat.le_trans ZB0.out (Bes.size bs_)
                replace b_d : Hid (BoxF _ _ _ _ _ _) := b_d.out.puts N_sd.out (.bool r1x1_n) (.slice r1x1_a r1x1_m r1x1_c) (.int .i64 r1x1_p) (.slice none 0 0)
                replace t_d : Hid (Tell _ _ _ _ _ _) := t_d.out.put (b := k_s) KB_s.out (.bool r1x1_n) (.slice r1x1_a r1x1_m r1x1_c) (.int .i64 r1x1_p) (.slice none 0 0)
                replace b_s : Hid (BoxF _ _ _ _ _ _) := mB_
                replace t_s : Hid (Tell _ B0 (.agg #[.bool r1x1_n, .slice r1x1_a r1x1_m r1x1_c, .int .i64 r1x1_p, .slice none 0 0]) 34 (34 + (NC : Int) + 1) (sumQ XF NC + xv x * xv x)) := tB_
                clear mB_ tB_ bs_ HBa t_r1x0 t_r1x1
                generalize ((((Wq1_.setCell ⟨k_s, 0, none⟩ (.bool r1x1_n)).setCell ⟨k_s, 1, none⟩ (.slice r1x1_a r1x1_m r1x1_c)).setCell ⟨k_s, 2, none⟩ (.int .i64 r1x1_p)).setCell ⟨k_s, 3, none⟩ (.slice none 0 0)) = w8_ at BW UZ M b_s t_s ZB0 b_d t_d ⊢
                have ES : sumQ XF NC + xv x * xv x = sumQ XF (n * C + (m + 1)) := by
                  rw [← Nat.add_assoc, HNC.out]
                  show _ = sumQ XF NC + xv (XF NC) * xv (XF NC)
                  rw [HXX.out]
                have TS : Hid (Tell _ _ _ 34 (34 + ((n * C + (m + 1) : Nat) : Int)) (sumQ XF (n * C + (m + 1)))) := (t_s.out.wide _ (by have := HNC.out; omega)).eq ES
                clear ES t_s t_d b_d
                go_wp2
                go_roundw
                case rel => exact ⟨m + 1, false, _, _, _, _, _, rfl, by go_num, by omega, M, UZ, b_s, TS, BW, ZB0, FB2⟩
                case measure => simp [intOf]; omega
          · obtain rfl : C = m := by omega
            rw [row_up] at t_s FB
            obtain ⟨M_0, M_1, M_2, M_3, M_4⟩ := M.out
            go_wp2
            go_roundw
            case rel => exact ⟨n + 1, fb, _, _, _, _, _, rfl, by go_num, by omega, M, UZ, b_s, t_s, BW, ZB0, FB⟩
            case measure => simp [intOf]; omega
      · obtain rfl : R = n := by omega
        rw [Nat.add_zero] at t_s FB
        have SS : Hid (decide (sumQ (flat Z C S) (R * C) = sumQ XF (R * C)) = true) := by rw [HXF.out]; exact decide_eq_true rfl
        have AF : Hid ((∀ i, i < R * C → mag (XF i) < 9218868437227405312) ↔ AllF Z R C S) := by
          constructor
          · intro h i k hi hk
            rw [← FX.out i k hk]
            exact h _ (row_lt C i k R hi hk)
          · intro h t ht
            have hC : 0 < C := by
              rcases Nat.eq_zero_or_pos C with e | e
              · rw [e, Nat.mul_zero] at ht
                omega
              · exact e
            rw [HXF.out]
            exact h _ _ (Nat.div_lt_of_lt_mul (by rw [Nat.mul_comm]; exact ht)) (Nat.mod_lt _ hC)
        cases fb
        · have NF : Hid (¬ AllF Z R C S) := fun h => by have := FB.out.2 (AF.out.2 h); cases this
          obtain ⟨⟨b_s_0, b_s_1, b_s_2, b_s_3⟩, ⟨b_s_5, b_s_6, b_s_7, b_s_8⟩, b_s_4⟩ := b_s.out
          obtain ⟨M_0, M_1, M_2, M_3, M_4⟩ := M.out
          go_wp2_with fail
          clear b_s_0 b_s_1 b_s_2 b_s_3 b_s_4 b_s_5 b_s_6 b_s_7 b_s_8 M_0 M_1 M_2 M_3 M_4
          have ct : Cnt 1 := Cnt.mk _
          have HBa : Hid (Below w3_.heap.size w3_ w3_) := Below.refl _ _
          go_region_held3 (fun w' => (w'.cell? ⟨k_M, 0, none⟩ = some (.int .i64 (R : Int)) ∧ w'.cell? ⟨k_M, 1, none⟩ = some (.int .i64 (C : Int)) ∧ w'.cell? ⟨k_M, 2, none⟩ = some (.int .i64 (S : Int)) ∧ w'.cell? ⟨k_M, 3, none⟩ = some (.slice (some ⟨g, 0, none⟩) (R * S) (R * S))) ∧ (w'.cell? ⟨k_s, 0, none⟩ = some (.bool s_n) ∧ w'.cell? ⟨k_s, 1, none⟩ = some (.slice s_a s_m s_c) ∧ w'.cell? ⟨k_s, 2, none⟩ = some (.int .i64 s_p) ∧ w'.cell? ⟨k_s, 3, none⟩ = some (.slice none 0 0))) (exact ⟨(M.out.below (by with_reducible repeat (first | (refine Below.drew ?_) | (refine bmore ?_ _) | exact HBa.out | exact Below.refl _ _))).cells, (b_s.out.below (by with_reducible repeat (first | (refine Below.drew ?_) | (refine bmore ?_ _) | exact HBa.out | exact Below.refl _ _))).cells⟩) (first | (have ck : Cnt 1 := ct; go_at_call 26; refine (mFinNo R C S _ _ _ Z _ T2.out (UZ.out.below (by with_reducible repeat (first | (refine Below.drew ?_) | (refine bmore ?_ _) | exact HBa.out | exact Below.refl _ _))) NF.out).mono ?_; rintro e Wq0_ ⟨rfl, hb_⟩; have hbt_ : Below w3_.heap.size w3_ Wq0_ := bstep (by with_reducible repeat (first | (refine Below.drew ?_) | (refine bmore ?_ _) | exact (Below.refl _ _) | exact Below.refl _ _)) hb_; replace HBa : Hid (Below w3_.heap.size w3_ Wq0_) := bstep HBa.out hbt_; replace ct : Cnt 2 := Cnt.mk _; clear hb_ hbt_ ck) | (have ck : Cnt 2 := ct; go_at_call 28; refine (mSquare R C S _ _ _ Z _ T2.out (UZ.out.below (by with_reducible repeat (first | (refine Below.drew ?_) | (refine bmore ?_ _) | exact HBa.out | exact Below.refl _ _))) (by omega)).mono ?_; rintro e Wq1_ ⟨r1x1_v, rfl, ht_, hb_⟩; obtain ⟨r1x1_n, r1x1_a, r1x1_m, r1x1_c, r1x1_p, rfl, ht2_⟩ := ht_.numform; clear ht_; have hbt_ : Below Wq0_.heap.size Wq0_ Wq1_ := bstep (by with_reducible repeat (first | (refine Below.drew ?_) | (refine bmore ?_ _) | exact (Below.refl _ _) | exact Below.refl _ _)) hb_; have t_r1x1 : Hid (Tell Wq1_ B0 (.agg #[.bool r1x1_n, .slice r1x1_a r1x1_m r1x1_c, .int .i64 r1x1_p, .slice none 0 0]) 34 (34 + (R * C : Nat)) (sumQ (flat Z C S) (R * C))) := ht2_.base (Nat.le_trans ZB0.out (Below.size (B := w3_.heap.size) (by with_reducible repeat (first | (refine Below.drew ?_) | (refine bmore ?_ _) | exact HBa.out | exact Below.refl _ _)))); clear ht2_; replace HBa : Hid (Below w3_.heap.size w3_ Wq1_) := bstep HBa.out hbt_; replace ct : Cnt 3 := Cnt.mk _; clear hb_ hbt_ ck) | (have ck : Cnt 3 := ct; go_at_call 29; refine (dSame _ _ _ B0 34 (34 + (R * C : Nat)) _ _ (t_r1x1.out.below (by with_reducible repeat (first | (refine Below.drew ?_) | (refine bmore ?_ _) | exact (Below.refl _ _) | exact Below.refl _ _))) (t_s.out.below (by with_reducible repeat (first | (refine Below.drew ?_) | (refine bmore ?_ _) | exact HBa.out | exact Below.refl _ _))) (by omega) (by omega)).mono ?_; rintro e Wq2_ ⟨rfl, hb_⟩; rw [SS.out]; have hbt_ : Below Wq1_.heap.size Wq1_ Wq2_ := bstep (by with_reducible repeat (first | (refine Below.drew ?_) | (refine bmore ?_ _) | exact (Below.refl _ _) | exact Below.refl _ _)) hb_; replace t_r1x1 : Hid (Tell _ _ _ _ _ _) := t_r1x1.out.below hbt_; replace HBa : Hid (Below w3_.heap.size w3_ Wq2_) := bstep HBa.out hbt_; replace ct : Cnt 4 := Cnt.mk _; clear hb_ hbt_ ck))
          replace BW : Hid (Below _ _ _) := bstep BW.out HBa.out
          replace UZ : Hid (URow _ _ _ _ _) := UZ.out.below HBa.out
          replace M : Hid (MBox _ _ _ _ _ _) := M.out.below HBa.out
          replace b_s : Hid (BoxF _ _ _ _ _ _) := b_s.out.below HBa.out
          replace t_s : Hid (Tell _ _ _ _ _ _) := t_s.out.below HBa.out
          replace ZB0 : Hid (_ ≤ _) := Nat.le_trans ZB0.out (Below.size HBa.out)
          clear HBa ct t_r1x1
          go_wp2
          go_ret
          exact ⟨ret_eq rfl, BW.out⟩
        · have HF : Hid (AllF Z R C S) := AF.out.1 (FB.out.1 rfl)
          obtain ⟨⟨b_s_0, b_s_1, b_s_2, b_s_3⟩, ⟨b_s_5, b_s_6, b_s_7, b_s_8⟩, b_s_4⟩ := b_s.out
          obtain ⟨M_0, M_1, M_2, M_3, M_4⟩ := M.out
          go_wp2_with fail
          clear b_s_0 b_s_1 b_s_2 b_s_3 b_s_4 b_s_5 b_s_6 b_s_7 b_s_8 M_0 M_1 M_2 M_3 M_4
          have ct : Cnt 1 := Cnt.mk _
          have HBa : Hid (Below w3_.heap.size w3_ w3_) := Below.refl _ _
          go_region_held3 (fun w' => (w'.cell? ⟨k_M, 0, none⟩ = some (.int .i64 (R : Int)) ∧ w'.cell? ⟨k_M, 1, none⟩ = some (.int .i64 (C : Int)) ∧ w'.cell? ⟨k_M, 2, none⟩ = some (.int .i64 (S : Int)) ∧ w'.cell? ⟨k_M, 3, none⟩ = some (.slice (some ⟨g, 0, none⟩) (R * S) (R * S))) ∧ (w'.cell? ⟨k_s, 0, none⟩ = some (.bool s_n) ∧ w'.cell? ⟨k_s, 1, none⟩ = some (.slice s_a s_m s_c) ∧ w'.cell? ⟨k_s, 2, none⟩ = some (.int .i64 s_p) ∧ w'.cell? ⟨k_s, 3, none⟩ = some (.slice none 0 0))) (exact ⟨(M.out.below (by with_reducible repeat (first | (refine Below.drew ?_) | (refine bmore ?_ _) | exact HBa.out | exact Below.refl _ _))).cells, (b_s.out.below (by with_reducible repeat (first | (refine Below.drew ?_) | (refine bmore ?_ _) | exact HBa.out | exact Below.refl _ _))).cells⟩) (first | (have ck : Cnt 1 := ct; go_at_call 26; refine (mFinOk R C S _ _ _ Z _ T2.out (UZ.out.below (by with_reducible repeat (first | (refine Below.drew ?_) | (refine bmore ?_ _) | exact HBa.out | exact Below.refl _ _))) HF.out).mono ?_; rintro e Wq0_ ⟨rfl, hb_⟩; have hbt_ : Below w3_.heap.size w3_ Wq0_ := bstep (by with_reducible repeat (first | (refine Below.drew ?_) | (refine bmore ?_ _) | exact (Below.refl _ _) | exact Below.refl _ _)) hb_; replace HBa : Hid (Below w3_.heap.size w3_ Wq0_) := bstep HBa.out hbt_; replace ct : Cnt 2 := Cnt.mk _; clear hb_ hbt_ ck) | (have ck : Cnt 2 := ct; go_at_call 28; refine (mSquare R C S _ _ _ Z _ T2.out (UZ.out.below (by with_reducible repeat (first | (refine Below.drew ?_) | (refine bmore ?_ _) | exact HBa.out | exact Below.refl _ _))) (by omega)).mono ?_; rintro e Wq1_ ⟨r1x1_v, rfl, ht_, hb_⟩; obtain ⟨r1x1_n, r1x1_a, r1x1_m, r1x1_c, r1x1_p, rfl, ht2_⟩ := ht_.numform; clear ht_; have hbt_ : Below Wq0_.heap.size Wq0_ Wq1_ := bstep (by with_reducible repeat (first | (refine Below.drew ?_) | (refine bmore ?_ _) | exact (Below.refl _ _) | exact Below.refl _ _)) hb_; have t_r1x1 : Hid (Tell Wq1_ B0 (.agg #[.bool r1x1_n, .slice r1x1_a r1x1_m r1x1_c, .int .i64 r1x1_p, .slice none 0 0]) 34 (34 + (R * C : Nat)) (sumQ (flat Z C S) (R * C))) := ht2_.base (Nat.le_trans ZB0.out (Below.size (B := w3_.heap.size) (by with_reducible repeat (first | (refine Below.drew ?_) | (refine bmore ?_ _) | exact HBa.out | exact Below.refl _ _)))); clear ht2_; replace HBa : Hid (Below w3_.heap.size w3_ Wq1_) := bstep HBa.out hbt_; replace ct : Cnt 3 := Cnt.mk _; clear hb_ hbt_ ck) | (have ck : Cnt 3 := ct; go_at_call 29; refine (dSame _ _ _ B0 34 (34 + (R * C : Nat)) _ _ (t_r1x1.out.below (by with_reducible repeat (first | (refine Below.drew ?_) | (refine bmore ?_ _) | exact (Below.refl _ _) | exact Below.refl _ _))) (t_s.out.below (by with_reducible repeat (first | (refine Below.drew ?_) | (refine bmore ?_ _) | exact HBa.out | exact Below.refl _ _))) (by omega) (by omega)).mono ?_; rintro e Wq2_ ⟨rfl, hb_⟩; rw [SS.out]; have hbt_ : Below Wq1_.heap.size Wq1_ Wq2_ := bstep (by with_reducible repeat (first | (refine Below.drew ?_) | (refine bmore ?_ _) | exact (Below.refl _ _) | exact Below.refl _ _)) hb_; replace t_r1x1 : Hid (Tell _ _ _ _ _ _) := t_r1x1.out.below hbt_; replace HBa : Hid (Below w3_.heap.size w3_ Wq2_) := bstep HBa.out hbt_; replace ct : Cnt 4 := Cnt.mk _; clear hb_ hbt_ ck))
          replace BW : Hid (Below _ _ _) := bstep BW.out HBa.out
          replace UZ : Hid (URow _ _ _ _ _) := UZ.out.below HBa.out
          replace M : Hid (MBox _ _ _ _ _ _) := M.out.below HBa.out
          replace b_s : Hid (BoxF _ _ _ _ _ _) := b_s.out.below HBa.out
          replace t_s : Hid (Tell _ _ _ _ _ _) := t_s.out.below HBa.out
          replace ZB0 : Hid (_ ≤ _) := Nat.le_trans ZB0.out (Below.size HBa.out)
          clear HBa ct t_r1x1
          clear FB AF SS b_s t_s
          obtain ⟨M_0, M_1, M_2, M_3, M_4⟩ := M.out
          go_wp2_with fail
          refine (mUnit R C S _ _ _ Z _ T2.out UZ.out (by omega) HF.out).mono ?_
          rintro e w4_ ⟨gu, B, rfl, hG, _, hU, hb4_⟩
          have HGR : Hid (GrM Z C S R 0 B) := hG
          obtain ⟨E, hE⟩ : ∃ E, upw B = E := ⟨_, rfl⟩
          have hEb := upw_bd B
          rw [hE] at hU hEb ⊢
          have HE : Hid (upw B = E) := hE
          rw [← HXF.out] at hU
          obtain ⟨UF, hUF⟩ : ∃ X, X = scV XF (-E) := ⟨_, rfl⟩
          have EU : Hid (∀ t, UF t = (scaleS (XF t) (-E)).1) := fun t => by rw [hUF]; rfl
          rw [← hUF] at hU
          obtain ⟨e0_, e1_⟩ := hEb
          clear hG hE hUF
          clear M_0 M_1 M_2 M_3 M_4
          replace BW : Hid (Below _ _ _) := bstep BW.out hb4_
          replace UZ : Hid (URow _ _ _ _ _) := UZ.out.below hb4_
          replace M : Hid (MBox _ _ _ _ _ _) := M.out.below hb4_
          replace ZB0 : Hid (_ ≤ _) := Nat.le_trans ZB0.out (Below.size hb4_)
          clear hb4_
          have UU : Hid (URow w4_ (some ⟨gu, 0, none⟩) (R * C) (R * C) UF) := hU
          clear hU
          have HZ_ : Hid (R * C = 0 ∨ gu < w4_.heap.size) := by
            rcases Nat.eq_zero_or_pos (R * C) with h | h
            · exact .inl h
            · exact .inr (UU.out.cellg 0 h).1
          go_upto_region 22 with fail
          have m_ := MBox.made w4_ (R : Int) (C : Int) (C : Int) (.slice (some ⟨gu, 0, none⟩) (R * C) (R * C))
          have b_ : Below w4_.heap.size w4_ (w4_.alloc (.cells #[.int .i64 (R : Int), .int .i64 (C : Int), .int .i64 (C : Int), .slice (some ⟨gu, 0, none⟩) (R * C) (R * C)] 25)) := (Below.refl _ _).alloc (Nat.le_refl _) _
          obtain ⟨k_D, hk_D⟩ : ∃ k, k = w4_.heap.size := ⟨_, rfl⟩
          have L_D : Hid (w.heap.size ≤ k_D) := by rw [hk_D]; exact BW.out.size
          have LU_ : Hid (R * C = 0 ∨ gu < k_D) := by rcases HZ_.out with h | h; exact .inl h; exact .inr (by omega)
          rw [← hk_D] at m_ ⊢
          generalize (w4_.alloc (.cells #[.int .i64 (R : Int), .int .i64 (C : Int), .int .i64 (C : Int), .slice (some ⟨gu, 0, none⟩) (R * C) (R * C)] 25)) = w5_ at m_ b_ ⊢
          replace BW : Hid (Below _ _ _) := bstep BW.out b_
          replace UZ : Hid (URow _ _ _ _ _) := UZ.out.below b_
          replace M : Hid (MBox _ _ _ _ _ _) := M.out.below b_
          replace ZB0 : Hid (_ ≤ _) := Nat.le_trans ZB0.out (Below.size b_)
          replace UU : Hid (URow _ _ _ _ _) := UU.out.below b_
          have D : Hid (MBox w5_ k_D (R : Int) (C : Int) (C : Int) (.slice (some ⟨gu, 0, none⟩) (R * C) (R * C))) := m_
          clear m_ b_ hk_D
          have LM : Hid (k_M < w5_.heap.size) := M.out.2.2.2.2
          have LD : Hid (k_D < w5_.heap.size) := D.out.2.2.2.2
          go_wp2_with fail
          have m0_ := BoxF.made w5_ (.bool false) (.slice none 0 0) (.int .i64 0) (.slice none 0 0) 44
          have b_ : Below w5_.heap.size w5_ (w5_.alloc (.cells #[.bool false, .slice none 0 0, .int .i64 0, .slice none 0 0] 44)) := bmore (Below.refl _ _) _
          obtain ⟨k_h, hk_h⟩ : ∃ k, k = w5_.heap.size := ⟨_, rfl⟩
          have L_h : Hid (w.heap.size ≤ k_h) := by rw [hk_h]; exact Nat.le_trans BW.out.size (by omega)
          have K_hM : Hid (k_h ≠ k_M) := by have := LM.out; show _ ≠ _; omega
          have LMS : Hid (k_M < k_h) := by have := LM.out; show _ < _; omega
          have K_hD : Hid (k_h ≠ k_D) := by have := LD.out; show _ ≠ _; omega
          have LDS : Hid (k_D < k_h) := by have := LD.out; show _ < _; omega
          rw [← hk_h] at m0_ ⊢
          generalize (w5_.alloc (.cells #[.bool false, .slice none 0 0, .int .i64 0, .slice none 0 0] 44)) = w6_ at m0_ b_ ⊢
          replace BW : Hid (Below _ _ _) := bstep BW.out b_
          replace UZ : Hid (URow _ _ _ _ _) := UZ.out.below b_
          replace M : Hid (MBox _ _ _ _ _ _) := M.out.below b_
          replace ZB0 : Hid (_ ≤ _) := Nat.le_trans ZB0.out (Below.size b_)
          replace UU : Hid (URow _ _ _ _ _) := UU.out.below b_
          replace D : Hid (MBox _ _ _ _ _ _) := D.out.below b_
          replace LM : Hid (_ < _) := Nat.lt_of_lt_of_le LM.out (Below.size b_)
          replace LD : Hid (_ < _) := Nat.lt_of_lt_of_le LD.out (Below.size b_)
          have b_h : Hid (BoxF w6_ k_h (.bool false) (.slice none 0 0) (.int .i64 0) (.slice none 0 0)) := m0_
          clear b_ m0_ hk_h
          have K_hg : Hid (k_h ≠ g) := by have := GM.out; have := LMS.out; show _ ≠ _; omega
          have AUh : Hid (Apt (some k_h) (some ⟨gu, 0, none⟩) (R * C)) := fun hp b o s e ec => by
            injection e with e
            injection e with e1
            injection ec with ec
            have := LDS.out
            rcases LU_.out with q | q
            · omega
            · omega
          clear LM LD ZB0 KB_s
          obtain ⟨B1, hB1⟩ : ∃ B, B = w6_.heap.size := ⟨_, rfl⟩
          have KB_h : Hid (k_h < B1) := by rw [hB1]; exact b_h.out.2.2
          have ZB1 : Hid (B1 ≤ w6_.heap.size) := by show _ ≤ _; omega
          have T3 : Hid (Rgt (R : Int) (C : Int) (C : Int) (R * C)) := tight R C (by omega) (by omega)
          clear hB1
          obtain ⟨M_0, M_1, M_2, M_3, M_4⟩ := M.out
          go_wp2_with fail
          clear M_0 M_1 M_2 M_3 M_4
          go_loopw [19] (fun i wr => ∃ (n : Nat) (h_n : Bool) (h_a : Option Addr) (h_m h_c : Nat) (h_p : Int), i = .int .i64 (n : Int) ∧ n ≤ R ∧ Hid (MBox wr k_M (R : Int) (C : Int) (S : Int) (.slice (some ⟨g, 0, none⟩) (R * S) (R * S))) ∧ Hid (MBox wr k_D (R : Int) (C : Int) (C : Int) (.slice (some ⟨gu, 0, none⟩) (R * C) (R * C))) ∧ Hid (URow wr (some ⟨g, 0, none⟩) (R * S) (R * S) Z) ∧ Hid (URow wr (some ⟨gu, 0, none⟩) (R * C) (R * C) UF) ∧ Hid (BoxF wr k_h (.bool h_n) (.slice h_a h_m h_c) (.int .i64 h_p) (.slice none 0 0)) ∧ Hid (Tell wr B1 (.agg #[.bool h_n, .slice h_a h_m h_c, .int .i64 h_p, .slice none 0 0]) 17 17 (mxv XF (n * C + 0))) ∧ Hid (Below w.heap.size w wr) ∧ Hid (B1 ≤ wr.heap.size)) (fun i _ => R - (intOf i).toNat)
          case atStart => exact ⟨0, false, none, 0, 0, 0, rfl, Nat.zero_le _, M, D, UZ, UU, b_h, (Tell.zero _ _ _ _ _ (by decide)).eq (by rw [Nat.zero_mul]; rfl), BW, ZB1⟩
          case round =>
            clear M D UZ UU b_h BW ZB1
            obtain ⟨n, h_n, h_a, h_m, h_c, h_p, rfl, hn2_, M, D, UZ, UU, b_h, t_h, BW, ZB1⟩ := hrel
            obtain ⟨w7_, rfl⟩ : ∃ x, x = wr := ⟨wr, rfl⟩
            by_cases hlt : (n : Int) < (R : Int)
            · skip
              obtain ⟨M_0, M_1, M_2, M_3, M_4⟩ := M.out
              go_wp2_with fail
              clear M_0 M_1 M_2 M_3 M_4
              go_loopw [20] (fun i wr => ∃ (m : Nat) (h_n : Bool) (h_a : Option Addr) (h_m h_c : Nat) (h_p : Int), i = .int .i64 (m : Int) ∧ m ≤ C ∧ Hid (MBox wr k_M (R : Int) (C : Int) (S : Int) (.slice (some ⟨g, 0, none⟩) (R * S) (R * S))) ∧ Hid (MBox wr k_D (R : Int) (C : Int) (C : Int) (.slice (some ⟨gu, 0, none⟩) (R * C) (R * C))) ∧ Hid (URow wr (some ⟨g, 0, none⟩) (R * S) (R * S) Z) ∧ Hid (URow wr (some ⟨gu, 0, none⟩) (R * C) (R * C) UF) ∧ Hid (BoxF wr k_h (.bool h_n) (.slice h_a h_m h_c) (.int .i64 h_p) (.slice none 0 0)) ∧ Hid (Tell wr B1 (.agg #[.bool h_n, .slice h_a h_m h_c, .int .i64 h_p, .slice none 0 0]) 17 17 (mxv XF (n * C + m))) ∧ Hid (Below w.heap.size w wr) ∧ Hid (B1 ≤ wr.heap.size)) (fun i _ => C - (intOf i).toNat)
              case atStart => exact ⟨0, _, _, _, _, _, rfl, Nat.zero_le _, M, D, UZ, UU, b_h, t_h, BW, ZB1⟩
              case round =>
                clear M D UZ UU b_h t_h BW ZB1
                obtain ⟨m, h_n, h_a, h_m, h_c, h_p, rfl, hm2_, M, D, UZ, UU, b_h, t_h, BW, ZB1⟩ := hrel
                obtain ⟨w8_, rfl⟩ : ∃ x, x = wr := ⟨wr, rfl⟩
                by_cases hlt2 : (m : Int) < (C : Int)
                · skip
                  have FXm := FX.out n m (by omega)
                  obtain ⟨x0, x1⟩ := ZB.out (n * S + m)
                  obtain ⟨x, hxx⟩ : ∃ x, Z (n * S + m) = x := ⟨_, rfl⟩
                  rw [hxx] at x0 x1 FXm
                  have HZX : Hid (Z (n * S + m) = x) := hxx
                  have HXX : Hid (XF (n * C + m) = x) := FXm
                  clear hxx FXm
                  have EUm := EU.out (n * C + m)
                  rw [HXX.out] at EUm
                  have HEU : Hid ((scaleS x (-E)).1 = UF (n * C + m)) := EUm.symm
                  obtain ⟨NC, hNC⟩ : ∃ N : Nat, n * C + m = N := ⟨_, rfl⟩
                  rw [hNC] at t_h HXX HEU
                  have HNC : Hid (n * C + m = NC) := hNC
                  obtain ⟨AV, hAV⟩ : ∃ A : Int, A = ((xv x).natAbs : Int) := ⟨_, rfl⟩
                  have HAV : Hid (_ = _) := hAV.symm
                  obtain ⟨c, hc⟩ : ∃ c, cmpZ AV (mxv XF NC) = c := ⟨_, rfl⟩
                  have HC : Hid (_ = _) := hc
                  have EM : Hid (mxv XF (n * C + (m + 1)) = if mxv XF NC < AV then AV else mxv XF NC) := by
                    rw [← Nat.add_assoc, hNC]
                    show (if mxv XF NC < ((xv (XF NC)).natAbs : Int) then ((xv (XF NC)).natAbs : Int) else mxv XF NC) = _
                    rw [HXX.out, HAV.out]
                  obtain ⟨uv, huv⟩ : ∃ u, UF NC = u := ⟨_, rfl⟩
                  have HUV : Hid (UF (n * C + m) = uv) := by rw [hNC]; exact huv
                  rw [huv] at HEU
                  clear EUm hNC hAV huv
                  obtain ⟨M_0, M_1, M_2, M_3, M_4⟩ := M.out
                  go_wp2_with fail
                  refine (mAtN R C S _ _ _ Z n m _ T2.out UZ.out (by omega) (by omega)).mono ?_
                  rintro e w9_ ⟨rfl, hb9_⟩
                  rw [HZX.out]
                  clear M_0 M_1 M_2 M_3 M_4
                  replace BW : Hid (Below _ _ _) := bstep BW.out hb9_
                  replace UZ : Hid (URow _ _ _ _ _) := UZ.out.below hb9_
                  replace UU : Hid (URow _ _ _ _ _) := UU.out.below hb9_
                  replace M : Hid (MBox _ _ _ _ _ _) := M.out.below hb9_
                  replace D : Hid (MBox _ _ _ _ _ _) := D.out.below hb9_
                  replace b_h : Hid (BoxF _ _ _ _ _ _) := b_h.out.below hb9_
                  replace t_h : Hid (Tell _ _ _ _ _ _) := t_h.out.below hb9_
                  replace ZB1 : Hid (_ ≤ _) := Nat.le_trans ZB1.out (Below.size hb9_)
                  clear hb9_
                  go_wp2_with fail
                  refine (dOf x _ x0 x1).mono ?_
                  rintro e w10_ ⟨d_v, rfl, ht_, hb_⟩
                  obtain ⟨d_n, d_a, d_m, d_c, d_p, rfl, ht2_⟩ := ht_.numform
                  replace ht2_ := ht2_.base (b' := B1) ZB1.out
                  clear ht_
                  replace BW : Hid (Below _ _ _) := bstep BW.out hb_
                  replace UZ : Hid (URow _ _ _ _ _) := UZ.out.below hb_
                  replace UU : Hid (URow _ _ _ _ _) := UU.out.below hb_
                  replace M : Hid (MBox _ _ _ _ _ _) := M.out.below hb_
                  replace D : Hid (MBox _ _ _ _ _ _) := D.out.below hb_
                  replace b_h : Hid (BoxF _ _ _ _ _ _) := b_h.out.below hb_
                  replace t_h : Hid (Tell _ _ _ _ _ _) := t_h.out.below hb_
                  replace ZB1 : Hid (_ ≤ _) := Nat.le_trans ZB1.out (Below.size hb_)
                  clear hb_
                  go_upto_region 30 with fail
                  have mB_ := BoxF.made w10_ (.bool d_n) (.slice d_a d_m d_c) (.int .i64 d_p) (.slice none 0 0) 44
                  have tB_ := ht2_.alloc (.cells #[.bool d_n, .slice d_a d_m d_c, .int .i64 d_p, .slice none 0 0] 44)
                  have b_ := bmore (Below.refl w10_.heap.size w10_) (.cells #[.bool d_n, .slice d_a d_m d_c, .int .i64 d_p, .slice none 0 0] 44)
                  clear ht2_
                  generalize (w10_.alloc (.cells #[.bool d_n, .slice d_a d_m d_c, .int .i64 d_p, .slice none 0 0] 44)) = w11_ at mB_ b_ tB_ ⊢
                  obtain ⟨k_d, hk_d⟩ : ∃ k, k = w10_.heap.size := ⟨_, rfl⟩
                  have N_hd : Hid (k_h ≠ k_d) := by have := b_h.out.2.2; show _ ≠ _; omega
                  rw [← hk_d] at mB_ ⊢
                  replace BW : Hid (Below _ _ _) := bstep BW.out b_
                  replace UZ : Hid (URow _ _ _ _ _) := UZ.out.below b_
                  replace UU : Hid (URow _ _ _ _ _) := UU.out.below b_
                  replace M : Hid (MBox _ _ _ _ _ _) := M.out.below b_
                  replace D : Hid (MBox _ _ _ _ _ _) := D.out.below b_
                  replace b_h : Hid (BoxF _ _ _ _ _ _) := b_h.out.below b_
                  replace t_h : Hid (Tell _ _ _ _ _ _) := t_h.out.below b_
                  replace ZB1 : Hid (_ ≤ _) := Nat.le_trans ZB1.out (Below.size b_)
                  have b_d : Hid (BoxF w11_ k_d (.bool d_n) (.slice d_a d_m d_c) (.int .i64 d_p) (.slice none 0 0)) := mB_
                  have t_d : Hid (Tell w11_ B1 (.agg #[.bool d_n, .slice d_a d_m d_c, .int .i64 d_p, .slice none 0 0]) 17 17 (xv x)) := tB_
                  clear mB_ b_ tB_ hk_d
                  by_cases hgt : mxv XF NC < AV
                  · skip
                    have hc1 : c = 1 := by rw [← hc]; exact (cmp_gt _ _).1 hgt
                    subst hc1
                    have HGT : Hid (mxv XF NC < AV) := hgt
                    clear hc hgt
                    obtain ⟨⟨b_d_0, b_d_1, b_d_2, b_d_3⟩, ⟨b_d_5, b_d_6, b_d_7, b_d_8⟩, b_d_4⟩ := b_d.out
                    obtain ⟨⟨b_h_0, b_h_1, b_h_2, b_h_3⟩, ⟨b_h_5, b_h_6, b_h_7, b_h_8⟩, b_h_4⟩ := b_h.out
                    go_wp2_with fail
                    clear b_d_0 b_d_1 b_d_2 b_d_3 b_d_4 b_d_5 b_d_6 b_d_7 b_d_8 b_h_0 b_h_1 b_h_2 b_h_3 b_h_4 b_h_5 b_h_6 b_h_7 b_h_8
                    have ct : Cnt 1 := Cnt.mk _
                    have HBa : Hid (Below w11_.heap.size w11_ w11_) := Below.refl _ _
                    go_region_held3 (fun w' => (w'.cell? ⟨k_d, 0, none⟩ = some (.bool d_n) ∧ w'.cell? ⟨k_d, 1, none⟩ = some (.slice d_a d_m d_c) ∧ w'.cell? ⟨k_d, 2, none⟩ = some (.int .i64 d_p) ∧ w'.cell? ⟨k_d, 3, none⟩ = some (.slice none 0 0)) ∧ (w'.cell? ⟨k_h, 0, none⟩ = some (.bool h_n) ∧ w'.cell? ⟨k_h, 1, none⟩ = some (.slice h_a h_m h_c) ∧ w'.cell? ⟨k_h, 2, none⟩ = some (.int .i64 h_p) ∧ w'.cell? ⟨k_h, 3, none⟩ = some (.slice none 0 0))) (exact ⟨(b_d.out.below (by with_reducible repeat (first | (refine Below.drew ?_) | (refine bmore ?_ _) | exact HBa.out | exact Below.refl _ _))).cells, (b_h.out.below (by with_reducible repeat (first | (refine Below.drew ?_) | (refine bmore ?_ _) | exact HBa.out | exact Below.refl _ _))).cells⟩) (first | (have ck : Cnt 1 := ct; go_at_call 34; refine (dAbs _ _ B1 17 17 _ (t_d.out.below (by with_reducible repeat (first | (refine Below.drew ?_) | (refine bmore ?_ _) | exact HBa.out | exact Below.refl _ _))) (by omega) (by omega)).mono ?_; rintro e Wq0_ ⟨r2x0_v, rfl, ht_, hb_⟩; obtain ⟨r2x0_n, r2x0_a, r2x0_m, r2x0_c, r2x0_p, rfl, ht2_⟩ := ht_.numform; clear ht_; have hbt_ : Below w11_.heap.size w11_ Wq0_ := bstep (by with_reducible repeat (first | (refine Below.drew ?_) | (refine bmore ?_ _) | exact (Below.refl _ _) | exact Below.refl _ _)) hb_; have t_r2x0 : Hid (Tell Wq0_ B1 (.agg #[.bool r2x0_n, .slice r2x0_a r2x0_m r2x0_c, .int .i64 r2x0_p, .slice none 0 0]) 17 17 (((xv x).natAbs : Int))) := ht2_.base (Nat.le_trans ZB1.out (Below.size (B := w11_.heap.size) (by with_reducible repeat (first | (refine Below.drew ?_) | (refine bmore ?_ _) | exact HBa.out | exact Below.refl _ _)))); clear ht2_; replace HBa : Hid (Below w11_.heap.size w11_ Wq0_) := bstep HBa.out hbt_; replace ct : Cnt 2 := Cnt.mk _; clear hb_ hbt_ ck) | (have ck : Cnt 2 := ct; go_at_call 35; refine (dCmp _ _ _ B1 17 17 _ _ (t_r2x0.out.below (by with_reducible repeat (first | (refine Below.drew ?_) | (refine bmore ?_ _) | exact (Below.refl _ _) | exact Below.refl _ _))) (t_h.out.below (by with_reducible repeat (first | (refine Below.drew ?_) | (refine bmore ?_ _) | exact HBa.out | exact Below.refl _ _))) (by omega) (by omega)).mono ?_; rintro e Wq1_ ⟨rfl, hb_⟩; rw [HAV.out, HC.out]; have hbt_ : Below Wq0_.heap.size Wq0_ Wq1_ := bstep (by with_reducible repeat (first | (refine Below.drew ?_) | (refine bmore ?_ _) | exact (Below.refl _ _) | exact Below.refl _ _)) hb_; replace t_r2x0 : Hid (Tell _ _ _ _ _ _) := t_r2x0.out.below hbt_; replace HBa : Hid (Below w11_.heap.size w11_ Wq1_) := bstep HBa.out hbt_; replace ct : Cnt 3 := Cnt.mk _; clear hb_ hbt_ ck))
                    replace BW : Hid (Below _ _ _) := bstep BW.out HBa.out
                    replace UZ : Hid (URow _ _ _ _ _) := UZ.out.below HBa.out
                    replace UU : Hid (URow _ _ _ _ _) := UU.out.below HBa.out
                    replace M : Hid (MBox _ _ _ _ _ _) := M.out.below HBa.out
                    replace D : Hid (MBox _ _ _ _ _ _) := D.out.below HBa.out
                    replace b_h : Hid (BoxF _ _ _ _ _ _) := b_h.out.below HBa.out
                    replace t_h : Hid (Tell _ _ _ _ _ _) := t_h.out.below HBa.out
                    replace ZB1 : Hid (_ ≤ _) := Nat.le_trans ZB1.out (Below.size HBa.out)
                    replace b_d : Hid (BoxF _ _ _ _ _ _) := b_d.out.below HBa.out
                    replace t_d : Hid (Tell _ _ _ _ _ _) := t_d.out.below HBa.out
                    clear HBa ct t_r2x0
                    obtain ⟨⟨b_d_0, b_d_1, b_d_2, b_d_3⟩, ⟨b_d_5, b_d_6, b_d_7, b_d_8⟩, b_d_4⟩ := b_d.out
                    go_wp2_with fail
                    refine (dAbs _ _ B1 17 17 _ t_d.out (by omega) (by omega)).mono ?_
                    rintro e w12_ ⟨r3x0_v, rfl, ht_, hb_⟩
                    obtain ⟨r3x0_n, r3x0_a, r3x0_m, r3x0_c, r3x0_p, rfl, ht2_⟩ := ht_.numform
                    replace ht2_ := ht2_.base (b' := B1) ZB1.out
                    clear ht_
                    clear b_d_0 b_d_1 b_d_2 b_d_3 b_d_4 b_d_5 b_d_6 b_d_7 b_d_8
                    replace BW : Hid (Below _ _ _) := bstep BW.out hb_
                    replace UZ : Hid (URow _ _ _ _ _) := UZ.out.below hb_
                    replace UU : Hid (URow _ _ _ _ _) := UU.out.below hb_
                    replace M : Hid (MBox _ _ _ _ _ _) := M.out.below hb_
                    replace D : Hid (MBox _ _ _ _ _ _) := D.out.below hb_
                    replace b_h : Hid (BoxF _ _ _ _ _ _) := b_h.out.below hb_
                    replace t_h : Hid (Tell _ _ _ _ _ _) := t_h.out.below hb_
                    replace ZB1 : Hid (_ ≤ _) := Nat.le_trans ZB1.out (Below.size hb_)
                    replace b_d : Hid (BoxF _ _ _ _ _ _) := b_d.out.below hb_
                    replace t_d : Hid (Tell _ _ _ _ _ _) := t_d.out.below hb_
                    clear hb_
                    obtain ⟨⟨b_h_0, b_h_1, b_h_2, b_h_3⟩, ⟨b_h_5, b_h_6, b_h_7, b_h_8⟩, b_h_4⟩ := b_h.out
                    go_upto_region 32 with fail
                    clear b_h_0 b_h_1 b_h_2 b_h_3 b_h_4 b_h_5 b_h_6 b_h_7 b_h_8
                    have bs_ := bes_puts w12_ k_h (.bool r3x0_n) (.slice r3x0_a r3x0_m r3x0_c) (.int .i64 r3x0_p) (.slice none 0 0)
                    have mB_ := b_h.out.put (.bool r3x0_n) (.slice r3x0_a r3x0_m r3x0_c) (.int .i64 r3x0_p) (.slice none 0 0)
                    have tB_ := ht2_.put (b := k_h) KB_h.out (.bool r3x0_n) (.slice r3x0_a r3x0_m r3x0_c) (.int .i64 r3x0_p) (.slice none 0 0)
                    replace BW : Hid (Below _ _ _) := Bes.old BW.out bs_ L_h.out
                    replace UZ : Hid (URow _ _ _ _ _) := UZ.out.puts (Apt.ne K_hg.out) (.bool r3x0_n) (.slice r3x0_a r3x0_m r3x0_c) (.int .i64 r3x0_p) (.slice none 0 0)
                    replace UU : Hid (URow _ _ _ _ _) := UU.out.puts AUh.out (.bool r3x0_n) (.slice r3x0_a r3x0_m r3x0_c) (.int .i64 r3x0_p) (.slice none 0 0)
                    replace M : Hid (MBox _ _ _ _ _ _) := M.out.bes bs_ (ne_some K_hM.out)
                    replace D : Hid (MBox _ _ _ _ _ _) := D.out.bes bs_ (ne_some K_hD.out)
                    replace ZB1 : Hid (_ ≤ _) := Nat.le_trans ZB1.out (Bes.size bs_)
                    replace b_d : Hid (BoxF _ _ _ _ _ _) := b_d.out.puts N_hd.out (.bool r3x0_n) (.slice r3x0_a r3x0_m r3x0_c) (.int .i64 r3x0_p) (.slice none 0 0)
                    replace t_d : Hid (Tell _ _ _ _ _ _) := t_d.out.put (b := k_h) KB_h.out (.bool r3x0_n) (.slice r3x0_a r3x0_m r3x0_c) (.int .i64 r3x0_p) (.slice none 0 0)
                    replace b_h : Hid (BoxF _ _ _ _ _ _) := mB_
                    replace t_h : Hid (Tell _ B1 (.agg #[.bool r3x0_n, .slice r3x0_a r3x0_m r3x0_c, .int .i64 r3x0_p, .slice none 0 0]) 17 17 (((xv x).natAbs : Int))) := tB_
                    clear mB_ tB_ bs_ ht2_
                    generalize ((((w12_.setCell ⟨k_h, 0, none⟩ (.bool r3x0_n)).setCell ⟨k_h, 1, none⟩ (.slice r3x0_a r3x0_m r3x0_c)).setCell ⟨k_h, 2, none⟩ (.int .i64 r3x0_p)).setCell ⟨k_h, 3, none⟩ (.slice none 0 0)) = w13_ at BW UZ UU M D b_h t_h ZB1 b_d t_d ⊢
                    have TH : Hid (Tell _ _ _ 17 17 (mxv XF (n * C + (m + 1)))) := t_h.out.eq (by rw [EM.out, if_pos HGT.out, HAV.out])
                    clear t_h b_d t_d EM HGT HC HAV
                    obtain ⟨M_0, M_1, M_2, M_3, M_4⟩ := M.out
                    go_wp2_with fail
                    refine (mAtN R C S _ _ _ Z n m _ T2.out UZ.out (by omega) (by omega)).mono ?_
                    rintro e w14_ ⟨rfl, hb14_⟩
                    rw [HZX.out]
                    clear M_0 M_1 M_2 M_3 M_4
                    replace BW : Hid (Below _ _ _) := bstep BW.out hb14_
                    replace UZ : Hid (URow _ _ _ _ _) := UZ.out.below hb14_
                    replace UU : Hid (URow _ _ _ _ _) := UU.out.below hb14_
                    replace M : Hid (MBox _ _ _ _ _ _) := M.out.below hb14_
                    replace D : Hid (MBox _ _ _ _ _ _) := D.out.below hb14_
                    replace b_h : Hid (BoxF _ _ _ _ _ _) := b_h.out.below hb14_
                    replace ZB1 : Hid (_ ≤ _) := Nat.le_trans ZB1.out (Below.size hb14_)
                    replace TH : Hid (Tell _ _ _ _ _ _) := TH.out.below hb14_
                    clear hb14_
                    obtain ⟨M_0, M_1, M_2, M_3, M_4⟩ := M.out
                    obtain ⟨D_0, D_1, D_2, D_3, D_4⟩ := D.out
                    go_wp2_with fail
                    refine (mScale x (-E) _ x0 x1 (by omega) (by omega)).mono ?_
                    rintro e w15_ ⟨rfl, hb15_⟩
                    rw [HEU.out]
                    clear M_0 M_1 M_2 M_3 M_4 D_0 D_1 D_2 D_3 D_4
                    replace BW : Hid (Below _ _ _) := bstep BW.out hb15_
                    replace UZ : Hid (URow _ _ _ _ _) := UZ.out.below hb15_
                    replace UU : Hid (URow _ _ _ _ _) := UU.out.below hb15_
                    replace M : Hid (MBox _ _ _ _ _ _) := M.out.below hb15_
                    replace D : Hid (MBox _ _ _ _ _ _) := D.out.below hb15_
                    replace b_h : Hid (BoxF _ _ _ _ _ _) := b_h.out.below hb15_
                    replace ZB1 : Hid (_ ≤ _) := Nat.le_trans ZB1.out (Below.size hb15_)
                    replace TH : Hid (Tell _ _ _ _ _ _) := TH.out.below hb15_
                    clear hb15_
                    obtain ⟨D_0, D_1, D_2, D_3, D_4⟩ := D.out
                    go_wp2_with fail
                    refine (mAtN R C C _ _ _ UF n m _ T3.out UU.out (by omega) (by omega)).mono ?_
                    rintro e w16_ ⟨rfl, hb16_⟩
                    rw [HUV.out]
                    clear D_0 D_1 D_2 D_3 D_4
                    replace BW : Hid (Below _ _ _) := bstep BW.out hb16_
                    replace UZ : Hid (URow _ _ _ _ _) := UZ.out.below hb16_
                    replace UU : Hid (URow _ _ _ _ _) := UU.out.below hb16_
                    replace M : Hid (MBox _ _ _ _ _ _) := M.out.below hb16_
                    replace D : Hid (MBox _ _ _ _ _ _) := D.out.below hb16_
                    replace b_h : Hid (BoxF _ _ _ _ _ _) := b_h.out.below hb16_
                    replace ZB1 : Hid (_ ≤ _) := Nat.le_trans ZB1.out (Below.size hb16_)
                    replace TH : Hid (Tell _ _ _ _ _ _) := TH.out.below hb16_
                    clear hb16_
                    go_wp2
                    go_roundw
                    case rel => exact ⟨m + 1, _, _, _, _, _, by go_num, by omega, M, D, UZ, UU, b_h, TH, BW, ZB1⟩
                    case measure => simp [intOf]; omega
                  · skip
                    have hc1 : ¬ 0 < c := by have := (cmp_gt _ _).2 hgt; rw [hc] at this; omega
                    have HGT : Hid (AV ≤ mxv XF NC) := Int.not_lt.1 hgt
                    clear hc hgt
                    obtain ⟨⟨b_d_0, b_d_1, b_d_2, b_d_3⟩, ⟨b_d_5, b_d_6, b_d_7, b_d_8⟩, b_d_4⟩ := b_d.out
                    obtain ⟨⟨b_h_0, b_h_1, b_h_2, b_h_3⟩, ⟨b_h_5, b_h_6, b_h_7, b_h_8⟩, b_h_4⟩ := b_h.out
                    go_wp2_with fail
                    clear b_d_0 b_d_1 b_d_2 b_d_3 b_d_4 b_d_5 b_d_6 b_d_7 b_d_8 b_h_0 b_h_1 b_h_2 b_h_3 b_h_4 b_h_5 b_h_6 b_h_7 b_h_8
                    have ct : Cnt 1 := Cnt.mk _
                    have HBa : Hid (Below w11_.heap.size w11_ w11_) := Below.refl _ _
                    go_region_held3 (fun w' => (w'.cell? ⟨k_d, 0, none⟩ = some (.bool d_n) ∧ w'.cell? ⟨k_d, 1, none⟩ = some (.slice d_a d_m d_c) ∧ w'.cell? ⟨k_d, 2, none⟩ = some (.int .i64 d_p) ∧ w'.cell? ⟨k_d, 3, none⟩ = some (.slice none 0 0)) ∧ (w'.cell? ⟨k_h, 0, none⟩ = some (.bool h_n) ∧ w'.cell? ⟨k_h, 1, none⟩ = some (.slice h_a h_m h_c) ∧ w'.cell? ⟨k_h, 2, none⟩ = some (.int .i64 h_p) ∧ w'.cell? ⟨k_h, 3, none⟩ = some (.slice none 0 0))) (exact ⟨(b_d.out.below (by with_reducible repeat (first | (refine Below.drew ?_) | (refine bmore ?_ _) | exact HBa.out | exact Below.refl _ _))).cells, (b_h.out.below (by with_reducible repeat (first | (refine Below.drew ?_) | (refine bmore ?_ _) | exact HBa.out | exact Below.refl _ _))).cells⟩) (first | (have ck : Cnt 1 := ct; go_at_call 34; refine (dAbs _ _ B1 17 17 _ (t_d.out.below (by with_reducible repeat (first | (refine Below.drew ?_) | (refine bmore ?_ _) | exact HBa.out | exact Below.refl _ _))) (by omega) (by omega)).mono ?_; rintro e Wq0_ ⟨r2x0_v, rfl, ht_, hb_⟩; obtain ⟨r2x0_n, r2x0_a, r2x0_m, r2x0_c, r2x0_p, rfl, ht2_⟩ := ht_.numform; clear ht_; have hbt_ : Below w11_.heap.size w11_ Wq0_ := bstep (by with_reducible repeat (first | (refine Below.drew ?_) | (refine bmore ?_ _) | exact (Below.refl _ _) | exact Below.refl _ _)) hb_; have t_r2x0 : Hid (Tell Wq0_ B1 (.agg #[.bool r2x0_n, .slice r2x0_a r2x0_m r2x0_c, .int .i64 r2x0_p, .slice none 0 0]) 17 17 (((xv x).natAbs : Int))) := ht2_.base (Nat.le_trans ZB1.out (Below.size (B := w11_.heap.size) (by with_reducible repeat (first | (refine Below.drew ?_) | (refine bmore ?_ _) | exact HBa.out | exact Below.refl _ _)))); clear ht2_; replace HBa : Hid (Below w11_.heap.size w11_ Wq0_) := bstep HBa.out hbt_; replace ct : Cnt 2 := Cnt.mk _; clear hb_ hbt_ ck) | (have ck : Cnt 2 := ct; go_at_call 35; refine (dCmp _ _ _ B1 17 17 _ _ (t_r2x0.out.below (by with_reducible repeat (first | (refine Below.drew ?_) | (refine bmore ?_ _) | exact (Below.refl _ _) | exact Below.refl _ _))) (t_h.out.below (by with_reducible repeat (first | (refine Below.drew ?_) | (refine bmore ?_ _) | exact HBa.out | exact Below.refl _ _))) (by omega) (by omega)).mono ?_; rintro e Wq1_ ⟨rfl, hb_⟩; rw [HAV.out, HC.out]; have hbt_ : Below Wq0_.heap.size Wq0_ Wq1_ := bstep (by with_reducible repeat (first | (refine Below.drew ?_) | (refine bmore ?_ _) | exact (Below.refl _ _) | exact Below.refl _ _)) hb_; replace t_r2x0 : Hid (Tell _ _ _ _ _ _) := t_r2x0.out.below hbt_; replace HBa : Hid (Below w11_.heap.size w11_ Wq1_) := bstep HBa.out hbt_; replace ct : Cnt 3 := Cnt.mk _; clear hb_ hbt_ ck))
                    replace BW : Hid (Below _ _ _) := bstep BW.out HBa.out
                    replace UZ : Hid (URow _ _ _ _ _) := UZ.out.below HBa.out
                    replace UU : Hid (URow _ _ _ _ _) := UU.out.below HBa.out
                    replace M : Hid (MBox _ _ _ _ _ _) := M.out.below HBa.out
                    replace D : Hid (MBox _ _ _ _ _ _) := D.out.below HBa.out
                    replace b_h : Hid (BoxF _ _ _ _ _ _) := b_h.out.below HBa.out
                    replace t_h : Hid (Tell _ _ _ _ _ _) := t_h.out.below HBa.out
                    replace ZB1 : Hid (_ ≤ _) := Nat.le_trans ZB1.out (Below.size HBa.out)
                    replace b_d : Hid (BoxF _ _ _ _ _ _) := b_d.out.below HBa.out
                    replace t_d : Hid (Tell _ _ _ _ _ _) := t_d.out.below HBa.out
                    clear HBa ct t_r2x0
                    have TH : Hid (Tell _ _ _ 17 17 (mxv XF (n * C + (m + 1)))) := t_h.out.eq (by rw [EM.out, if_neg (Int.not_lt.2 HGT.out)])
                    clear t_h b_d t_d EM HGT HC HAV
                    obtain ⟨M_0, M_1, M_2, M_3, M_4⟩ := M.out
                    go_wp2_with fail
                    refine (mAtN R C S _ _ _ Z n m _ T2.out UZ.out (by omega) (by omega)).mono ?_
                    rintro e w12_ ⟨rfl, hb12_⟩
                    rw [HZX.out]
                    clear M_0 M_1 M_2 M_3 M_4
                    replace BW : Hid (Below _ _ _) := bstep BW.out hb12_
                    replace UZ : Hid (URow _ _ _ _ _) := UZ.out.below hb12_
                    replace UU : Hid (URow _ _ _ _ _) := UU.out.below hb12_
                    replace M : Hid (MBox _ _ _ _ _ _) := M.out.below hb12_
                    replace D : Hid (MBox _ _ _ _ _ _) := D.out.below hb12_
                    replace b_h : Hid (BoxF _ _ _ _ _ _) := b_h.out.below hb12_
                    replace ZB1 : Hid (_ ≤ _) := Nat.le_trans ZB1.out (Below.size hb12_)
                    replace TH : Hid (Tell _ _ _ _ _ _) := TH.out.below hb12_
                    clear hb12_
                    obtain ⟨M_0, M_1, M_2, M_3, M_4⟩ := M.out
                    obtain ⟨D_0, D_1, D_2, D_3, D_4⟩ := D.out
                    go_wp2_with fail
                    refine (mScale x (-E) _ x0 x1 (by omega) (by omega)).mono ?_
                    rintro e w13_ ⟨rfl, hb13_⟩
                    rw [HEU.out]
                    clear M_0 M_1 M_2 M_3 M_4 D_0 D_1 D_2 D_3 D_4
                    replace BW : Hid (Below _ _ _) := bstep BW.out hb13_
                    replace UZ : Hid (URow _ _ _ _ _) := UZ.out.below hb13_
                    replace UU : Hid (URow _ _ _ _ _) := UU.out.below hb13_
                    replace M : Hid (MBox _ _ _ _ _ _) := M.out.below hb13_
                    replace D : Hid (MBox _ _ _ _ _ _) := D.out.below hb13_
                    replace b_h : Hid (BoxF _ _ _ _ _ _) := b_h.out.below hb13_
                    replace ZB1 : Hid (_ ≤ _) := Nat.le_trans ZB1.out (Below.size hb13_)
                    replace TH : Hid (Tell _ _ _ _ _ _) := TH.out.below hb13_
                    clear hb13_
                    obtain ⟨D_0, D_1, D_2, D_3, D_4⟩ := D.out
                    go_wp2_with fail
                    refine (mAtN R C C _ _ _ UF n m _ T3.out UU.out (by omega) (by omega)).mono ?_
                    rintro e w14_ ⟨rfl, hb14_⟩
                    rw [HUV.out]
                    clear D_0 D_1 D_2 D_3 D_4
                    replace BW : Hid (Below _ _ _) := bstep BW.out hb14_
                    replace UZ : Hid (URow _ _ _ _ _) := UZ.out.below hb14_
                    replace UU : Hid (URow _ _ _ _ _) := UU.out.below hb14_
                    replace M : Hid (MBox _ _ _ _ _ _) := M.out.below hb14_
                    replace D : Hid (MBox _ _ _ _ _ _) := D.out.below hb14_
                    replace b_h : Hid (BoxF _ _ _ _ _ _) := b_h.out.below hb14_
                    replace ZB1 : Hid (_ ≤ _) := Nat.le_trans ZB1.out (Below.size hb14_)
                    replace TH : Hid (Tell _ _ _ _ _ _) := TH.out.below hb14_
                    clear hb14_
                    go_wp2
                    go_roundw
                    case rel => exact ⟨m + 1, _, _, _, _, _, by go_num, by omega, M, D, UZ, UU, b_h, TH, BW, ZB1⟩
                    case measure => simp [intOf]; omega
                · obtain rfl : C = m := by omega
                  rw [row_up] at t_h
                  obtain ⟨M_0, M_1, M_2, M_3, M_4⟩ := M.out
                  go_wp2
                  go_roundw
                  case rel => exact ⟨n + 1, _, _, _, _, _, by go_num, by omega, M, D, UZ, UU, b_h, t_h, BW, ZB1⟩
                  case measure => simp [intOf]; omega
            · obtain rfl : R = n := by omega
              rw [Nat.add_zero] at t_h
              have HM := most_unit HF.out HGR.out
              rw [← HXF.out, HE.out] at HM
              rcases HM with ⟨hB, hM⟩ | ⟨hB, hlo, hhi⟩
              · skip
                have hE0 : E = 0 := by rw [← HE.out, hB]; exact upw_zero
                subst hE0
                have HS : Hid (cmpZ (mxv XF (R * C)) 0 = 0) := by rw [hM]; rfl
                clear hB hM
                obtain ⟨⟨b_h_0, b_h_1, b_h_2, b_h_3⟩, ⟨b_h_5, b_h_6, b_h_7, b_h_8⟩, b_h_4⟩ := b_h.out
                obtain ⟨M_0, M_1, M_2, M_3, M_4⟩ := M.out
                go_wp2_with fail
                refine (dSign _ _ B1 17 17 _ t_h.out).mono ?_
                rintro e wq ⟨rfl, hb_⟩
                rw [HS.out]
                clear b_h_0 b_h_1 b_h_2 b_h_3 b_h_4 b_h_5 b_h_6 b_h_7 b_h_8 M_0 M_1 M_2 M_3 M_4
                replace BW : Hid (Below _ _ _) := bstep BW.out hb_
                replace UZ : Hid (URow _ _ _ _ _) := UZ.out.below hb_
                replace UU : Hid (URow _ _ _ _ _) := UU.out.below hb_
                replace M : Hid (MBox _ _ _ _ _ _) := M.out.below hb_
                replace D : Hid (MBox _ _ _ _ _ _) := D.out.below hb_
                replace b_h : Hid (BoxF _ _ _ _ _ _) := b_h.out.below hb_
                replace t_h : Hid (Tell _ _ _ _ _ _) := t_h.out.below hb_
                replace ZB1 : Hid (_ ≤ _) := Nat.le_trans ZB1.out (Below.size hb_)
                clear hb_
                go_wp2
                go_ret
                exact ⟨ret_eq rfl, BW.out⟩
              · skip
                have HS : Hid (cmpZ (mxv XF (R * C)) 0 = 1) := (cmp_gt _ _).1 (Int.lt_of_lt_of_le (Int.ofNat_lt.2 (Nat.two_pow_pos _)) hlo)
                have QA : Hid (clampT E = E) := by show clampT E = E; unfold clampT; omega
                have QB : Hid (clampT (E + 1) = E + 1) := by show clampT (E + 1) = E + 1; unfold clampT; omega
                have hwq : IntKind.i64.wrap (E + 1) = E + 1 := by rw [IntKind.wrap_i64]; omega
                obtain ⟨pa, hpa⟩ : ∃ p : Int, ((2 ^ (E + 64 * 17).toNat : Nat) : Int) = p := ⟨_, rfl⟩
                obtain ⟨pb, hpb⟩ : ∃ p : Int, ((2 ^ (E + 1 + 64 * 17).toNat : Nat) : Int) = p := ⟨_, rfl⟩
                rw [hpa] at hlo
                rw [hpb] at hhi
                obtain ⟨ca, hca⟩ : ∃ c, cmpZ (mxv XF (R * C)) pa = c := ⟨_, rfl⟩
                obtain ⟨cb, hcb⟩ : ∃ c, cmpZ (mxv XF (R * C)) pb = c := ⟨_, rfl⟩
                have hca0 : 0 ≤ ca := by rw [← hca]; exact cmp_nonneg _ _ hlo
                have hcb0 : cb < 0 := by rw [← hcb]; unfold cmpZ; rw [if_pos hhi]; decide
                have HCA : Hid (_ = _) := hca
                have HCB : Hid (_ = _) := hcb
                have HPA : Hid (((2 ^ (clampT E + 64 * ((17 : Nat) : Int)).toNat : Nat) : Int) = pa) := by rw [QA.out]; exact hpa
                have HPB : Hid (((2 ^ (clampT (E + 1) + 64 * ((17 : Nat) : Int)).toNat : Nat) : Int) = pb) := by rw [QB.out]; exact hpb
                clear hlo hhi hpa hpb hca hcb hB
                obtain ⟨⟨b_h_0, b_h_1, b_h_2, b_h_3⟩, ⟨b_h_5, b_h_6, b_h_7, b_h_8⟩, b_h_4⟩ := b_h.out
                obtain ⟨M_0, M_1, M_2, M_3, M_4⟩ := M.out
                go_wp2_with fail
                refine (dSign _ _ B1 17 17 _ t_h.out).mono ?_
                rintro e w8_ ⟨rfl, hb_⟩
                rw [HS.out]
                clear b_h_0 b_h_1 b_h_2 b_h_3 b_h_4 b_h_5 b_h_6 b_h_7 b_h_8 M_0 M_1 M_2 M_3 M_4
                replace BW : Hid (Below _ _ _) := bstep BW.out hb_
                replace UZ : Hid (URow _ _ _ _ _) := UZ.out.below hb_
                replace UU : Hid (URow _ _ _ _ _) := UU.out.below hb_
                replace M : Hid (MBox _ _ _ _ _ _) := M.out.below hb_
                replace D : Hid (MBox _ _ _ _ _ _) := D.out.below hb_
                replace b_h : Hid (BoxF _ _ _ _ _ _) := b_h.out.below hb_
                replace t_h : Hid (Tell _ _ _ _ _ _) := t_h.out.below hb_
                replace ZB1 : Hid (_ ≤ _) := Nat.le_trans ZB1.out (Below.size hb_)
                clear hb_
                obtain ⟨⟨b_h_0, b_h_1, b_h_2, b_h_3⟩, ⟨b_h_5, b_h_6, b_h_7, b_h_8⟩, b_h_4⟩ := b_h.out
                go_wp2_with fail
                clear b_h_0 b_h_1 b_h_2 b_h_3 b_h_4 b_h_5 b_h_6 b_h_7 b_h_8
                have ct : Cnt 1 := Cnt.mk _
                have HBa : Hid (Below w8_.heap.size w8_ w8_) := Below.refl _ _
                go_region_held3 (fun w' => (w'.cell? ⟨k_h, 0, none⟩ = some (.bool h_n) ∧ w'.cell? ⟨k_h, 1, none⟩ = some (.slice h_a h_m h_c) ∧ w'.cell? ⟨k_h, 2, none⟩ = some (.int .i64 h_p) ∧ w'.cell? ⟨k_h, 3, none⟩ = some (.slice none 0 0))) (exact (b_h.out.below (by with_reducible repeat (first | (refine Below.drew ?_) | (refine bmore ?_ _) | exact HBa.out | exact Below.refl _ _))).cells) (first | (have ck : Cnt 1 := ct; go_at_call 38; refine (dTwoAt E 17 18 pa _ (by rw [QA.out]; omega) (by rw [QA.out]; omega) (by decide) HPA.out).mono ?_; rintro e Wq0_ ⟨r2x0_v, rfl, ht_, hb_⟩; obtain ⟨r2x0_n, r2x0_a, r2x0_m, r2x0_c, r2x0_p, rfl, ht2_⟩ := ht_.numform; clear ht_; have hbt_ : Below w8_.heap.size w8_ Wq0_ := bstep (by with_reducible repeat (first | (refine Below.drew ?_) | (refine bmore ?_ _) | exact (Below.refl _ _) | exact Below.refl _ _)) hb_; have t_r2x0 : Hid (Tell Wq0_ B1 (.agg #[.bool r2x0_n, .slice r2x0_a r2x0_m r2x0_c, .int .i64 r2x0_p, .slice none 0 0]) 17 18 (pa)) := ht2_.base (Nat.le_trans ZB1.out (Below.size (B := w8_.heap.size) (by with_reducible repeat (first | (refine Below.drew ?_) | (refine bmore ?_ _) | exact HBa.out | exact Below.refl _ _)))); clear ht2_; replace HBa : Hid (Below w8_.heap.size w8_ Wq0_) := bstep HBa.out hbt_; replace ct : Cnt 2 := Cnt.mk _; clear hb_ hbt_ ck) | (have ck : Cnt 2 := ct; go_at_call 35; refine (dCmp _ _ _ B1 17 18 _ _ ((t_h.out.below (by with_reducible repeat (first | (refine Below.drew ?_) | (refine bmore ?_ _) | exact HBa.out | exact Below.refl _ _))).wide 18 (by decide)) (t_r2x0.out.below (by with_reducible repeat (first | (refine Below.drew ?_) | (refine bmore ?_ _) | exact (Below.refl _ _) | exact Below.refl _ _))) (by omega) (by omega)).mono ?_; rintro e Wq1_ ⟨rfl, hb_⟩; rw [HCA.out]; have hbt_ : Below Wq0_.heap.size Wq0_ Wq1_ := bstep (by with_reducible repeat (first | (refine Below.drew ?_) | (refine bmore ?_ _) | exact (Below.refl _ _) | exact Below.refl _ _)) hb_; replace t_r2x0 : Hid (Tell _ _ _ _ _ _) := t_r2x0.out.below hbt_; replace HBa : Hid (Below w8_.heap.size w8_ Wq1_) := bstep HBa.out hbt_; replace ct : Cnt 3 := Cnt.mk _; clear hb_ hbt_ ck) | (have ck : Cnt 3 := ct; go_at_call 38; refine (dTwoAt (E + 1) 17 18 pb _ (by rw [QB.out]; omega) (by rw [QB.out]; omega) (by decide) HPB.out).mono ?_; rintro e Wq2_ ⟨r2x2_v, rfl, ht_, hb_⟩; obtain ⟨r2x2_n, r2x2_a, r2x2_m, r2x2_c, r2x2_p, rfl, ht2_⟩ := ht_.numform; clear ht_; have hbt_ : Below Wq1_.heap.size Wq1_ Wq2_ := bstep (by with_reducible repeat (first | (refine Below.drew ?_) | (refine bmore ?_ _) | exact (Below.refl _ _) | exact Below.refl _ _)) hb_; have t_r2x2 : Hid (Tell Wq2_ B1 (.agg #[.bool r2x2_n, .slice r2x2_a r2x2_m r2x2_c, .int .i64 r2x2_p, .slice none 0 0]) 17 18 (pb)) := ht2_.base (Nat.le_trans ZB1.out (Below.size (B := w8_.heap.size) (by with_reducible repeat (first | (refine Below.drew ?_) | (refine bmore ?_ _) | exact HBa.out | exact Below.refl _ _)))); clear ht2_; replace t_r2x0 : Hid (Tell _ _ _ _ _ _) := t_r2x0.out.below hbt_; replace HBa : Hid (Below w8_.heap.size w8_ Wq2_) := bstep HBa.out hbt_; replace ct : Cnt 4 := Cnt.mk _; clear hb_ hbt_ ck) | (have ck : Cnt 4 := ct; go_at_call 35; refine (dCmp _ _ _ B1 17 18 _ _ ((t_h.out.below (by with_reducible repeat (first | (refine Below.drew ?_) | (refine bmore ?_ _) | exact HBa.out | exact Below.refl _ _))).wide 18 (by decide)) (t_r2x2.out.below (by with_reducible repeat (first | (refine Below.drew ?_) | (refine bmore ?_ _) | exact (Below.refl _ _) | exact Below.refl _ _))) (by omega) (by omega)).mono ?_; rintro e Wq3_ ⟨rfl, hb_⟩; rw [HCB.out]; have hbt_ : Below Wq2_.heap.size Wq2_ Wq3_ := bstep (by with_reducible repeat (first | (refine Below.drew ?_) | (refine bmore ?_ _) | exact (Below.refl _ _) | exact Below.refl _ _)) hb_; replace t_r2x0 : Hid (Tell _ _ _ _ _ _) := t_r2x0.out.below hbt_; replace t_r2x2 : Hid (Tell _ _ _ _ _ _) := t_r2x2.out.below hbt_; replace HBa : Hid (Below w8_.heap.size w8_ Wq3_) := bstep HBa.out hbt_; replace ct : Cnt 5 := Cnt.mk _; clear hb_ hbt_ ck))
                replace BW : Hid (Below _ _ _) := bstep BW.out HBa.out
                replace UZ : Hid (URow _ _ _ _ _) := UZ.out.below HBa.out
                replace UU : Hid (URow _ _ _ _ _) := UU.out.below HBa.out
                replace M : Hid (MBox _ _ _ _ _ _) := M.out.below HBa.out
                replace D : Hid (MBox _ _ _ _ _ _) := D.out.below HBa.out
                replace b_h : Hid (BoxF _ _ _ _ _ _) := b_h.out.below HBa.out
                replace t_h : Hid (Tell _ _ _ _ _ _) := t_h.out.below HBa.out
                replace ZB1 : Hid (_ ≤ _) := Nat.le_trans ZB1.out (Below.size HBa.out)
                clear HBa ct t_r2x0 t_r2x2
                go_wp2
                go_ret
                exact ⟨ret_eq rfl, BW.out⟩

/-! ### THE ROW's STEP: WRITTEN OUT: LEAVE IT -/
set_option maxRecDepth 100000 in
theorem lifted (os : Os) (started : os.Started) (H : Type) (enc : TypeId × Value → H) :
    ReturnsInHanded {} Try.checked os 6 .any (Rows.matUnitsSpec.pre6 enc Try.prog Try.f6 Rows.matUnitsRow.domain false) (Rows.matUnitsSpec.post enc Try.prog Try.f6 false true false false) := by
  refine returnsInHanded_of_change (C := Try.checked) own started (by kernel_rfl) Try.func6
    (ChangeSpec.witness6 (enc := enc) (C := Try.checked) false ⟨#[], #[.int .i64 0, .int .i64 0, .int .i64 0, .slice none 0 0], []⟩ 8 (by kernel_rfl) (by kernel_rfl) (by kernel_rfl) (by kernel_rfl)) ?_
  intro W base args ds gs before hval0 hW hcnd _
  have hval : ∀ (j : Nat) t v, Try.f6.params[j]? = some t → args[j]? = some v → Value.okWide Try.prog W .any base t v := hval0
  have hW' := hW
  obtain ⟨p, q, hA0, hV, rfl, hfz, hnd⟩ := hW
  have hA : DataW.TrodAll enc Try.prog W 0 (fun _ => true) true Try.f6.params.toList args.toList ds p := hA0
  rw [Try.params6] at hA hval
  obtain ⟨v0, vs0, d0, ds0, p0, q0, hargs, rfl, rfl, h0, r0⟩ := trodAll_cons hA
  obtain ⟨v1, vs1, d1, ds1, p1, q1, rfl, rfl, rfl, h1, r1⟩ := trodAll_cons r0
  obtain ⟨v2, vs2, d2, ds2, p2, q2, rfl, rfl, rfl, h2, r2⟩ := trodAll_cons r1
  obtain ⟨v3, vs3, d3, ds3, p3, q3, rfl, rfl, rfl, h3, r3⟩ := trodAll_cons r2
  obtain ⟨rfl, rfl, rfl⟩ := trodAll_nil r3
  obtain rfl : args = #[v0, v1, v2, v3] := by cases args; simp_all
  obtain ⟨rfl, rfl⟩ := trodVars_none hV
  obtain ⟨a0, rfl, rfl, rfl, w0⟩ := open_int Try.underlying3 (hval 0 3 v0 rfl rfl) h0
  obtain ⟨a1, rfl, rfl, rfl, w1⟩ := open_int Try.underlying3 (hval 1 3 v1 rfl rfl) h1
  obtain ⟨a2, rfl, rfl, rfl, w2⟩ := open_int Try.underlying3 (hval 2 3 v2 rfl rfl) h2
  obtain ⟨a3, len3, cap3, rfl⟩ := okWide_slice Try.underlying23 (hval 3 23 v3 rfl rfl)
  have k3 := h3
  have lt3 : ∀ x ∈ p3, x.block < W.heap.size := by obtain ⟨m, hm⟩ := k3; exact DataW.trod_lt m _ _ _ hm
  obtain ⟨z3, w3⟩ : ∃ zs, IsRow .u64 W a3 len3 cap3 zs := by
    obtain ⟨fuel, hf⟩ := h3
    rcases open_ints Try.underlying23 Try.underlying26 (by kernel_rfl) hf with ⟨hcs, _⟩ | ⟨x, l, c, zs, hcs, _, hl, hm, hz, _, hcell, hwz⟩
    · simp [Value.cells] at hcs
      obtain ⟨rfl, rfl, rfl⟩ := hcs
      exact ⟨[], .inl ⟨rfl, rfl, rfl, rfl⟩⟩
    · simp [Value.cells] at hcs
      obtain ⟨rfl, rfl, rfl⟩ := hcs
      exact ⟨zs, .inr ⟨_, rfl, hl, hm, by simpa using hz, hcell, hwz⟩⟩
  clear hA0 hval0
  refine (walk a0 a1 a2 a3 len3 cap3 z3 W w0 w1 w2 w3).mono fun e W' ⟨he, bel⟩ => ?_
  subst he
  exact ⟨_, rfl, _, _, _, [], _, [], hW', trodAll_mk1 (shut_bool Try.underlying4 _), (trodAll_cons_mk (shut_int Try.underlying3 w0) (trodAll_cons_mk (shut_int Try.underlying3 w1) (trodAll_cons_mk (shut_int Try.underlying3 w2) (trodAll_cons_mk (Below.trod laidOut (by kernel_rfl) (of_decide_eq_true (by kernel_rfl)) k3 bel lt3) trodAll_mk0)))), rfl, bel.frame _, fun h => by cases h⟩

theorem over : Rows.matUnitsRow.holds Try.pinned (OpenSpec.ofChange Rows.matUnitsSpec) :=
  OpenClaim.holds_of_wide 6 Try.f6 rfl rfl rfl rfl rfl rfl rfl ⟨rfl, rfl, rfl, rfl, rfl⟩ rfl rfl rfl rfl rfl (by kernel_rfl) Try.func6 (by kernel_rfl)
    (of_decide_eq_true (by kernel_rfl)) (by unfold Func.isWrapper; first | (rw [if_pos (by decide +kernel)]; kernel_rfl) | (rw [if_neg (by decide +kernel)]; exact ⟨rfl, rfl⟩))
    (fun os started H enc _ => lifted os started H enc)

/-- ████ THE STATEMENT ████ -/
theorem proved : Rows.MatUnitsSaid := over
#print axioms proved
end Go.Proofs.Ytokgfeeaoioegaa.matUnits
