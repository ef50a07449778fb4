/-
  The law VecSteps returns true at every input (any slices of patterns, any two patterns), and leaves its arguments as they were. No conditions.
-/
import Derived.Test.YtokgfeeaoioegaaRows
import Derived.WalkKit
import Derived.ProofKit
import Derived.OpenShut
import Derived.Deep.RegionWith
import Derived.Test.YtokgfeeaoioegaaGrM
import Derived.Test.YtokgfeeaoioegaaGrN
import Derived.ShutString
import Derived.ChangeOld
import Derived.Below
namespace Go.Proofs.Ytokgfeeaoioegaa.vecSteps
open Go.ChangeShapes Go.WideShapes Go.ChangeAt Go.RowKit
open Go.ChangeMaps (open_string shut_string)
set_option linter.unusedVariables false

theorem own : ownKnob Try.prog.godebug = none := by kernel_rfl
theorem laidOut : laidOutB Try.prog = true := by kernel_rfl

/-- WHAT THE WALK IS TOLD OF A SLICE OF INTEGERS THAT CAME IN: it is nil; or it leads to a row of 'cap' cells, the numbers 'zs' (the first 'len' are its elements, the rest its spare room), each fitting its kind. -/
def IsRow (k : IntKind) (w : World) (a : Option Addr) (len cap : Nat) (zs : List Int) : Prop :=
  (a = none ∧ len = 0 ∧ cap = 0 ∧ zs = []) ∨
  ∃ x, a = some x ∧ len ≤ cap ∧ cap ≤ maxLen ∧ zs.length = cap ∧ (∀ i, i < zs.length → w.cell? (x.add i) = some (.int k (zs.getD i 0))) ∧ ∀ n ∈ zs, (Lit.int k n).wf = true

set_option linter.unusedSimpArgs false
theorem row_of (w : World) (a : Option Addr) (len cap : Nat) (zs : List Int) (h : IsRow .u64 w a len cap zs) : URow w a len cap (fun i => zs.getD i 0) := by
  rcases h with ⟨rfl, rfl, rfl, rfl⟩ | ⟨x, rfl, h1, h2, h3, h4, h5⟩
  · exact ⟨Nat.le_refl _, Nat.zero_le _, fun i => by simp, fun h => absurd h (Nat.lt_irrefl 0)⟩
  · refine ⟨h1, h2, fun i => ?_, fun hp => ?_⟩
    · show 0 ≤ zs.getD i 0 ∧ zs.getD i 0 < 18446744073709551616
      rcases Nat.lt_or_ge i zs.length with g | g
      · have hm : zs.getD i 0 ∈ zs := by
          rw [List.getD_eq_getElem?_getD, List.getElem?_eq_getElem g]
          exact List.getElem_mem g
        obtain ⟨q1, q2⟩ := bounds_u64 (h5 _ hm)
        exact ⟨q1, by omega⟩
      · rw [List.getD_eq_getElem?_getD, List.getElem?_eq_none g]
        simp
    · obtain ⟨b, o, s⟩ := x
      have hs : s = none := by simpa [Addr.add] using World.cell?_spot (h4 0 (by omega))
      subst hs
      have hb : b < w.heap.size := by
        have := World.block_lt_of_cell? _ _ (h4 0 (by omega))
        simpa [Addr.add] using this
      refine ⟨b, o, rfl, hb, fun i hi => ?_⟩
      have := h4 i (by omega)
      rw [add_plain] at this
      exact this
theorem calc_cell {w : World} {k : Nat} {F : Int} (h : IsCalc w (.pointer (some ⟨k, 0, none⟩)) (some k) F) : w.cell? ⟨k, 0, none⟩ = some (.int .u8 F) ∧ w.frozen? ⟨k, 0, none⟩ = false ∧ k < w.heap.size := by
  rcases h with ⟨_, h⟩ | ⟨j, _, h2, h3, h4, h5⟩
  · cases h
  · injection h2 with h2
    subst h2
    exact ⟨h4, h5, h3⟩
set_option maxRecDepth 100000 in
set_option maxHeartbeats 8000000 in
theorem walk (a0 : Option Addr) (len0 cap0 : Nat) (z0 : List Int) (a1 : Option Addr) (len1 cap1 : Nat) (z1 : List Int) (a2 : Int) (a3 : Int) (w : World) (w0 : IsRow .u64 w a0 len0 cap0 z0) (w1 : IsRow .u64 w a1 len1 cap1 z1) (w2 : (Lit.int .u64 a2).wf = true) (w3 : (Lit.int .u64 a3).wf = true) :
    Calls Try.prog 9 #[.slice a0 len0 cap0, .slice a1 len1 cap1, .int .u64 a2, .int .u64 a3] w fun e w' => e = .returned (.bool true) ∧ Below w.heap.size w w' := by
  have hx := row_of w a0 len0 cap0 z0 w0
  have hy := row_of w a1 len1 cap1 z1 w1
  generalize (fun i => z0.getD i 0) = X at hx
  generalize (fun i => z1.getD i 0) = Y at hy
  obtain ⟨f0, f1⟩ := bounds_u64 w2
  obtain ⟨g0, g1⟩ := bounds_u64 w3
  clear w0 w1 w2 w3
  have fa1 : a2 < 18446744073709551616 := by omega
  have fa2 : a3 < 18446744073709551616 := by omega
  by_cases hl : 50 < len0
  · have hl2 : (50 : Int) < (len0 : Int) := by omega
    have hd : decide ((50 : Int) < (len0 : Int)) = true := decide_eq_true hl2
    clear hx hy
    go_enter Try.func9, Try.ntmps9
    go_wp2_with fail
    refine (lHead10 _).mono ?_
    rintro e w1 ⟨rfl, hb1⟩
    go_wp2
    go_ret
    exact ⟨ret_eq rfl, hb1⟩
  by_cases hm : 50 < len1
  · have hl2 : ¬ (50 : Int) < (len0 : Int) := by omega
    have hd : decide ((50 : Int) < (len0 : Int)) = false := decide_eq_false hl2
    have hm2 : (50 : Int) < (len1 : Int) := by omega
    have hd2 : decide ((50 : Int) < (len1 : Int)) = true := decide_eq_true hm2
    clear hx hy
    go_enter Try.func9, Try.ntmps9
    go_wp2_with fail
    refine (lHead10 _).mono ?_
    rintro e w1 ⟨rfl, hb1⟩
    go_wp2
    go_ret
    exact ⟨ret_eq rfl, hb1⟩
  have hl2 : ¬ (50 : Int) < (len0 : Int) := by omega
  have hd : decide ((50 : Int) < (len0 : Int)) = false := decide_eq_false hl2
  have hm2 : ¬ (50 : Int) < (len1 : Int) := by omega
  have hd2 : decide ((50 : Int) < (len1 : Int)) = false := decide_eq_false hm2
  have HX : Hid (URow w a0 len0 cap0 X) := hx
  have HY : Hid (URow w a1 len1 cap1 Y) := hy
  clear hx hy
  go_enter Try.func9, Try.ntmps9
  go_wp2_with fail
  refine (lHead10 _).mono ?_
  rintro e w1 ⟨rfl, hb1⟩
  have BW : Hid (Below w.heap.size w w1) := hb1
  clear hb1
  go_wp2_with fail
  have CN : IsCalc ((w1.alloc (.cells #[.int .u8 0] 66)).alloc (.cells #[.int .u8 0] 66)) (.pointer (some ⟨w1.heap.size, 0, none⟩)) (some w1.heap.size) 0 := (calc_new w1).later ((Below.refl _ _).alloc (Nat.le_refl _) _)
  have KN : IsCalc ((w1.alloc (.cells #[.int .u8 0] 66)).alloc (.cells #[.int .u8 0] 66)) (.pointer (some ⟨w1.heap.size + 1, 0, none⟩)) (some (w1.heap.size + 1)) 0 := by
    have := calc_new (w1.alloc (.cells #[.int .u8 0] 66))
    simp only [World.size_alloc] at this
    exact this
  have bV : Below w1.heap.size w1 ((w1.alloc (.cells #[.int .u8 0] 66)).alloc (.cells #[.int .u8 0] 66)) := bmore (bmore (Below.refl _ _) _) _
  generalize ((w1.alloc (.cells #[.int .u8 0] 66)).alloc (.cells #[.int .u8 0] 66)) = V at CN KN bV ⊢
  obtain ⟨kc, hkc⟩ : ∃ k, k = w1.heap.size := ⟨_, rfl⟩
  obtain ⟨kk, hkk⟩ : ∃ k, k = w1.heap.size + 1 := ⟨_, rfl⟩
  rw [← hkk] at KN ⊢
  rw [← hkc] at CN ⊢
  have OC : Hid (w.heap.size ≤ kc) := by show _ ≤ _; rw [hkc]; exact BW.out.size
  have OK : Hid (w.heap.size ≤ kk) := by show _ ≤ _; rw [hkk]; exact Nat.le_trans BW.out.size (Nat.le_succ _)
  have OCK : Hid (kc ≠ kk) := by show _ ≠ _; omega
  have OKC : Hid (kk ≠ kc) := by show _ ≠ _; omega
  replace BW : Hid (Below w.heap.size w V) := bstep BW.out bV
  have HC : Hid (IsCalc V (.pointer (some ⟨kc, 0, none⟩)) (some kc) 0) := CN
  have HK : Hid (IsCalc V (.pointer (some ⟨kk, 0, none⟩)) (some kk) 0) := KN
  have UX : Hid (URow V a0 len0 cap0 X) := HX.out.below BW.out
  have UY : Hid (URow V a1 len1 cap1 Y) := HY.out.below BW.out
  have AXc : Hid (Apt (some kc) a0 len0) := HX.out.apt (fun k e => by injection e with e; rw [← e]; exact OC.out)
  have AYc : Hid (Apt (some kc) a1 len1) := HY.out.apt (fun k e => by injection e with e; rw [← e]; exact OC.out)
  have AXk : Hid (Apt (some kk) a0 len0) := HX.out.apt (fun k e => by injection e with e; rw [← e]; exact OK.out)
  have AYk : Hid (Apt (some kk) a1 len1) := HY.out.apt (fun k e => by injection e with e; rw [← e]; exact OK.out)
  have ZX : Hid (∀ i, 0 ≤ X i ∧ X i < 18446744073709551616) := HX.out.2.2.1
  have ZY : Hid (∀ i, 0 ≤ Y i ∧ Y i < 18446744073709551616) := HY.out.2.2.1
  clear CN KN bV hkc hkk
  by_cases hne : (len0 : Int) = (len1 : Int)
  · obtain rfl : len0 = len1 := by omega
    refine (vDot _ (some kc) 0 _ _ len0 _ _ X Y _ HC.out UX.out UY.out AXc.out AYc.out).mono ?_
    rintro e w1_ ⟨rfl, hC_, hb1_⟩
    replace BW : Hid (Below _ _ _) := Bes.old BW.out hb1_ OC.out
    replace HK : Hid (IsCalc _ _ _ _) := HK.out.bes hb1_ (fun j e1 e2 => OCK.out ((Option.some.inj e2).trans (Option.some.inj e1).symm))
    replace UX : Hid (URow _ _ _ _ _) := UX.out.bes hb1_ AXc.out
    replace UY : Hid (URow _ _ _ _ _) := UY.out.bes hb1_ AYc.out
    clear hb1_
    clear HC
    have HC : Hid (IsCalc w1_ (.pointer (some ⟨kc, 0, none⟩)) (some kc) (dotF 0 X Y len0)) := hC_
    clear hC_
    go_wp2_with fail
    obtain ⟨g1, hg1⟩ : ∃ g, g = w1_.heap.size := ⟨_, rfl⟩
    have hg1_ : w1_.heap.size ≤ g1 := Nat.le_of_eq hg1.symm
    refine (vAxpy _ (some kc) _ a2 _ _ len0 _ _ X Y _ HC.out UX.out UY.out AXc.out AYc.out (by omega) f0 fa1).mono ?_
    rintro e w2_ ⟨rfl, hU_, hC_, hb2_⟩
    rw [← hg1] at hU_ ⊢
    clear hg1
    have Ncg1 : Hid (kc ≠ g1) := fun e => absurd (Nat.lt_of_lt_of_le (HC.out.lt _ rfl) hg1_) (by rw [e]; exact Nat.lt_irrefl _)
    have Nkg1 : Hid (kk ≠ g1) := fun e => absurd (Nat.lt_of_lt_of_le (HK.out.lt _ rfl) hg1_) (by rw [e]; exact Nat.lt_irrefl _)
    clear hg1_
    replace BW : Hid (Below _ _ _) := Bes.old BW.out hb2_ OC.out
    replace HK : Hid (IsCalc _ _ _ _) := HK.out.bes hb2_ (fun j e1 e2 => OCK.out ((Option.some.inj e2).trans (Option.some.inj e1).symm))
    replace UX : Hid (URow _ _ _ _ _) := UX.out.bes hb2_ AXc.out
    replace UY : Hid (URow _ _ _ _ _) := UY.out.bes hb2_ AYc.out
    clear hb2_
    clear HC
    have HC : Hid (IsCalc w2_ (.pointer (some ⟨kc, 0, none⟩)) (some kc) (axpF (dotF 0 X Y len0) a2 X Y len0)) := hC_
    clear hC_
    have UP : Hid (URow w2_ (some ⟨g1, 0, none⟩) len0 len0 (axpV a2 X Y)) := hU_
    clear hU_
    go_wp2_with fail
    refine (vRot _ (some kc) _ a2 a3 _ _ len0 _ _ X Y _ HC.out UX.out UY.out AXc.out AYc.out (by omega) f0 fa1 g0 fa2).mono ?_
    rintro e w3_ ⟨gA, gB, rfl, hgA_, hgB_, hU_, hV_, hC_, hb3_⟩
    have NcgA : Hid (kc ≠ gA) := fun e => absurd (Nat.lt_of_lt_of_le (HC.out.lt _ rfl) hgA_) (by rw [e]; exact Nat.lt_irrefl _)
    have NkgA : Hid (kk ≠ gA) := fun e => absurd (Nat.lt_of_lt_of_le (HK.out.lt _ rfl) hgA_) (by rw [e]; exact Nat.lt_irrefl _)
    clear hgA_
    have NcgB : Hid (kc ≠ gB) := fun e => absurd (Nat.lt_of_lt_of_le (HC.out.lt _ rfl) hgB_) (by rw [e]; exact Nat.lt_irrefl _)
    have NkgB : Hid (kk ≠ gB) := fun e => absurd (Nat.lt_of_lt_of_le (HK.out.lt _ rfl) hgB_) (by rw [e]; exact Nat.lt_irrefl _)
    clear hgB_
    replace BW : Hid (Below _ _ _) := Bes.old BW.out hb3_ OC.out
    replace HK : Hid (IsCalc _ _ _ _) := HK.out.bes hb3_ (fun j e1 e2 => OCK.out ((Option.some.inj e2).trans (Option.some.inj e1).symm))
    replace UX : Hid (URow _ _ _ _ _) := UX.out.bes hb3_ AXc.out
    replace UY : Hid (URow _ _ _ _ _) := UY.out.bes hb3_ AYc.out
    replace UP : Hid (URow _ _ _ _ _) := UP.out.bes hb3_ (Apt.ne Ncg1.out)
    clear hb3_
    clear HC
    have HC : Hid (IsCalc w3_ (.pointer (some ⟨kc, 0, none⟩)) (some kc) (rotF (axpF (dotF 0 X Y len0) a2 X Y len0) a2 a3 X Y len0)) := hC_
    clear hC_
    have UQ : Hid (URow w3_ (some ⟨gA, 0, none⟩) len0 len0 (rotV a2 a3 X Y)) := hU_
    clear hU_
    have UR : Hid (URow w3_ (some ⟨gB, 0, none⟩) len0 len0 (rotW a2 a3 X Y)) := hV_
    clear hV_
    go_wp2_with fail
    go_loopw [18, 101] (fun s i wr => ∃ j : Nat, s = .int .u64 (dotV X Y j) ∧ i = .int .i64 (j : Int) ∧ j ≤ len0 ∧ Hid (IsCalc wr (.pointer (some ⟨kk, 0, none⟩)) (some kk) (dotF 0 X Y j)) ∧ Hid (Bes (some kk) w3_ wr)) (fun s i _ => len0 - (intOf i).toNat)
    case atStart => exact ⟨0, rfl, rfl, Nat.zero_le _, HK.out, Bes.refl _ _⟩
    case round =>
      clear HK
      obtain ⟨j, rfl, rfl, hj_, HK, HS4⟩ := hrel
      obtain ⟨w4_, rfl⟩ : ∃ x, x = wr := ⟨wr, rfl⟩
      replace BW : Hid (Below _ _ _) := Bes.old BW.out HS4.out OK.out
      replace UX : Hid (URow _ _ _ _ _) := UX.out.bes HS4.out AXk.out
      replace UY : Hid (URow _ _ _ _ _) := UY.out.bes HS4.out AYk.out
      replace UP : Hid (URow _ _ _ _ _) := UP.out.bes HS4.out (Apt.ne Nkg1.out)
      replace HC : Hid (IsCalc _ _ _ _) := HC.out.bes HS4.out (fun j e1 e2 => OKC.out ((Option.some.inj e2).trans (Option.some.inj e1).symm))
      replace UQ : Hid (URow _ _ _ _ _) := UQ.out.bes HS4.out (Apt.ne NkgA.out)
      replace UR : Hid (URow _ _ _ _ _) := UR.out.bes HS4.out (Apt.ne NkgB.out)
      by_cases hlt : (j : Int) < (len0 : Int)
      · skip
        obtain ⟨_, _, zx, fx⟩ := UX.out
        obtain ⟨_, _, zy, fy⟩ := UY.out
        obtain ⟨b1, o1, e_1, l_q1, e1⟩ := fx (by omega)
        obtain ⟨b2, o2, e_2, l_q2, e2⟩ := fy (by omega)
        have q1 := e1 j (by omega)
        have q2 := e2 j (by omega)
        obtain ⟨x0, x1⟩ := zx j
        obtain ⟨y0, y1⟩ := zy j
        obtain ⟨d0, d1⟩ := dotV_rng X Y j
        clear zx fx zy fy e1 e2
        have SV : Hid ((addS (dotV X Y j) (mulS (X j) (Y j)).1).1 = dotV X Y (j + 1)) := rfl
        have SF : Hid (bits .or .u8 (bits .or .u8 (dotF 0 X Y j) (mulS (X j) (Y j)).2) (addS (dotV X Y j) (mulS (X j) (Y j)).1).2 = dotF 0 X Y (j + 1)) := rfl
        obtain ⟨m0, m1⟩ := mulS_rng (X j) (Y j)
        obtain ⟨x, hx⟩ : ∃ x, X j = x := ⟨_, rfl⟩
        obtain ⟨y, hy⟩ : ∃ y, Y j = y := ⟨_, rfl⟩
        obtain ⟨d, hdd⟩ : ∃ d, dotV X Y j = d := ⟨_, rfl⟩
        obtain ⟨F1, hF⟩ : ∃ d, dotF 0 X Y j = d := ⟨_, rfl⟩
        rw [hx] at q1 x0 x1 SV SF m0 m1
        rw [hy] at q2 y0 y1 SV SF m0 m1
        rw [hdd] at d0 d1 SV SF ⊢
        rw [hF] at HK SF
        obtain ⟨M, hM⟩ : ∃ M, mulS x y = M := ⟨_, rfl⟩
        rw [hM] at SV SF m0 m1
        have HM : Hid (_ = _) := hM
        clear hx hy hdd hF hM
        obtain ⟨m, fm⟩ := M
        simp only at SV SF m0 m1
        subst e_1 e_2
        go_wp2
        have ct : Cnt 1 := Cnt.mk _
        have n_q1 : Hid (some kk ≠ some b1) := AXk.out (by omega) b1 o1 none rfl
        have n_q2 : Hid (some kk ≠ some b2) := AYk.out (by omega) b2 o2 none rfl
        go_region_held3 (fun w' => w'.cell? ⟨b1, o1 + j, none⟩ = some (.int .u64 x) ∧ w'.cell? ⟨b2, o2 + j, none⟩ = some (.int .u64 y)) (simp [go_sem, *]) (first | (have ck : Cnt 1 := ct; go_at_call 45; refine (uMul _ (some kk) x y _ _ (by first | exact HK.out | exact HK.out.drew | exact HK.out.drew.drew) x0 x1 y0 y1).mono ?_; rintro e Wc1 ⟨rfl, hC, hB⟩; rw [HM.out] at hC ⊢; have hB1 : Bes (some kk) w4_ Wc1 := (by first | exact hB | exact ((Bes.refl _ _).drew).trans hB | exact (((Bes.refl _ _).drew).drew).trans hB); replace q1 := (hB1.cell (p := ⟨b1, o1 + j, none⟩) l_q1 n_q1.out).trans q1; replace l_q1 := Nat.lt_of_lt_of_le l_q1 hB1.size; replace q2 := (hB1.cell (p := ⟨b2, o2 + j, none⟩) l_q2 n_q2.out).trans q2; replace l_q2 := Nat.lt_of_lt_of_le l_q2 hB1.size; replace HK : Hid (IsCalc _ _ _ _) := hC; replace HS4 : Hid (Bes _ _ _) := HS4.out.trans hB1; replace ct : Cnt 2 := Cnt.mk _; clear hC hB hB1 ck) | (have ck : Cnt 2 := ct; go_at_call 44; refine (uAdd _ (some kk) d m _ _ (by first | exact HK.out | exact HK.out.drew | exact HK.out.drew.drew) d0 d1 m0 m1).mono ?_; rintro e Wc2 ⟨rfl, hC, hB⟩; rw [SV.out]; rw [SF.out] at hC; have hB1 : Bes (some kk) Wc1 Wc2 := (by first | exact hB | exact ((Bes.refl _ _).drew).trans hB | exact (((Bes.refl _ _).drew).drew).trans hB); replace q1 := (hB1.cell (p := ⟨b1, o1 + j, none⟩) l_q1 n_q1.out).trans q1; replace l_q1 := Nat.lt_of_lt_of_le l_q1 hB1.size; replace q2 := (hB1.cell (p := ⟨b2, o2 + j, none⟩) l_q2 n_q2.out).trans q2; replace l_q2 := Nat.lt_of_lt_of_le l_q2 hB1.size; replace HK : Hid (IsCalc _ _ _ _) := hC; replace HS4 : Hid (Bes _ _ _) := HS4.out.trans hB1; replace ct : Cnt 3 := Cnt.mk _; clear hC hB hB1 ck))
        go_wp2
        go_roundw
        case rel => exact ⟨j + 1, rfl, by go_num, by omega, HK, HS4⟩
        case measure => simp [intOf]; omega
      · obtain rfl : len0 = j := by omega
        clear HS4
        go_wp2_with fail
        go_loopw [156] (fun i wr => ∃ j : Nat, i = .int .i64 (j : Int) ∧ j ≤ len0 ∧ Hid (IsCalc wr (.pointer (some ⟨kk, 0, none⟩)) (some kk) (stpF (dotF 0 X Y len0) a2 a3 X Y j)) ∧ Hid (Bes (some kk) w4_ wr)) (fun i _ => len0 - (intOf i).toNat)
        case atStart => exact ⟨0, rfl, Nat.zero_le _, HK.out, Bes.refl _ _⟩
        case round =>
          clear HK
          obtain ⟨j, rfl, hj_, HK, HS5⟩ := hrel
          obtain ⟨w5_, rfl⟩ : ∃ x, x = wr := ⟨wr, rfl⟩
          replace BW : Hid (Below _ _ _) := Bes.old BW.out HS5.out OK.out
          replace UX : Hid (URow _ _ _ _ _) := UX.out.bes HS5.out AXk.out
          replace UY : Hid (URow _ _ _ _ _) := UY.out.bes HS5.out AYk.out
          replace UP : Hid (URow _ _ _ _ _) := UP.out.bes HS5.out (Apt.ne Nkg1.out)
          replace HC : Hid (IsCalc _ _ _ _) := HC.out.bes HS5.out (fun j e1 e2 => OKC.out ((Option.some.inj e2).trans (Option.some.inj e1).symm))
          replace UQ : Hid (URow _ _ _ _ _) := UQ.out.bes HS5.out (Apt.ne NkgA.out)
          replace UR : Hid (URow _ _ _ _ _) := UR.out.bes HS5.out (Apt.ne NkgB.out)
          by_cases hlt : (j : Int) < (len0 : Int)
          · skip
            obtain ⟨_, _, zx, fx⟩ := UX.out
            obtain ⟨_, _, zy, fy⟩ := UY.out
            obtain ⟨b1, o1, e_1, l_q1, e1⟩ := fx (by omega)
            obtain ⟨b2, o2, e_2, l_q2, e2⟩ := fy (by omega)
            obtain ⟨l_q3, q3⟩ := UP.out.cellg j (by omega)
            obtain ⟨l_q4, q4⟩ := UQ.out.cellg j (by omega)
            obtain ⟨l_q5, q5⟩ := UR.out.cellg j (by omega)
            have q1 := e1 j (by omega)
            have q2 := e2 j (by omega)
            obtain ⟨x0, x1⟩ := zx j
            obtain ⟨y0, y1⟩ := zy j
            clear zx fx zy fy e1 e2
            have SP : Hid ((addS (mulS a2 (X j)).1 (Y j)).1 = axpV a2 X Y j) := rfl
            have SQ : Hid ((addS (mulS a2 (X j)).1 (mulS a3 (Y j)).1).1 = rotV a2 a3 X Y j) := rfl
            have SR : Hid ((addS (mulS a2 (Y j)).1 (wFlip (mulS a3 (X j)).1)).1 = rotW a2 a3 X Y j) := rfl
            have SF : Hid (bits .or .u8 (bits .or .u8 (bits .or .u8 (bits .or .u8 (bits .or .u8 (bits .or .u8 (bits .or .u8 (bits .or .u8 (stpF (dotF 0 X Y len0) a2 a3 X Y j) (mulS a2 (X j)).2) (addS (mulS a2 (X j)).1 (Y j)).2) (mulS a2 (X j)).2) (mulS a3 (Y j)).2) (addS (mulS a2 (X j)).1 (mulS a3 (Y j)).1).2) (mulS a2 (Y j)).2) (mulS a3 (X j)).2) (addS (mulS a2 (Y j)).1 (wFlip (mulS a3 (X j)).1)).2 = stpF (dotF 0 X Y len0) a2 a3 X Y (j + 1)) := rfl
            obtain ⟨x, hx⟩ : ∃ x, X j = x := ⟨_, rfl⟩
            obtain ⟨y, hy⟩ : ∃ y, Y j = y := ⟨_, rfl⟩
            obtain ⟨F1, hF⟩ : ∃ d, stpF (dotF 0 X Y len0) a2 a3 X Y j = d := ⟨_, rfl⟩
            obtain ⟨pv, hpv⟩ : ∃ d, axpV a2 X Y j = d := ⟨_, rfl⟩
            obtain ⟨qv, hqv⟩ : ∃ d, rotV a2 a3 X Y j = d := ⟨_, rfl⟩
            obtain ⟨rv, hrv⟩ : ∃ d, rotW a2 a3 X Y j = d := ⟨_, rfl⟩
            rw [hx] at q1 x0 x1 SF SP SQ SR
            rw [hy] at q2 y0 y1 SF SP SQ SR
            rw [hF] at HK SF
            rw [hpv] at q3 SP
            rw [hqv] at q4 SQ
            rw [hrv] at q5 SR
            clear hx hy hF hpv hqv hrv
            obtain ⟨u0, u1⟩ := mulS_rng a2 x
            obtain ⟨v0, v1⟩ := mulS_rng a3 y
            obtain ⟨r0, r1⟩ := mulS_rng a2 y
            obtain ⟨t0, t1⟩ := mulS_rng a3 x
            obtain ⟨M1, h1⟩ : ∃ M, mulS a2 x = M := ⟨_, rfl⟩
            obtain ⟨M2, h2⟩ : ∃ M, mulS a3 y = M := ⟨_, rfl⟩
            obtain ⟨M3, h3⟩ : ∃ M, mulS a2 y = M := ⟨_, rfl⟩
            obtain ⟨M4, h4⟩ : ∃ M, mulS a3 x = M := ⟨_, rfl⟩
            rw [h1] at SP SQ SF u0 u1
            rw [h2] at SQ SF v0 v1
            rw [h3] at SR SF r0 r1
            rw [h4] at SR SF t0 t1
            have H1 : Hid (_ = _) := h1
            have H2 : Hid (_ = _) := h2
            have H3 : Hid (_ = _) := h3
            have H4 : Hid (_ = _) := h4
            clear h1 h2 h3 h4
            obtain ⟨m1, e1⟩ := M1
            obtain ⟨m2, e2⟩ := M2
            obtain ⟨m3, e3⟩ := M3
            obtain ⟨m4, e4⟩ := M4
            simp only at SP SQ SR SF u0 u1 v0 v1 r0 r1 t0 t1
            subst e_1 e_2
            go_wp2
            have ct : Cnt 1 := Cnt.mk _
            have n_q1 : Hid (some kk ≠ some b1) := AXk.out (by omega) b1 o1 none rfl
            have n_q2 : Hid (some kk ≠ some b2) := AYk.out (by omega) b2 o2 none rfl
            have n_q3 : Hid (some kk ≠ some g1) := fun e => Nkg1.out (Option.some.inj e)
            have n_q4 : Hid (some kk ≠ some gA) := fun e => NkgA.out (Option.some.inj e)
            have n_q5 : Hid (some kk ≠ some gB) := fun e => NkgB.out (Option.some.inj e)
            go_region_held3 (fun w' => w'.cell? ⟨b1, o1 + j, none⟩ = some (.int .u64 x) ∧ w'.cell? ⟨b2, o2 + j, none⟩ = some (.int .u64 y) ∧ w'.cell? ⟨g1, j, none⟩ = some (.int .u64 pv) ∧ w'.cell? ⟨gA, j, none⟩ = some (.int .u64 qv) ∧ w'.cell? ⟨gB, j, none⟩ = some (.int .u64 rv)) (simp [go_sem, *]) (first | (have ck : Cnt 1 := ct; go_at_call 45; refine (uMul _ (some kk) a2 x _ _ (by first | exact HK.out | exact HK.out.drew | exact HK.out.drew.drew) f0 fa1 x0 x1).mono ?_; rintro e Wc1 ⟨rfl, hC, hB⟩; rw [H1.out] at hC ⊢; have hB1 : Bes (some kk) w5_ Wc1 := (by first | exact hB | exact ((Bes.refl _ _).drew).trans hB | exact (((Bes.refl _ _).drew).drew).trans hB); replace q1 := (hB1.cell (p := ⟨b1, o1 + j, none⟩) l_q1 n_q1.out).trans q1; replace l_q1 := Nat.lt_of_lt_of_le l_q1 hB1.size; replace q2 := (hB1.cell (p := ⟨b2, o2 + j, none⟩) l_q2 n_q2.out).trans q2; replace l_q2 := Nat.lt_of_lt_of_le l_q2 hB1.size; replace q3 := (hB1.cell (p := ⟨g1, j, none⟩) l_q3 n_q3.out).trans q3; replace l_q3 := Nat.lt_of_lt_of_le l_q3 hB1.size; replace q4 := (hB1.cell (p := ⟨gA, j, none⟩) l_q4 n_q4.out).trans q4; replace l_q4 := Nat.lt_of_lt_of_le l_q4 hB1.size; replace q5 := (hB1.cell (p := ⟨gB, j, none⟩) l_q5 n_q5.out).trans q5; replace l_q5 := Nat.lt_of_lt_of_le l_q5 hB1.size; replace HK : Hid (IsCalc _ _ _ _) := hC; replace HS5 : Hid (Bes _ _ _) := HS5.out.trans hB1; replace ct : Cnt 2 := Cnt.mk _; clear hC hB hB1 ck) | (have ck : Cnt 2 := ct; go_at_call 44; refine (uAdd _ (some kk) m1 y _ _ (by first | exact HK.out | exact HK.out.drew | exact HK.out.drew.drew) u0 u1 y0 y1).mono ?_; rintro e Wc2 ⟨rfl, hC, hB⟩; rw [SP.out]; have hB1 : Bes (some kk) Wc1 Wc2 := (by first | exact hB | exact ((Bes.refl _ _).drew).trans hB | exact (((Bes.refl _ _).drew).drew).trans hB); replace q1 := (hB1.cell (p := ⟨b1, o1 + j, none⟩) l_q1 n_q1.out).trans q1; replace l_q1 := Nat.lt_of_lt_of_le l_q1 hB1.size; replace q2 := (hB1.cell (p := ⟨b2, o2 + j, none⟩) l_q2 n_q2.out).trans q2; replace l_q2 := Nat.lt_of_lt_of_le l_q2 hB1.size; replace q3 := (hB1.cell (p := ⟨g1, j, none⟩) l_q3 n_q3.out).trans q3; replace l_q3 := Nat.lt_of_lt_of_le l_q3 hB1.size; replace q4 := (hB1.cell (p := ⟨gA, j, none⟩) l_q4 n_q4.out).trans q4; replace l_q4 := Nat.lt_of_lt_of_le l_q4 hB1.size; replace q5 := (hB1.cell (p := ⟨gB, j, none⟩) l_q5 n_q5.out).trans q5; replace l_q5 := Nat.lt_of_lt_of_le l_q5 hB1.size; replace HK : Hid (IsCalc _ _ _ _) := hC; replace HS5 : Hid (Bes _ _ _) := HS5.out.trans hB1; replace ct : Cnt 3 := Cnt.mk _; clear hC hB hB1 ck) | (have ck : Cnt 3 := ct; go_at_call 45; refine (uMul _ (some kk) a2 x _ _ (by first | exact HK.out | exact HK.out.drew | exact HK.out.drew.drew) f0 fa1 x0 x1).mono ?_; rintro e Wc3 ⟨rfl, hC, hB⟩; rw [H1.out] at hC ⊢; have hB1 : Bes (some kk) Wc2 Wc3 := (by first | exact hB | exact ((Bes.refl _ _).drew).trans hB | exact (((Bes.refl _ _).drew).drew).trans hB); replace q1 := (hB1.cell (p := ⟨b1, o1 + j, none⟩) l_q1 n_q1.out).trans q1; replace l_q1 := Nat.lt_of_lt_of_le l_q1 hB1.size; replace q2 := (hB1.cell (p := ⟨b2, o2 + j, none⟩) l_q2 n_q2.out).trans q2; replace l_q2 := Nat.lt_of_lt_of_le l_q2 hB1.size; replace q3 := (hB1.cell (p := ⟨g1, j, none⟩) l_q3 n_q3.out).trans q3; replace l_q3 := Nat.lt_of_lt_of_le l_q3 hB1.size; replace q4 := (hB1.cell (p := ⟨gA, j, none⟩) l_q4 n_q4.out).trans q4; replace l_q4 := Nat.lt_of_lt_of_le l_q4 hB1.size; replace q5 := (hB1.cell (p := ⟨gB, j, none⟩) l_q5 n_q5.out).trans q5; replace l_q5 := Nat.lt_of_lt_of_le l_q5 hB1.size; replace HK : Hid (IsCalc _ _ _ _) := hC; replace HS5 : Hid (Bes _ _ _) := HS5.out.trans hB1; replace ct : Cnt 4 := Cnt.mk _; clear hC hB hB1 ck) | (have ck : Cnt 4 := ct; go_at_call 45; refine (uMul _ (some kk) a3 y _ _ (by first | exact HK.out | exact HK.out.drew | exact HK.out.drew.drew) g0 fa2 y0 y1).mono ?_; rintro e Wc4 ⟨rfl, hC, hB⟩; rw [H2.out] at hC ⊢; have hB1 : Bes (some kk) Wc3 Wc4 := (by first | exact hB | exact ((Bes.refl _ _).drew).trans hB | exact (((Bes.refl _ _).drew).drew).trans hB); replace q1 := (hB1.cell (p := ⟨b1, o1 + j, none⟩) l_q1 n_q1.out).trans q1; replace l_q1 := Nat.lt_of_lt_of_le l_q1 hB1.size; replace q2 := (hB1.cell (p := ⟨b2, o2 + j, none⟩) l_q2 n_q2.out).trans q2; replace l_q2 := Nat.lt_of_lt_of_le l_q2 hB1.size; replace q3 := (hB1.cell (p := ⟨g1, j, none⟩) l_q3 n_q3.out).trans q3; replace l_q3 := Nat.lt_of_lt_of_le l_q3 hB1.size; replace q4 := (hB1.cell (p := ⟨gA, j, none⟩) l_q4 n_q4.out).trans q4; replace l_q4 := Nat.lt_of_lt_of_le l_q4 hB1.size; replace q5 := (hB1.cell (p := ⟨gB, j, none⟩) l_q5 n_q5.out).trans q5; replace l_q5 := Nat.lt_of_lt_of_le l_q5 hB1.size; replace HK : Hid (IsCalc _ _ _ _) := hC; replace HS5 : Hid (Bes _ _ _) := HS5.out.trans hB1; replace ct : Cnt 5 := Cnt.mk _; clear hC hB hB1 ck) | (have ck : Cnt 5 := ct; go_at_call 44; refine (uAdd _ (some kk) m1 m2 _ _ (by first | exact HK.out | exact HK.out.drew | exact HK.out.drew.drew) u0 u1 v0 v1).mono ?_; rintro e Wc5 ⟨rfl, hC, hB⟩; rw [SQ.out]; have hB1 : Bes (some kk) Wc4 Wc5 := (by first | exact hB | exact ((Bes.refl _ _).drew).trans hB | exact (((Bes.refl _ _).drew).drew).trans hB); replace q1 := (hB1.cell (p := ⟨b1, o1 + j, none⟩) l_q1 n_q1.out).trans q1; replace l_q1 := Nat.lt_of_lt_of_le l_q1 hB1.size; replace q2 := (hB1.cell (p := ⟨b2, o2 + j, none⟩) l_q2 n_q2.out).trans q2; replace l_q2 := Nat.lt_of_lt_of_le l_q2 hB1.size; replace q3 := (hB1.cell (p := ⟨g1, j, none⟩) l_q3 n_q3.out).trans q3; replace l_q3 := Nat.lt_of_lt_of_le l_q3 hB1.size; replace q4 := (hB1.cell (p := ⟨gA, j, none⟩) l_q4 n_q4.out).trans q4; replace l_q4 := Nat.lt_of_lt_of_le l_q4 hB1.size; replace q5 := (hB1.cell (p := ⟨gB, j, none⟩) l_q5 n_q5.out).trans q5; replace l_q5 := Nat.lt_of_lt_of_le l_q5 hB1.size; replace HK : Hid (IsCalc _ _ _ _) := hC; replace HS5 : Hid (Bes _ _ _) := HS5.out.trans hB1; replace ct : Cnt 6 := Cnt.mk _; clear hC hB hB1 ck) | (have ck : Cnt 6 := ct; go_at_call 45; refine (uMul _ (some kk) a2 y _ _ (by first | exact HK.out | exact HK.out.drew | exact HK.out.drew.drew) f0 fa1 y0 y1).mono ?_; rintro e Wc6 ⟨rfl, hC, hB⟩; rw [H3.out] at hC ⊢; have hB1 : Bes (some kk) Wc5 Wc6 := (by first | exact hB | exact ((Bes.refl _ _).drew).trans hB | exact (((Bes.refl _ _).drew).drew).trans hB); replace q1 := (hB1.cell (p := ⟨b1, o1 + j, none⟩) l_q1 n_q1.out).trans q1; replace l_q1 := Nat.lt_of_lt_of_le l_q1 hB1.size; replace q2 := (hB1.cell (p := ⟨b2, o2 + j, none⟩) l_q2 n_q2.out).trans q2; replace l_q2 := Nat.lt_of_lt_of_le l_q2 hB1.size; replace q3 := (hB1.cell (p := ⟨g1, j, none⟩) l_q3 n_q3.out).trans q3; replace l_q3 := Nat.lt_of_lt_of_le l_q3 hB1.size; replace q4 := (hB1.cell (p := ⟨gA, j, none⟩) l_q4 n_q4.out).trans q4; replace l_q4 := Nat.lt_of_lt_of_le l_q4 hB1.size; replace q5 := (hB1.cell (p := ⟨gB, j, none⟩) l_q5 n_q5.out).trans q5; replace l_q5 := Nat.lt_of_lt_of_le l_q5 hB1.size; replace HK : Hid (IsCalc _ _ _ _) := hC; replace HS5 : Hid (Bes _ _ _) := HS5.out.trans hB1; replace ct : Cnt 7 := Cnt.mk _; clear hC hB hB1 ck) | (have ck : Cnt 7 := ct; go_at_call 45; refine (uMul _ (some kk) a3 x _ _ (by first | exact HK.out | exact HK.out.drew | exact HK.out.drew.drew) g0 fa2 x0 x1).mono ?_; rintro e Wc7 ⟨rfl, hC, hB⟩; rw [H4.out] at hC ⊢; have hB1 : Bes (some kk) Wc6 Wc7 := (by first | exact hB | exact ((Bes.refl _ _).drew).trans hB | exact (((Bes.refl _ _).drew).drew).trans hB); replace q1 := (hB1.cell (p := ⟨b1, o1 + j, none⟩) l_q1 n_q1.out).trans q1; replace l_q1 := Nat.lt_of_lt_of_le l_q1 hB1.size; replace q2 := (hB1.cell (p := ⟨b2, o2 + j, none⟩) l_q2 n_q2.out).trans q2; replace l_q2 := Nat.lt_of_lt_of_le l_q2 hB1.size; replace q3 := (hB1.cell (p := ⟨g1, j, none⟩) l_q3 n_q3.out).trans q3; replace l_q3 := Nat.lt_of_lt_of_le l_q3 hB1.size; replace q4 := (hB1.cell (p := ⟨gA, j, none⟩) l_q4 n_q4.out).trans q4; replace l_q4 := Nat.lt_of_lt_of_le l_q4 hB1.size; replace q5 := (hB1.cell (p := ⟨gB, j, none⟩) l_q5 n_q5.out).trans q5; replace l_q5 := Nat.lt_of_lt_of_le l_q5 hB1.size; replace HK : Hid (IsCalc _ _ _ _) := hC; replace HS5 : Hid (Bes _ _ _) := HS5.out.trans hB1; replace ct : Cnt 8 := Cnt.mk _; clear hC hB hB1 ck) | (have ck : Cnt 8 := ct; go_at_call 46; refine (uSub _ (some kk) m3 m4 _ _ (by first | exact HK.out | exact HK.out.drew | exact HK.out.drew.drew) r0 r1 t0 t1).mono ?_; rintro e Wc8 ⟨rfl, hC, hB⟩; rw [SR.out]; rw [SF.out] at hC; have hB1 : Bes (some kk) Wc7 Wc8 := (by first | exact hB | exact ((Bes.refl _ _).drew).trans hB | exact (((Bes.refl _ _).drew).drew).trans hB); replace q1 := (hB1.cell (p := ⟨b1, o1 + j, none⟩) l_q1 n_q1.out).trans q1; replace l_q1 := Nat.lt_of_lt_of_le l_q1 hB1.size; replace q2 := (hB1.cell (p := ⟨b2, o2 + j, none⟩) l_q2 n_q2.out).trans q2; replace l_q2 := Nat.lt_of_lt_of_le l_q2 hB1.size; replace q3 := (hB1.cell (p := ⟨g1, j, none⟩) l_q3 n_q3.out).trans q3; replace l_q3 := Nat.lt_of_lt_of_le l_q3 hB1.size; replace q4 := (hB1.cell (p := ⟨gA, j, none⟩) l_q4 n_q4.out).trans q4; replace l_q4 := Nat.lt_of_lt_of_le l_q4 hB1.size; replace q5 := (hB1.cell (p := ⟨gB, j, none⟩) l_q5 n_q5.out).trans q5; replace l_q5 := Nat.lt_of_lt_of_le l_q5 hB1.size; replace HK : Hid (IsCalc _ _ _ _) := hC; replace HS5 : Hid (Bes _ _ _) := HS5.out.trans hB1; replace ct : Cnt 9 := Cnt.mk _; clear hC hB hB1 ck))
            go_wp2
            go_roundw
            case rel => exact ⟨j + 1, by go_num, by omega, HK, HS5⟩
            case measure => simp [intOf]; omega
          · obtain rfl : len0 = j := by omega
            clear HS5
            go_wp2_with fail
            obtain ⟨g4, hg4⟩ : ∃ g, g = w5_.heap.size := ⟨_, rfl⟩
            have hg4_ : w5_.heap.size ≤ g4 := Nat.le_of_eq hg4.symm
            refine (vScal _ (some kc) _ a2 _ len0 _ X _ HC.out UX.out AXc.out (by omega) f0 fa1).mono ?_
            rintro e w6_ ⟨rfl, hU_, hC_, hb6_⟩
            rw [← hg4] at hU_ ⊢
            clear hg4
            have Ncg4 : Hid (kc ≠ g4) := fun e => absurd (Nat.lt_of_lt_of_le (HC.out.lt _ rfl) hg4_) (by rw [e]; exact Nat.lt_irrefl _)
            have Nkg4 : Hid (kk ≠ g4) := fun e => absurd (Nat.lt_of_lt_of_le (HK.out.lt _ rfl) hg4_) (by rw [e]; exact Nat.lt_irrefl _)
            clear hg4_
            replace BW : Hid (Below _ _ _) := Bes.old BW.out hb6_ OC.out
            replace UX : Hid (URow _ _ _ _ _) := UX.out.bes hb6_ AXc.out
            replace UY : Hid (URow _ _ _ _ _) := UY.out.bes hb6_ AYc.out
            replace UP : Hid (URow _ _ _ _ _) := UP.out.bes hb6_ (Apt.ne Ncg1.out)
            replace UQ : Hid (URow _ _ _ _ _) := UQ.out.bes hb6_ (Apt.ne NcgA.out)
            replace UR : Hid (URow _ _ _ _ _) := UR.out.bes hb6_ (Apt.ne NcgB.out)
            replace HK : Hid (IsCalc _ _ _ _) := HK.out.bes hb6_ (fun j e1 e2 => OCK.out ((Option.some.inj e2).trans (Option.some.inj e1).symm))
            clear hb6_
            clear HC
            have HC : Hid (IsCalc w6_ (.pointer (some ⟨kc, 0, none⟩)) (some kc) (sclF (rotF (axpF (dotF 0 X Y len0) a2 X Y len0) a2 a3 X Y len0) a2 X len0)) := hC_
            clear hC_
            clear UP
            clear UQ
            clear UR
            clear UY
            have UT : Hid (URow w6_ (some ⟨g4, 0, none⟩) len0 len0 (sclV a2 X)) := hU_
            clear hU_
            obtain ⟨FK, hFK⟩ : ∃ F, stpF (dotF 0 X Y len0) a2 a3 X Y len0 = F := ⟨_, rfl⟩
            rw [hFK] at HK
            have HFK : Hid (_ = _) := hFK
            clear hFK
            go_wp2
            go_wp2_with fail
            go_loopw [18, 235] (fun s i wr => ∃ j : Nat, s = .int .u64 (asuV X j) ∧ i = .int .i64 (j : Int) ∧ j ≤ len0 ∧ Hid (IsCalc wr (.pointer (some ⟨kk, 0, none⟩)) (some kk) (mixF FK a2 X j)) ∧ Hid (Bes (some kk) w6_ wr)) (fun s i _ => len0 - (intOf i).toNat)
            case atStart => exact ⟨0, rfl, rfl, Nat.zero_le _, HK.out, Bes.refl _ _⟩
            case round =>
              clear HK
              obtain ⟨j, rfl, rfl, hj_, HK, HS7⟩ := hrel
              obtain ⟨w7_, rfl⟩ : ∃ x, x = wr := ⟨wr, rfl⟩
              replace BW : Hid (Below _ _ _) := Bes.old BW.out HS7.out OK.out
              replace UX : Hid (URow _ _ _ _ _) := UX.out.bes HS7.out AXk.out
              replace HC : Hid (IsCalc _ _ _ _) := HC.out.bes HS7.out (fun j e1 e2 => OKC.out ((Option.some.inj e2).trans (Option.some.inj e1).symm))
              replace UT : Hid (URow _ _ _ _ _) := UT.out.bes HS7.out (Apt.ne Nkg4.out)
              by_cases hlt : (j : Int) < (len0 : Int)
              · skip
                obtain ⟨_, _, zx, fx⟩ := UX.out
                obtain ⟨b1, o1, e_1, l_q1, e1⟩ := fx (by omega)
                obtain ⟨l_q2, q2⟩ := UT.out.cellg j (by omega)
                have q1 := e1 j (by omega)
                obtain ⟨x0, x1⟩ := zx j
                obtain ⟨d0, d1⟩ := asuV_rng X j
                clear zx fx e1
                have SM : Hid ((mulS a2 (X j)).1 = sclV a2 X j) := rfl
                have SV : Hid ((addS (asuV X j) (X j % 9223372036854775808)).1 = asuV X (j + 1)) := rfl
                have SF : Hid (bits .or .u8 (bits .or .u8 (mixF FK a2 X j) (mulS a2 (X j)).2) (addS (asuV X j) (X j % 9223372036854775808)).2 = mixF FK a2 X (j + 1)) := rfl
                obtain ⟨x, hx⟩ : ∃ x, X j = x := ⟨_, rfl⟩
                obtain ⟨d, hdd⟩ : ∃ d, asuV X j = d := ⟨_, rfl⟩
                obtain ⟨F1, hF⟩ : ∃ d, mixF FK a2 X j = d := ⟨_, rfl⟩
                obtain ⟨tv, htv⟩ : ∃ d, sclV a2 X j = d := ⟨_, rfl⟩
                rw [hx] at q1 x0 x1 SV SF SM
                rw [hdd] at d0 d1 SV SF ⊢
                rw [hF] at HK SF
                rw [htv] at q2 SM
                obtain ⟨M, hM⟩ : ∃ M, mulS a2 x = M := ⟨_, rfl⟩
                rw [hM] at SM SF
                have HM : Hid (_ = _) := hM
                obtain ⟨y, hy⟩ : ∃ y, x % 9223372036854775808 = y := ⟨_, rfl⟩
                have y0 : 0 ≤ y := by omega
                have y1 : y < 18446744073709551616 := by omega
                rw [hy] at SV SF
                have HYA : Hid (_ = _) := hy
                clear hx hdd hF hM htv hy
                obtain ⟨m, fm⟩ := M
                simp only at SM SF
                subst e_1
                go_wp2
                have ct : Cnt 1 := Cnt.mk _
                have n_q1 : Hid (some kk ≠ some b1) := AXk.out (by omega) b1 o1 none rfl
                have n_q2 : Hid (some kk ≠ some g4) := fun e => Nkg4.out (Option.some.inj e)
                go_region_held3 (fun w' => w'.cell? ⟨b1, o1 + j, none⟩ = some (.int .u64 x) ∧ w'.cell? ⟨g4, j, none⟩ = some (.int .u64 tv)) (simp [go_sem, *]) (first | (have ck : Cnt 1 := ct; go_at_call 45; refine (uMul _ (some kk) a2 x _ _ (by first | exact HK.out | exact HK.out.drew | exact HK.out.drew.drew) f0 fa1 x0 x1).mono ?_; rintro e Wc1 ⟨rfl, hC, hB⟩; rw [HM.out] at hC ⊢; rw [SM.out]; have hB1 : Bes (some kk) w7_ Wc1 := (by first | exact hB | exact ((Bes.refl _ _).drew).trans hB | exact (((Bes.refl _ _).drew).drew).trans hB); replace q1 := (hB1.cell (p := ⟨b1, o1 + j, none⟩) l_q1 n_q1.out).trans q1; replace l_q1 := Nat.lt_of_lt_of_le l_q1 hB1.size; replace q2 := (hB1.cell (p := ⟨g4, j, none⟩) l_q2 n_q2.out).trans q2; replace l_q2 := Nat.lt_of_lt_of_le l_q2 hB1.size; replace HK : Hid (IsCalc _ _ _ _) := hC; replace HS7 : Hid (Bes _ _ _) := HS7.out.trans hB1; replace ct : Cnt 2 := Cnt.mk _; clear hC hB hB1 ck))
                clear ct
                go_wp2_with fail
                refine (abs_any x _ x0 x1).mono ?_
                rintro e wx ⟨rfl, rfl⟩
                rw [HYA.out]
                go_wp2_with fail
                refine (uAdd _ (some kk) d y _ _ HK.out d0 d1 y0 y1).mono ?_
                rintro e wy ⟨rfl, C2, B2⟩
                rw [SV.out]
                rw [SF.out] at C2
                have HC2 : Hid (IsCalc _ _ _ _) := C2
                have HB2 : Hid (Bes _ _ _) := HS7.out.trans B2
                clear C2 B2 HK
                go_wp2
                go_roundw
                case rel => exact ⟨j + 1, rfl, by go_num, by omega, HC2, HB2⟩
                case measure => simp [intOf]; omega
              · obtain rfl : len0 = j := by omega
                clear HS7
                have FE : Hid (_ = _) := flags_same a2 a3 X Y len0 ZX.out ZY.out
                obtain ⟨FZ, hFZ⟩ : ∃ F, mixF FK a2 X len0 = F := ⟨_, rfl⟩
                rw [hFZ] at HK
                have HFZ : Hid (_ = _) := hFZ
                clear hFZ
                obtain ⟨k1, k2, k3⟩ := calc_cell HK.out
                have nck : (some kc : Option Nat) ≠ some kk := fun e => OCK.out (Option.some.inj e)
                obtain ⟨SU, hSU⟩ : ∃ S, asuV X len0 = S := ⟨_, rfl⟩
                rw [hSU]
                have HSU : Hid (_ = _) := hSU
                clear hSU
                go_wp2_with fail
                refine wp_region_noPanic ?_
                refine wp_region_held_drew (S := (fun w' => w'.cell? ⟨kk, 0, none⟩ = some (.int .u8 FZ))) (by kernel_rfl) (by simp [go_sem, *]) (fun hHeld => ?_)
                refine wpAnyH_take (i := 0) (oi := ({ dst := some 259, op := Op.move (Operand.tmp 9), type := _, pos := _, after := _, guard := none } : Oper)) (v := ?_) rfl (by kernel_rfl) (by kernel_rfl) (by kernel_rfl) (fun _ _ _ h => h) (Or.inl ⟨by rfl, ?_⟩) (by assumption) ?_
                rotate_left
                · intro w' hSw; (try dsimp only at hSw); go_simp <;> (try with_reducible rfl)
                (try simp only [Act.put, List.setIfInBounds_toArray, List.set_cons_zero, List.set_cons_succ])
                refine wpAnyH_take (i := 1) (oi := ({ dst := some 260, op := Op.move (Operand.tmp 0), type := _, pos := _, after := _, guard := none } : Oper)) (v := ?_) rfl (by kernel_rfl) (by kernel_rfl) (by kernel_rfl) (fun _ _ _ h => h) (Or.inl ⟨by rfl, ?_⟩) (by assumption) ?_
                rotate_left
                · intro w' hSw; (try dsimp only at hSw); go_simp <;> (try with_reducible rfl)
                (try simp only [Act.put, List.setIfInBounds_toArray, List.set_cons_zero, List.set_cons_succ])
                refine wpAnyH_take (i := 3) (oi := ({ dst := some 262, op := Op.move (Operand.tmp 18), type := _, pos := _, after := _, guard := none } : Oper)) (v := ?_) rfl (by kernel_rfl) (by kernel_rfl) (by kernel_rfl) (fun _ _ _ h => h) (Or.inl ⟨by rfl, ?_⟩) (by assumption) ?_
                rotate_left
                · intro w' hSw; (try dsimp only at hSw); go_simp <;> (try with_reducible rfl)
                (try simp only [Act.put, List.setIfInBounds_toArray, List.set_cons_zero, List.set_cons_succ])
                refine wpAnyH_ready (rs := [2]) (by kernel_rfl) (by simp) ?_
                refine AllReadyH.cons (o := ({ dst := some 261, op := Op.call { callee := Callee.value (Operand.func _), args := #[Operand.tmp 259, Operand.tmp 260], argTypes := _ }, type := _, pos := _, after := _, guard := none } : Oper)) rfl (fun K hK => ?_) AllReadyH.nil
                go_simp
                refine (vAsum _ (some kc) _ _ len0 _ X _ (by first | exact HC.out | exact HC.out.drew) (by first | exact UX.out | exact UX.out.drew) AXc.out).mono ?_
                rintro e wz ⟨rfl, hC_, hB⟩
                rw [HSU.out]
                have hB1 : Bes (some kc) w7_ wz := (by first | exact hB | exact ((Bes.refl _ _).drew).trans hB)
                rw [FE.out, HFK.out, HFZ.out] at hC_
                obtain ⟨c1, c2, c3⟩ := calc_cell hC_
                replace k1 := (hB1.cell (p := ⟨kk, 0, none⟩) k3 nck).trans k1
                replace BW : Hid (Below _ _ _) := Bes.old BW.out hB1 OC.out
                clear hC_ hB hB1
                (try go_wp2_with fail)
                refine hK.out _ _ ?_ (fun hHeld => ?_)
                · (try dsimp only); exact k1
                clear hK K
                (try simp only [Act.put, List.setIfInBounds_toArray, List.set_cons_zero, List.set_cons_succ])
                refine wpAnyH_strong (S' := (fun w' => w'.cell? ⟨kk, 0, none⟩ = some (.int .u8 FZ) ∧ w'.cell? ⟨kc, 0, none⟩ = some (.int .u8 FZ))) (fun _ h => h.1) _ _ _ _ ?_
                have hHeld2 : (fun w' => w'.cell? ⟨kk, 0, none⟩ = some (.int .u8 FZ) ∧ w'.cell? ⟨kc, 0, none⟩ = some (.int .u8 FZ)) wz := ⟨k1, c1⟩
                refine wpAnyH_take (i := 4) (oi := ({ dst := some 263, op := Op.binOp BinOp.eql _ (Operand.tmp 261) (Operand.tmp 262) _, type := _, pos := _, after := _, guard := none } : Oper)) (v := ?_) rfl (by kernel_rfl) (by kernel_rfl) (by kernel_rfl) (fun _ _ _ h => h) (Or.inl ⟨by rfl, ?_⟩) (by assumption) ?_
                rotate_left
                · intro w' hSw; (try dsimp only at hSw); go_simp <;> (try with_reducible rfl)
                (try simp only [Act.put, List.setIfInBounds_toArray, List.set_cons_zero, List.set_cons_succ])
                refine wpAnyH_take (i := 5) (oi := ({ dst := some 264, op := Op.move (Operand.tmp 263), type := _, pos := _, after := _, guard := none } : Oper)) (v := ?_) rfl (by kernel_rfl) (by kernel_rfl) (by kernel_rfl) (fun _ _ _ h => h) (Or.inl ⟨by rfl, ?_⟩) (by assumption) ?_
                rotate_left
                · intro w' hSw; (try dsimp only at hSw); go_simp <;> (try with_reducible rfl)
                (try simp only [Act.put, List.setIfInBounds_toArray, List.set_cons_zero, List.set_cons_succ])
                refine wpAnyH_take (i := 6) (oi := ({ dst := some 265, op := Op.move (Operand.tmp 9), type := _, pos := _, after := _, guard := some (5, true) } : Oper)) (v := ?_) rfl (by kernel_rfl) (by kernel_rfl) (by kernel_rfl) (fun _ _ _ h => h) (Or.inl ⟨by rfl, ?_⟩) (by assumption) ?_
                rotate_left
                · intro w' hSw; (try dsimp only at hSw); go_simp <;> (try with_reducible rfl)
                (try simp only [Act.put, List.setIfInBounds_toArray, List.set_cons_zero, List.set_cons_succ])
                refine wpAnyH_take (i := 7) (oi := ({ dst := some 266, op := Op.nilCheck (Operand.tmp 265), type := _, pos := _, after := _, guard := some (5, true) } : Oper)) (v := ?_) rfl (by kernel_rfl) (by kernel_rfl) (by kernel_rfl) (fun _ _ _ h => h) (Or.inl ⟨by rfl, ?_⟩) (by assumption) ?_
                rotate_left
                · intro w' hSw; (try dsimp only at hSw); go_simp <;> (try with_reducible rfl)
                (try simp only [Act.put, List.setIfInBounds_toArray, List.set_cons_zero, List.set_cons_succ])
                refine wpAnyH_take (i := 8) (oi := ({ dst := some 267, op := Op.fieldAddr _ (Operand.tmp 266) 0, type := _, pos := _, after := _, guard := some (5, true) } : Oper)) (v := ?_) rfl (by kernel_rfl) (by kernel_rfl) (by kernel_rfl) (fun _ _ _ h => h) (Or.inl ⟨by rfl, ?_⟩) (by assumption) ?_
                rotate_left
                · intro w' hSw; (try dsimp only at hSw); go_simp <;> (try with_reducible rfl)
                (try simp only [Act.put, List.setIfInBounds_toArray, List.set_cons_zero, List.set_cons_succ])
                refine wpAnyH_take (i := 9) (oi := ({ dst := some 268, op := Op.load _ (Operand.tmp 267), type := _, pos := _, after := _, guard := some (5, true) } : Oper)) (v := ?_) rfl (by kernel_rfl) (by kernel_rfl) (by kernel_rfl) (fun _ _ _ h => h) (Or.inl ⟨by rfl, ?_⟩) (by assumption) ?_
                rotate_left
                · intro w' hSw; (try dsimp only at hSw); go_simp <;> (try with_reducible rfl)
                (try simp only [Act.put, List.setIfInBounds_toArray, List.set_cons_zero, List.set_cons_succ])
                refine wpAnyH_take (i := 10) (oi := ({ dst := some 269, op := Op.move (Operand.tmp 10), type := _, pos := _, after := _, guard := some (5, true) } : Oper)) (v := ?_) rfl (by kernel_rfl) (by kernel_rfl) (by kernel_rfl) (fun _ _ _ h => h) (Or.inl ⟨by rfl, ?_⟩) (by assumption) ?_
                rotate_left
                · intro w' hSw; (try dsimp only at hSw); go_simp <;> (try with_reducible rfl)
                (try simp only [Act.put, List.setIfInBounds_toArray, List.set_cons_zero, List.set_cons_succ])
                refine wpAnyH_take (i := 11) (oi := ({ dst := some 270, op := Op.nilCheck (Operand.tmp 269), type := _, pos := _, after := _, guard := some (5, true) } : Oper)) (v := ?_) rfl (by kernel_rfl) (by kernel_rfl) (by kernel_rfl) (fun _ _ _ h => h) (Or.inl ⟨by rfl, ?_⟩) (by assumption) ?_
                rotate_left
                · intro w' hSw; (try dsimp only at hSw); go_simp <;> (try with_reducible rfl)
                (try simp only [Act.put, List.setIfInBounds_toArray, List.set_cons_zero, List.set_cons_succ])
                refine wpAnyH_take (i := 12) (oi := ({ dst := some 271, op := Op.fieldAddr _ (Operand.tmp 270) 0, type := _, pos := _, after := _, guard := some (5, true) } : Oper)) (v := ?_) rfl (by kernel_rfl) (by kernel_rfl) (by kernel_rfl) (fun _ _ _ h => h) (Or.inl ⟨by rfl, ?_⟩) (by assumption) ?_
                rotate_left
                · intro w' hSw; (try dsimp only at hSw); go_simp <;> (try with_reducible rfl)
                (try simp only [Act.put, List.setIfInBounds_toArray, List.set_cons_zero, List.set_cons_succ])
                refine wpAnyH_take (i := 13) (oi := ({ dst := some 272, op := Op.load _ (Operand.tmp 271), type := _, pos := _, after := _, guard := some (5, true) } : Oper)) (v := ?_) rfl (by kernel_rfl) (by kernel_rfl) (by kernel_rfl) (fun _ _ _ h => h) (Or.inl ⟨by rfl, ?_⟩) (by assumption) ?_
                rotate_left
                · intro w' hSw; (try dsimp only at hSw); go_simp <;> (try with_reducible rfl)
                (try simp only [Act.put, List.setIfInBounds_toArray, List.set_cons_zero, List.set_cons_succ])
                refine wpAnyH_take (i := 14) (oi := ({ dst := some 273, op := Op.binOp BinOp.eql _ (Operand.tmp 268) (Operand.tmp 272) _, type := _, pos := _, after := _, guard := some (5, true) } : Oper)) (v := ?_) rfl (by kernel_rfl) (by kernel_rfl) (by kernel_rfl) (fun _ _ _ h => h) (Or.inl ⟨by rfl, ?_⟩) (by assumption) ?_
                rotate_left
                · intro w' hSw; (try dsimp only at hSw); go_simp <;> (try with_reducible rfl)
                (try simp only [Act.put, List.setIfInBounds_toArray, List.set_cons_zero, List.set_cons_succ])
                refine wpAnyH_take (i := 15) (oi := ({ dst := some 274, op := Op.pick (Operand.tmp 264) (Operand.tmp 273) (Operand.const (Value.bool false)), type := _, pos := _, after := _, guard := none } : Oper)) (v := ?_) rfl (by kernel_rfl) (by kernel_rfl) (by kernel_rfl) (fun _ _ _ h => h) (Or.inl ⟨by rfl, ?_⟩) (by assumption) ?_
                rotate_left
                · intro w' hSw; (try dsimp only at hSw); go_simp <;> (try with_reducible rfl)
                (try simp only [Act.put, List.setIfInBounds_toArray, List.set_cons_zero, List.set_cons_succ])
                refine wpAnyH_take (i := 16) (oi := ({ dst := some 8, op := Op.assign (Operand.tmp 274), type := _, pos := _, after := _, guard := none } : Oper)) (v := ?_) rfl (by kernel_rfl) (by kernel_rfl) (by kernel_rfl) (fun _ _ _ h => h) (Or.inl ⟨by rfl, ?_⟩) (by assumption) ?_
                rotate_left
                · intro w' hSw; (try dsimp only at hSw); go_simp <;> (try with_reducible rfl)
                (try simp only [Act.put, List.setIfInBounds_toArray, List.set_cons_zero, List.set_cons_succ])
                refine wpAnyH_done (by kernel_rfl) ?_ _
                refine NoPanic.normal ?_
                go_wp2
                go_ret
                exact ⟨ret_eq rfl, BW.out⟩
  · have hne2 : ¬ (len0 : Int) = (len1 : Int) := hne
    obtain ⟨c1, c2, c3⟩ := calc_cell HC.out
    obtain ⟨k1, k2, k3⟩ := calc_cell HK.out
    have hnb : ((len0 : Int) == (len1 : Int)) = false := by rw [beq_eq_false_iff_ne]; exact hne
    refine (vDotBad _ (.slice a0 len0 cap0) (.slice a1 len1 cap1) a0 a1 len0 len1 cap0 cap1 _ hne).mono ?_
    rintro e wd ⟨rfl, hw⟩
    have hw2 := hw.symm
    clear hw
    subst hw2
    go_wp2_with fail
    refine (vAxpyBad _ a2 a0 a1 len0 len1 cap0 cap1 _ hne).mono ?_
    rintro e wd ⟨rfl, hw⟩
    have hw2 := hw.symm
    clear hw
    subst hw2
    go_wp2_with fail
    refine (vRotBad _ a2 a3 a0 a1 len0 len1 cap0 cap1 _ hne).mono ?_
    rintro e wd ⟨rfl, hw⟩
    have hw2 := hw.symm
    clear hw
    subst hw2
    go_wp2
    go_ret
    exact ⟨ret_eq rfl, BW.out⟩

/-! ### THE ROW's STEP: WRITTEN OUT: LEAVE IT -/
set_option maxRecDepth 100000 in
theorem lifted (os : Os) (started : os.Started) (H : Type) (enc : TypeId × Value → H) :
    ReturnsInHanded {} Try.checked os 9 .any (Rows.vecStepsSpec.pre6 enc Try.prog Try.f9 Rows.vecStepsRow.domain false) (Rows.vecStepsSpec.post enc Try.prog Try.f9 false true false false) := by
  refine returnsInHanded_of_change (C := Try.checked) own started (by kernel_rfl) Try.func9
    (ChangeSpec.witness6 (enc := enc) (C := Try.checked) false ⟨#[], #[.slice none 0 0, .slice none 0 0, .int .u64 0, .int .u64 0], []⟩ 8 (by kernel_rfl) (by kernel_rfl) (by kernel_rfl) (by kernel_rfl)) ?_
  intro W base args ds gs before hval0 hW hcnd _
  have hval : ∀ (j : Nat) t v, Try.f9.params[j]? = some t → args[j]? = some v → Value.okWide Try.prog W .any base t v := hval0
  have hW' := hW
  obtain ⟨p, q, hA0, hV, rfl, hfz, hnd⟩ := hW
  have hA : DataW.TrodAll enc Try.prog W 0 (fun _ => true) true Try.f9.params.toList args.toList ds p := hA0
  rw [Try.params9] at hA hval
  obtain ⟨v0, vs0, d0, ds0, p0, q0, hargs, rfl, rfl, h0, r0⟩ := trodAll_cons hA
  obtain ⟨v1, vs1, d1, ds1, p1, q1, rfl, rfl, rfl, h1, r1⟩ := trodAll_cons r0
  obtain ⟨v2, vs2, d2, ds2, p2, q2, rfl, rfl, rfl, h2, r2⟩ := trodAll_cons r1
  obtain ⟨v3, vs3, d3, ds3, p3, q3, rfl, rfl, rfl, h3, r3⟩ := trodAll_cons r2
  obtain ⟨rfl, rfl, rfl⟩ := trodAll_nil r3
  obtain rfl : args = #[v0, v1, v2, v3] := by cases args; simp_all
  obtain ⟨rfl, rfl⟩ := trodVars_none hV
  obtain ⟨a0, len0, cap0, rfl⟩ := okWide_slice Try.underlying23 (hval 0 23 v0 rfl rfl)
  have k0 := h0
  have lt0 : ∀ x ∈ p0, x.block < W.heap.size := by obtain ⟨m, hm⟩ := k0; exact DataW.trod_lt m _ _ _ hm
  obtain ⟨z0, w0⟩ : ∃ zs, IsRow .u64 W a0 len0 cap0 zs := by
    obtain ⟨fuel, hf⟩ := h0
    rcases open_ints Try.underlying23 Try.underlying26 (by kernel_rfl) hf with ⟨hcs, _⟩ | ⟨x, l, c, zs, hcs, _, hl, hm, hz, _, hcell, hwz⟩
    · simp [Value.cells] at hcs
      obtain ⟨rfl, rfl, rfl⟩ := hcs
      exact ⟨[], .inl ⟨rfl, rfl, rfl, rfl⟩⟩
    · simp [Value.cells] at hcs
      obtain ⟨rfl, rfl, rfl⟩ := hcs
      exact ⟨zs, .inr ⟨_, rfl, hl, hm, by simpa using hz, hcell, hwz⟩⟩
  obtain ⟨a1, len1, cap1, rfl⟩ := okWide_slice Try.underlying23 (hval 1 23 v1 rfl rfl)
  have k1 := h1
  have lt1 : ∀ x ∈ p1, x.block < W.heap.size := by obtain ⟨m, hm⟩ := k1; exact DataW.trod_lt m _ _ _ hm
  obtain ⟨z1, w1⟩ : ∃ zs, IsRow .u64 W a1 len1 cap1 zs := by
    obtain ⟨fuel, hf⟩ := h1
    rcases open_ints Try.underlying23 Try.underlying26 (by kernel_rfl) hf with ⟨hcs, _⟩ | ⟨x, l, c, zs, hcs, _, hl, hm, hz, _, hcell, hwz⟩
    · simp [Value.cells] at hcs
      obtain ⟨rfl, rfl, rfl⟩ := hcs
      exact ⟨[], .inl ⟨rfl, rfl, rfl, rfl⟩⟩
    · simp [Value.cells] at hcs
      obtain ⟨rfl, rfl, rfl⟩ := hcs
      exact ⟨zs, .inr ⟨_, rfl, hl, hm, by simpa using hz, hcell, hwz⟩⟩
  obtain ⟨a2, rfl, rfl, rfl, w2⟩ := open_int Try.underlying26 (hval 2 26 v2 rfl rfl) h2
  obtain ⟨a3, rfl, rfl, rfl, w3⟩ := open_int Try.underlying26 (hval 3 26 v3 rfl rfl) h3
  clear hA0 hval0
  refine (walk a0 len0 cap0 z0 a1 len1 cap1 z1 a2 a3 W w0 w1 w2 w3).mono fun e W' ⟨he, bel⟩ => ?_
  subst he
  exact ⟨_, rfl, _, _, _, [], _, [], hW', trodAll_mk1 (shut_bool Try.underlying4 _), (trodAll_cons_mk (Below.trod laidOut (by kernel_rfl) (of_decide_eq_true (by kernel_rfl)) k0 bel lt0) (trodAll_cons_mk (Below.trod laidOut (by kernel_rfl) (of_decide_eq_true (by kernel_rfl)) k1 bel lt1) (trodAll_cons_mk (shut_int Try.underlying26 w2) (trodAll_cons_mk (shut_int Try.underlying26 w3) trodAll_mk0)))), rfl, bel.frame _, fun h => by cases h⟩

theorem over : Rows.vecStepsRow.holds Try.pinned (OpenSpec.ofChange Rows.vecStepsSpec) :=
  OpenClaim.holds_of_wide 9 Try.f9 rfl rfl rfl rfl rfl rfl rfl ⟨rfl, rfl, rfl, rfl, rfl⟩ rfl rfl rfl rfl rfl (by kernel_rfl) Try.func9 (by kernel_rfl)
    (of_decide_eq_true (by kernel_rfl)) (by unfold Func.isWrapper; first | (rw [if_pos (by decide +kernel)]; kernel_rfl) | (rw [if_neg (by decide +kernel)]; exact ⟨rfl, rfl⟩))
    (fun os started H enc _ => lifted os started H enc)

/-- ████ THE STATEMENT ████ -/
theorem proved : Rows.VecStepsSaid := over
#print axioms proved
end Go.Proofs.Ytokgfeeaoioegaa.vecSteps
