/-
  The law OrderSorts returns true at every input (any slice of patterns), and leaves its argument as it was. No conditions.
-/
import Derived.Test.YteohkpiecidicaaRows
import Derived.WalkKit
import Derived.ProofKit
import Derived.OpenShut
import Derived.Deep.RegionHeld3
import Derived.Test.YteohkpiecidicaaRowM
import Derived.Test.YteohkpiecidicaaSeeU
import Derived.Test.YteohkpiecidicaaSortM
import Derived.ShutString
import Derived.ChangeOld
import Derived.Below
namespace Go.Proofs.Yteohkpiecidicaa.orderSorts
open Go.ChangeShapes Go.WideShapes Go.ChangeAt Go.RowKit
open Go.ChangeMaps (open_string shut_string)
set_option linter.unusedVariables false

theorem own : ownKnob Try.prog.godebug = none := by kernel_rfl
theorem laidOut : laidOutB Try.prog = true := by kernel_rfl

/-- WHAT THE WALK IS TOLD OF A SLICE OF INTEGERS THAT CAME IN: it is nil; or it leads to a row of 'cap' cells, the numbers 'zs' (the first 'len' are its elements, the rest its spare room), each fitting its kind. -/
def IsRow (k : IntKind) (w : World) (a : Option Addr) (len cap : Nat) (zs : List Int) : Prop :=
  (a = none ∧ len = 0 ∧ cap = 0 ∧ zs = []) ∨
  ∃ x, a = some x ∧ len ≤ cap ∧ cap ≤ maxLen ∧ zs.length = cap ∧ (∀ i, i < zs.length → w.cell? (x.add i) = some (.int k (zs.getD i 0))) ∧ ∀ n ∈ zs, (Lit.int k n).wf = true

theorem row_list (w : World) (a : Option Addr) (len cap : Nat) (zs : List Int) (h : IsRow .u64 w a len cap zs) (hp : 0 < len) : ∃ b o xs, a = some ⟨b, o, none⟩ ∧ xs.length = len ∧ Bnd xs ∧ SeesU w (.slice a len cap) xs := by
  rcases h with ⟨rfl, rfl, rfl, rfl⟩ | ⟨x, rfl, h1, h2, h3, h4, h5⟩
  · omega
  · obtain ⟨b, o, s⟩ := x
    have hs : s = none := by simpa [Addr.add] using World.cell?_spot (h4 0 (by omega))
    subst hs
    have hb : b < w.heap.size := by
      have := World.block_lt_of_cell? _ _ (h4 0 (by omega))
      simpa [Addr.add] using this
    have hlen : (zs.take len).length = len := by rw [List.length_take]; omega
    refine ⟨b, o, zs.take len, rfl, hlen, ?_, b, o, cap, by rw [hlen], hb, by omega, h2, fun i hi => ?_⟩
    · intro x hx
      obtain ⟨q1, q2⟩ := bounds_u64 (h5 x (List.mem_of_mem_take hx))
      exact ⟨q1, by omega⟩
    · have := h4 i (by omega)
      rw [add_plain] at this
      rw [this, List.getElem?_take, if_pos (by omega), List.getD_eq_getElem?_getD]
def lenV : Value → Nat
  | .slice _ n _ => n
  | _ => 0
set_option maxRecDepth 100000 in
set_option maxHeartbeats 4000000 in
theorem walk (a0 : Option Addr) (len0 cap0 : Nat) (z0 : List Int) (w : World) (w0 : IsRow .u64 w a0 len0 cap0 z0) :
    Calls Try.prog 14 #[.slice a0 len0 cap0] w fun e w' => e = .returned (.bool true) ∧ Below w.heap.size w w' := by
  by_cases hl : 40 < len0
  · have hl2 : (40 : Int) < (len0 : Int) := by omega
    clear w0
    go_enter Try.func14, Try.ntmps14
    go_wp2_with (go_at_call 41; refine (oHead _).mono ?_; rintro e w' ⟨rfl, rfl⟩)
    go_ret
    exact ⟨ret_eq rfl, Below.refl _ _⟩
  · have hl2 : ¬ (40 : Int) < (len0 : Int) := by omega
    by_cases hp : 0 < len0
    · obtain ⟨b, o, xs0, rfl, hx0, hbx, hsee⟩ := row_list w a0 len0 cap0 z0 w0 hp
      have S0 : Hid (SortI len0 xs0 []) := by rw [← hx0]; exact SortI.start xs0 hbx
      have SE : Hid (SeesU _ _ _) := hsee
      clear w0 hsee hbx
      go_enter Try.func14, Try.ntmps14
      go_wp2_with (first | (go_at_call 41; refine (oHead _).mono ?_; rintro e w' ⟨rfl, hw⟩; have hw2 := hw.symm; clear hw; subst hw2) | (at_builtin; refine wpListU_app rfl _ _ rfl w.heap.size _ [] rfl (OwnU.new w _ (Nat.le_refl _)) _ _ rfl (SE.out.alloc _) (by simp; omega) (by simp) ?_))
      intro v1 w1 own1 bel1 hg1 hat1
      have hb1 : Below w.heap.size w w1 := ((Below.refl _ _).alloc (Nat.le_refl _) _).trans bel1
      clear bel1 hg1 hat1
      have hs1 := hb1.size
      have own2 : OwnU (w1.alloc (.cells #[] 22)) w.heap.size v1 xs0 := own1.alloc _
      have own3 : OwnU (w1.alloc (.cells #[] 22)) w.heap.size (.slice (some ⟨w1.heap.size, 0, none⟩) 0 0) [] := OwnU.new w1 _ hs1
      have hne : v1.ownBlock ≠ (Value.slice (some ⟨w1.heap.size, 0, none⟩) 0 0).ownBlock := by
        obtain ⟨g1, c1, e0, e1, e2, e3, _⟩ := own1.at
        rw [e1]
        simp [Value.ownBlock]
        omega
      have hb2 : Below w.heap.size w (w1.alloc (.cells #[] 22)) := hb1.alloc hs1 _
      clear own1
      go_wp2
      go_loopw [3, 4] (fun rv ov wr => ∃ xs ys : List Int, OwnU wr w.heap.size rv xs ∧ OwnU wr w.heap.size ov ys ∧ rv.ownBlock ≠ ov.ownBlock ∧ Hid (SortI len0 xs ys) ∧ Below w.heap.size w wr) (fun rv _ _ => lenV rv)
      case atStart => exact ⟨xs0, [], own2, own3, hne, S0, hb2⟩
      case round =>
        clear own2 own3 hne S0 hb2 hb1 hs1 SE hx0
        obtain ⟨xs, ys, ownX, ownY, hne, SI, hbw⟩ := hrel
        obtain ⟨wA, rfl⟩ : ∃ x, x = wr := ⟨wr, rfl⟩
        obtain ⟨g, cx, rfl, ex1, ex2, ex3, ex4, ex5, ex6⟩ := ownX.at
        obtain ⟨gy, cy, rfl, ey1, ey2, ey3, ey4, ey5, ey6⟩ := ownY.at
        have hgg : g ≠ gy := by rw [ex1, ey1] at hne; intro h; exact hne (by rw [h])
        have hln := SI.out.len
        have CX : Hid (∀ i, i < xs.length → wA.cell? ⟨g, i, none⟩ = some (.int .u64 (xs[i]?.getD 0))) := ex6
        have CY : Hid (∀ i, i < ys.length → wA.cell? ⟨gy, i, none⟩ = some (.int .u64 (ys[i]?.getD 0))) := ey6
        have hsz := hbw.size
        clear hne ex1 ex6 ey1 ey6
        obtain ⟨n, hn⟩ : ∃ n, xs.length = n := ⟨_, rfl⟩
        obtain ⟨m, hm⟩ : ∃ n, ys.length = n := ⟨_, rfl⟩
        rw [hn, hm] at hln
        rw [hn] at ownX ex4
        rw [hm] at ownY ey4
        rw [hn, hm]
        have HN : Hid (_ = _) := hn
        have HM : Hid (_ = _) := hm
        clear hn hm
        by_cases hxn : (0 : Int) < (n : Int)
        · have hxn2 : 0 < n := by omega
          go_wp2
          go_loopw [5, 22] (fun t i wq => ∃ (T k : Nat), t = .int .i64 (T : Int) ∧ i = .int .i64 (k : Int) ∧ k ≤ n ∧ T < n ∧ Hid (Least xs T k) ∧ Below wA.heap.size wA wq) (fun _ i _ => n - (intOf i).toNat)
          case atStart =>
            refine ⟨0, 0, rfl, rfl, by omega, hxn2, ?_, Below.refl _ _⟩
            show Least xs 0 0
            exact ⟨by rw [HN.out]; exact hxn2, fun i hi => absurd hi (Nat.not_lt_zero i)⟩
          case round =>
            obtain ⟨T, k, rfl, rfl, hk, hT, LE, hbq⟩ := hrel
            have hT1 : (T : Int) < (n : Int) := by omega
            by_cases hlt : (k : Int) < (n : Int)
            · have c1 : wr.cell? ⟨g, k, none⟩ = some (.int .u64 (xs[k]?.getD 0)) := (hbq.cell (p := ⟨g, k, none⟩) ex3).trans (CX.out k (by rw [HN.out]; omega))
              have c2 : wr.cell? ⟨g, T, none⟩ = some (.int .u64 (xs[T]?.getD 0)) := (hbq.cell (p := ⟨g, T, none⟩) ex3).trans (CX.out T (by rw [HN.out]; omega))
              obtain ⟨p0, p1⟩ := SI.out.bx.get k (by rw [HN.out]; omega)
              obtain ⟨q0, q1⟩ := SI.out.bx.get T (by rw [HN.out]; omega)
              have TK : Hid (totS (xs[k]?.getD 0) (xs[T]?.getD 0) < 0 → Least xs k (k + 1)) := fun h => LE.out.take (by rw [HN.out]; omega) h
              have ST : Hid (¬ totS (xs[k]?.getD 0) (xs[T]?.getD 0) < 0 → Least xs T (k + 1)) := fun h => LE.out.stay h
              obtain ⟨x, hx⟩ : ∃ x, xs[k]?.getD 0 = x := ⟨_, rfl⟩
              obtain ⟨y, hy⟩ : ∃ x, xs[T]?.getD 0 = x := ⟨_, rfl⟩
              rw [hx] at c1 p0 p1 TK ST
              rw [hy] at c2 q0 q1 TK ST
              obtain ⟨C, hC⟩ : ∃ C, totS x y = C := ⟨_, rfl⟩
              rw [hC] at TK ST
              have HC : Hid (_ = _) := hC
              have s1 : wr.drew.cell? ⟨g, k, none⟩ = some (.int .u64 x) := c1
              have s2 : wr.drew.cell? ⟨g, T, none⟩ = some (.int .u64 y) := c2
              clear hx hy hC LE
              go_wp2_with fail
              go_region_held3 (fun w' => w'.cell? ⟨g, k, none⟩ = some (.int .u64 x) ∧ w'.cell? ⟨g, T, none⟩ = some (.int .u64 y)) (simp [go_sem, *])
                (first | (go_at_call 49; refine (oTotal _ _ _ p0 p1 q0 q1).mono ?_; rintro e w' ⟨rfl, hw⟩; have hw2 := hw.symm; clear hw; subst hw2; rw [HC.out]))
              have hbd : Below wA.heap.size wA wr.drew := hbq.drew
              by_cases hneg : C < 0
              · have L2 : Hid (Least xs k (k + 1)) := TK.out hneg
                clear TK ST
                go_wp2
                go_roundw
                case rel => exact ⟨k, k + 1, rfl, by go_num, by omega, by omega, L2, hbd⟩
                case measure => simp [intOf]; omega
              · have L2 : Hid (Least xs T (k + 1)) := ST.out (by omega)
                clear TK ST
                go_wp2
                go_roundw
                case rel => exact ⟨T, k + 1, rfl, by go_num, by omega, by omega, L2, hbd⟩
                case measure => simp [intOf]; omega
            · have hkn : k = n := by omega
              subst hkn
              have c2 : wr.cell? ⟨g, T, none⟩ = some (.int .u64 (xs[T]?.getD 0)) := (hbq.cell (p := ⟨g, T, none⟩) ex3).trans (CX.out T (by rw [HN.out]; omega))
              have SI2 : Hid (SortI len0 (xs.take T ++ xs.drop (T + 1)) (ys ++ [xs[T]?.getD 0])) := SI.out.step T (by rw [HN.out]; omega) (fun i hi => LE.out.2 i (by rw [← HN.out]; exact hi))
              obtain ⟨x, hx⟩ : ∃ x, xs[T]?.getD 0 = x := ⟨_, rfl⟩
              rw [hx] at c2 SI2
              have ownX2 := ownX.below hbq
              have ownY2 := ownY.below hbq
              have hs2 := hbq.size
              have hlm : Hid (ys.length ≤ 40) := by show _ ≤ _; rw [HM.out]; omega
              clear hx LE
              go_wp2_with (first | (at_builtin; refine wpListU_app rfl _ _ rfl w.heap.size _ ys rfl (ownY2.alloc _) _ [x] rfl (SeesU.one wr x) (by have := hlm.out; simp; omega) (by simp; omega) ?_))
              intro v5 w5 own5 bel5 hg5 hat5
              have ownX5 : OwnU w5 w.heap.size (.slice (some ⟨g, 0, none⟩) k cx) xs := (ownX2.alloc _).apart hg5 (by simp [Value.ownBlock]; exact hgg)
              obtain ⟨g5, c5, rfl, y1, y2, y3, y4, y5, y6⟩ := own5.at
              have hg5x : g ≠ g5 := by
                rw [y1] at hat5
                simp [Value.ownBlock] at hat5
                omega
              have hb5 : Below w.heap.size w w5 := (hbw.trans (hbq.mono hsz)).trans (((Below.refl _ _).alloc (by omega) _).trans bel5)
              have hT2 : (T : Int) ≤ (cx : Int) := by omega
              obtain ⟨T1, hT1'⟩ : ∃ T1, T + 1 = T1 := ⟨_, rfl⟩
              have hT3 : (T1 : Int) ≤ (k : Int) := by omega
              have hT4 : IntKind.i64.wrap ((T : Int) + 1) = (T1 : Int) := by rw [IntKind.wrap_i64]; omega
              have hT5 : (0 : Int) ≤ (T1 : Int) := by omega
              have hT6 : (k : Int) ≤ (cx : Int) := by omega
              have hT7 : (T1 : Int) ≤ (cx : Int) := by omega
              have hT8 : (0 : Int) ≤ (T : Int) := by omega
              rw [hT1'] at SI2
              have HT1 : Hid (_ = _) := hT1'
              clear hT1'
              clear y6 hg5 hat5 bel5 ownY2 ownX2 c2
              have sX : SeesU w5 (.slice (some ⟨g, 0, none⟩) xs.length cx) xs := by rw [HN.out]; exact ownX5.sees
              have sT : SeesU w5 (.slice (some ⟨g, 0, none⟩) T cx) (xs.take T) := sX.take T (by rw [HN.out]; omega)
              have sD1 : SeesU w5 (.slice (some ⟨g, T1, none⟩) (k - T1) (cx - T1)) (xs.drop T1) := by
                have := sX.drop T1 (by rw [HN.out]; omega)
                rw [HN.out] at this
                exact this
              have sD : SeesU w5 (.slice (if cx = T1 then some ⟨g, 0, none⟩ else some ⟨g, T1, none⟩) (k - T1) (cx - T1)) (xs.drop T1) := by
                by_cases hcx : cx = T1
                · rw [if_pos hcx]
                  obtain ⟨b', o', c', e', f1, f2, f3, f4⟩ := sD1
                  have hl0 : (xs.drop T1).length = 0 := by rw [List.length_drop, HN.out]; omega
                  simp at e'
                  refine ⟨g, 0, cx - T1, by rw [hl0]; congr 1; omega, ?_, by omega, by omega, fun i hi => by omega⟩
                  obtain ⟨⟨rfl, rfl⟩, _⟩ := e'
                  exact f1
                · rw [if_neg hcx]; exact sD1
              clear sD1
              have lT : Hid ((xs.take T).length ≤ 40) := by show _ ≤ _; rw [List.length_take]; omega
              have lD : Hid ((xs.drop T1).length ≤ 40) := by show _ ≤ _; rw [List.length_drop, HN.out]; omega
              have LL : Hid (([] ++ xs.take T).length + (xs.drop T1).length ≤ 10000000) := by
                show _ ≤ _
                have q1 := lT.out
                have q2 := lD.out
                rw [List.nil_append]
                omega
              clear sX
              go_wp2_with fail
              have bel5 : Below w5.heap.size w5 (w5.alloc (.cells #[] 22)).drew := ((Below.refl _ _).alloc (Nat.le_refl _) _).drew
              have own0 : OwnU (w5.alloc (.cells #[] 22)).drew w5.heap.size (.slice (some ⟨w5.heap.size, 0, none⟩) 0 0) [] := (OwnU.new w5 _ (Nat.le_refl _)).below (Below.refl _ _).drew
              have sT2 := sT.below bel5
              have hs50 : w5.heap.size ≤ (w5.alloc (.cells #[] 22)).drew.heap.size := bel5.size
              go_region_held3 (fun _ => True) (trivial)
                (first
                  | (refine stepU_app rfl _ _ rfl w5.heap.size _ [] rfl own0 _ (xs.take T) rfl sT2 (by have := lT.out; simp; omega) hs50 ?_; intro v6 w6 own6 bel6 hg6 hat6; have bel6' : Below w5.heap.size w5 w6 := bel5.trans bel6; have hsw6 := bel6'.size)
                  | (refine stepU_app rfl _ _ rfl w5.heap.size _ ([] ++ xs.take T) rfl own6 _ (xs.drop T1) rfl (sD.below bel6') LL.out hsw6 ?_; intro v7 w7 own7 bel7 hg7 hat7))
              have own7' : OwnU w7 w.heap.size v7 (xs.take T ++ xs.drop T1) := own7.base (by have := hb5.size; omega)
              have bel7' : Below w5.heap.size w5 w7 := bel6'.trans bel7
              have own5' := own5.below bel7'
              have hb7 : Below w.heap.size w w7 := hb5.trans (bel7'.mono hb5.size)
              obtain ⟨g7, c7, rfl, x1, x2, x3, x4, x5, x6⟩ := own7.at
              have hne7 : (Value.slice (some ⟨g7, 0, none⟩) ([] ++ xs.take T ++ xs.drop T1).length c7).ownBlock ≠ (Value.slice (some ⟨g5, 0, none⟩) (ys ++ [x]).length c5).ownBlock := by
                simp [Value.ownBlock]
                omega
              have hmeas : Hid (([] ++ xs.take T ++ xs.drop T1).length < k) := by
                show _ < _
                have q1 := HT1.out
                rw [List.nil_append, List.length_append, List.length_take, List.length_drop, HN.out]
                omega
              have eL : (ys ++ [x]).length = ys.length + 1 := by rw [List.length_append, List.length_singleton]
              rw [eL] at own5' hne7
              clear eL
              clear x6 own6 own7 bel6 bel7 hg6 hg7 hat6 hat7
              go_wp2
              go_roundw
              case rel => exact ⟨xs.take T ++ xs.drop T1, ys ++ [x], own7', own5', hne7, SI2, hb7⟩
              case measure => exact hmeas.out
        · have hxn2 : n = 0 := by omega
          subst hxn2
          have hml : m = len0 := by omega
          subst hml
          clear CX ownX
          go_wp2
          go_loopw [56] (fun i wq => ∃ k : Nat, i = .int .i64 (k : Int) ∧ k ≤ m ∧ Below wA.heap.size wA wq) (fun i _ => m - (intOf i).toNat)
          case atStart => exact ⟨0, rfl, by omega, Below.refl _ _⟩
          case round =>
            obtain ⟨k, rfl, hk, hbq⟩ := hrel
            by_cases hlt : (k : Int) < (m : Int)
            · have c2 : wr.cell? ⟨gy, k, none⟩ = some (.int .u64 (ys[k]?.getD 0)) := (hbq.cell (p := ⟨gy, k, none⟩) ey3).trans (CY.out k (by rw [HM.out]; omega))
              have hbd : Below wA.heap.size wA wr.drew := hbq.drew
              by_cases hk0 : (0 : Int) < (k : Int)
              · obtain ⟨k1, hk1⟩ : ∃ k1 : Nat, k1 = k - 1 := ⟨_, rfl⟩
                have hk2 : IntKind.i64.wrap ((k : Int) - 1) = (k1 : Int) := by rw [IntKind.wrap_i64]; omega
                have hk3 : (k1 : Int) < (m : Int) := by omega
                have hk4 : (0 : Int) ≤ (k1 : Int) := by omega
                have c1 : wr.cell? ⟨gy, k1, none⟩ = some (.int .u64 (ys[k1]?.getD 0)) := (hbq.cell (p := ⟨gy, k1, none⟩) ey3).trans (CY.out k1 (by rw [HM.out]; omega))
                obtain ⟨p0, p1⟩ := SI.out.bys.get k (by rw [HM.out]; omega)
                obtain ⟨q0, q1⟩ := SI.out.bys.get k1 (by rw [HM.out]; omega)
                have ord := SI.out.order k (by omega) (by rw [HM.out]; omega)
                rw [← hk1] at ord
                have tp : ¬ 0 < totS (ys[k1]?.getD 0) (ys[k]?.getD 0) := by rw [tot_pos]; omega
                have lp : lessS (ys[k]?.getD 0) (ys[k1]?.getD 0) = false := by
                  cases hq : lessS (ys[k]?.getD 0) (ys[k1]?.getD 0)
                  · rfl
                  · have := less_place' _ _ p0 p1 q0 q1 hq; omega
                obtain ⟨x, hx⟩ : ∃ x, ys[k1]?.getD 0 = x := ⟨_, rfl⟩
                obtain ⟨y, hy⟩ : ∃ x, ys[k]?.getD 0 = x := ⟨_, rfl⟩
                rw [hx] at c1 q0 q1 tp lp
                rw [hy] at c2 p0 p1 tp lp
                obtain ⟨C, hC⟩ : ∃ C, totS x y = C := ⟨_, rfl⟩
                rw [hC] at tp
                have HC : Hid (_ = _) := hC
                have HL : Hid (_ = _) := lp
                have s1 : wr.drew.cell? ⟨gy, k1, none⟩ = some (.int .u64 x) := c1
                have s2 : wr.drew.cell? ⟨gy, k, none⟩ = some (.int .u64 y) := c2
                have hd1 : decide ((0 : Int) < (k : Int)) = true := decide_eq_true hk0
                have hd2 : decide (0 < k) = true := decide_eq_true (by omega)
                have hd3 : decide (0 < C) = false := decide_eq_false tp
                clear hx hy hC lp ord hk1
                go_wp2_with fail
                go_region_held3 (fun w' => w'.cell? ⟨gy, k1, none⟩ = some (.int .u64 x) ∧ w'.cell? ⟨gy, k, none⟩ = some (.int .u64 y)) (simp [go_sem, *])
                  (first | (go_at_call 49; refine (oTotal _ _ _ q0 q1 p0 p1).mono ?_; rintro e w' ⟨rfl, hw⟩; have hw2 := hw.symm; clear hw; subst hw2; rw [HC.out]) | (go_at_call 44; refine (oLess _ _ _ p0 p1 q0 q1).mono ?_; rintro e w' ⟨rfl, hw⟩; have hw2 := hw.symm; clear hw; subst hw2; rw [HL.out]))
                go_wp2
                go_roundw
                case rel => exact ⟨k + 1, by go_num, by omega, hbd⟩
                case measure => simp [intOf]; omega
              · have hk1 : k = 0 := by omega
                subst hk1
                clear c2
                go_wp2_with fail
                refine wp_region_noPanic ?_
                refine wp_region_held_drew (S := (fun _ => True)) (by kernel_rfl) trivial (fun hHeld => ?_)
                refine wpAnyH_take (i := 0) (oi := ({ dst := some 59, op := Op.move (Operand.tmp 7), type := _, pos := _, after := _, guard := none } : Oper)) (v := ?_) rfl (by kernel_rfl) (by kernel_rfl) (by kernel_rfl) (fun _ _ _ h => h) (Or.inl ⟨by rfl, ?_⟩) (by assumption) ?_
                rotate_left
                · intro w' hSw; (try dsimp only at hSw); go_simp <;> (try with_reducible rfl)
                (try simp only [Act.put, List.setIfInBounds_toArray, List.set_cons_zero, List.set_cons_succ])
                refine wpAnyH_take (i := 1) (oi := ({ dst := some 60, op := Op.binOp BinOp.gtr _ (Operand.tmp 59) (Operand.const (Value.int IntKind.i64 0)) _, type := _, pos := _, after := _, guard := none } : Oper)) (v := ?_) rfl (by kernel_rfl) (by kernel_rfl) (by kernel_rfl) (fun _ _ _ h => h) (Or.inl ⟨by rfl, ?_⟩) (by assumption) ?_
                rotate_left
                · intro w' hSw; (try dsimp only at hSw); go_simp <;> (try with_reducible rfl)
                (try simp only [Act.put, List.setIfInBounds_toArray, List.set_cons_zero, List.set_cons_succ])
                refine wpAnyH_take (i := 2) (oi := ({ dst := some 61, op := Op.move (Operand.tmp 60), type := _, pos := _, after := _, guard := none } : Oper)) (v := ?_) rfl (by kernel_rfl) (by kernel_rfl) (by kernel_rfl) (fun _ _ _ h => h) (Or.inl ⟨by rfl, ?_⟩) (by assumption) ?_
                rotate_left
                · intro w' hSw; (try dsimp only at hSw); go_simp <;> (try with_reducible rfl)
                (try simp only [Act.put, List.setIfInBounds_toArray, List.set_cons_zero, List.set_cons_succ])
                refine wpAnyH_take (i := 3) (oi := ({ dst := some 62, op := Op.move (Operand.tmp 4), type := _, pos := _, after := _, guard := some (2, true) } : Oper)) (v := undef) rfl (by kernel_rfl) (by kernel_rfl) (by kernel_rfl) (fun _ _ _ h => h) (Or.inr ⟨by kernel_rfl, rfl⟩) (by assumption) ?_
                (try simp only [Act.put, List.setIfInBounds_toArray, List.set_cons_zero, List.set_cons_succ])
                refine wpAnyH_take (i := 4) (oi := ({ dst := some 63, op := Op.move (Operand.tmp 7), type := _, pos := _, after := _, guard := some (2, true) } : Oper)) (v := undef) rfl (by kernel_rfl) (by kernel_rfl) (by kernel_rfl) (fun _ _ _ h => h) (Or.inr ⟨by kernel_rfl, rfl⟩) (by assumption) ?_
                (try simp only [Act.put, List.setIfInBounds_toArray, List.set_cons_zero, List.set_cons_succ])
                refine wpAnyH_take (i := 5) (oi := ({ dst := some 64, op := Op.binOp BinOp.sub _ (Operand.tmp 63) (Operand.const (Value.int IntKind.i64 1)) _, type := _, pos := _, after := _, guard := some (2, true) } : Oper)) (v := undef) rfl (by kernel_rfl) (by kernel_rfl) (by kernel_rfl) (fun _ _ _ h => h) (Or.inr ⟨by kernel_rfl, rfl⟩) (by assumption) ?_
                (try simp only [Act.put, List.setIfInBounds_toArray, List.set_cons_zero, List.set_cons_succ])
                refine wpAnyH_take (i := 6) (oi := ({ dst := some 65, op := Op.indexAddr _ (Operand.tmp 62) (Operand.tmp 64), type := _, pos := _, after := _, guard := some (2, true) } : Oper)) (v := undef) rfl (by kernel_rfl) (by kernel_rfl) (by kernel_rfl) (fun _ _ _ h => h) (Or.inr ⟨by kernel_rfl, rfl⟩) (by assumption) ?_
                (try simp only [Act.put, List.setIfInBounds_toArray, List.set_cons_zero, List.set_cons_succ])
                refine wpAnyH_take (i := 7) (oi := ({ dst := some 66, op := Op.load _ (Operand.tmp 65), type := _, pos := _, after := _, guard := some (2, true) } : Oper)) (v := undef) rfl (by kernel_rfl) (by kernel_rfl) (by kernel_rfl) (fun _ _ _ h => h) (Or.inr ⟨by kernel_rfl, rfl⟩) (by assumption) ?_
                (try simp only [Act.put, List.setIfInBounds_toArray, List.set_cons_zero, List.set_cons_succ])
                refine wpAnyH_take (i := 8) (oi := ({ dst := some 67, op := Op.move (Operand.tmp 4), type := _, pos := _, after := _, guard := some (2, true) } : Oper)) (v := undef) rfl (by kernel_rfl) (by kernel_rfl) (by kernel_rfl) (fun _ _ _ h => h) (Or.inr ⟨by kernel_rfl, rfl⟩) (by assumption) ?_
                (try simp only [Act.put, List.setIfInBounds_toArray, List.set_cons_zero, List.set_cons_succ])
                refine wpAnyH_take (i := 9) (oi := ({ dst := some 68, op := Op.move (Operand.tmp 7), type := _, pos := _, after := _, guard := some (2, true) } : Oper)) (v := undef) rfl (by kernel_rfl) (by kernel_rfl) (by kernel_rfl) (fun _ _ _ h => h) (Or.inr ⟨by kernel_rfl, rfl⟩) (by assumption) ?_
                (try simp only [Act.put, List.setIfInBounds_toArray, List.set_cons_zero, List.set_cons_succ])
                refine wpAnyH_take (i := 10) (oi := ({ dst := some 69, op := Op.indexAddr _ (Operand.tmp 67) (Operand.tmp 68), type := _, pos := _, after := _, guard := some (2, true) } : Oper)) (v := undef) rfl (by kernel_rfl) (by kernel_rfl) (by kernel_rfl) (fun _ _ _ h => h) (Or.inr ⟨by kernel_rfl, rfl⟩) (by assumption) ?_
                (try simp only [Act.put, List.setIfInBounds_toArray, List.set_cons_zero, List.set_cons_succ])
                refine wpAnyH_take (i := 11) (oi := ({ dst := some 70, op := Op.load _ (Operand.tmp 69), type := _, pos := _, after := _, guard := some (2, true) } : Oper)) (v := undef) rfl (by kernel_rfl) (by kernel_rfl) (by kernel_rfl) (fun _ _ _ h => h) (Or.inr ⟨by kernel_rfl, rfl⟩) (by assumption) ?_
                (try simp only [Act.put, List.setIfInBounds_toArray, List.set_cons_zero, List.set_cons_succ])
                refine wpAnyH_take (i := 12) (oi := ({ dst := some 71, op := Op.call { callee := Callee.value (Operand.func _), args := #[Operand.tmp 66, Operand.tmp 70], argTypes := _ }, type := _, pos := _, after := _, guard := some (2, true) } : Oper)) (v := undef) rfl (by kernel_rfl) (by kernel_rfl) (by kernel_rfl) (fun _ _ _ h => h) (Or.inr ⟨by kernel_rfl, rfl⟩) (by assumption) ?_
                (try simp only [Act.put, List.setIfInBounds_toArray, List.set_cons_zero, List.set_cons_succ])
                refine wpAnyH_take (i := 13) (oi := ({ dst := some 72, op := Op.binOp BinOp.gtr _ (Operand.tmp 71) (Operand.const (Value.int IntKind.i64 0)) _, type := _, pos := _, after := _, guard := some (2, true) } : Oper)) (v := undef) rfl (by kernel_rfl) (by kernel_rfl) (by kernel_rfl) (fun _ _ _ h => h) (Or.inr ⟨by kernel_rfl, rfl⟩) (by assumption) ?_
                (try simp only [Act.put, List.setIfInBounds_toArray, List.set_cons_zero, List.set_cons_succ])
                refine wpAnyH_take (i := 14) (oi := ({ dst := some 73, op := Op.move (Operand.tmp 72), type := _, pos := _, after := _, guard := some (2, true) } : Oper)) (v := undef) rfl (by kernel_rfl) (by kernel_rfl) (by kernel_rfl) (fun _ _ _ h => h) (Or.inr ⟨by kernel_rfl, rfl⟩) (by assumption) ?_
                (try simp only [Act.put, List.setIfInBounds_toArray, List.set_cons_zero, List.set_cons_succ])
                refine wpAnyH_take (i := 15) (oi := ({ dst := some 74, op := Op.move (Operand.tmp 4), type := _, pos := _, after := _, guard := some (14, false) } : Oper)) (v := undef) rfl (by kernel_rfl) (by kernel_rfl) (by kernel_rfl) (fun _ _ _ h => h) (Or.inr ⟨by kernel_rfl, rfl⟩) (by assumption) ?_
                (try simp only [Act.put, List.setIfInBounds_toArray, List.set_cons_zero, List.set_cons_succ])
                refine wpAnyH_take (i := 16) (oi := ({ dst := some 75, op := Op.move (Operand.tmp 7), type := _, pos := _, after := _, guard := some (14, false) } : Oper)) (v := undef) rfl (by kernel_rfl) (by kernel_rfl) (by kernel_rfl) (fun _ _ _ h => h) (Or.inr ⟨by kernel_rfl, rfl⟩) (by assumption) ?_
                (try simp only [Act.put, List.setIfInBounds_toArray, List.set_cons_zero, List.set_cons_succ])
                refine wpAnyH_take (i := 17) (oi := ({ dst := some 76, op := Op.indexAddr _ (Operand.tmp 74) (Operand.tmp 75), type := _, pos := _, after := _, guard := some (14, false) } : Oper)) (v := undef) rfl (by kernel_rfl) (by kernel_rfl) (by kernel_rfl) (fun _ _ _ h => h) (Or.inr ⟨by kernel_rfl, rfl⟩) (by assumption) ?_
                (try simp only [Act.put, List.setIfInBounds_toArray, List.set_cons_zero, List.set_cons_succ])
                refine wpAnyH_take (i := 18) (oi := ({ dst := some 77, op := Op.load _ (Operand.tmp 76), type := _, pos := _, after := _, guard := some (14, false) } : Oper)) (v := undef) rfl (by kernel_rfl) (by kernel_rfl) (by kernel_rfl) (fun _ _ _ h => h) (Or.inr ⟨by kernel_rfl, rfl⟩) (by assumption) ?_
                (try simp only [Act.put, List.setIfInBounds_toArray, List.set_cons_zero, List.set_cons_succ])
                refine wpAnyH_take (i := 19) (oi := ({ dst := some 78, op := Op.move (Operand.tmp 4), type := _, pos := _, after := _, guard := some (14, false) } : Oper)) (v := undef) rfl (by kernel_rfl) (by kernel_rfl) (by kernel_rfl) (fun _ _ _ h => h) (Or.inr ⟨by kernel_rfl, rfl⟩) (by assumption) ?_
                (try simp only [Act.put, List.setIfInBounds_toArray, List.set_cons_zero, List.set_cons_succ])
                refine wpAnyH_take (i := 20) (oi := ({ dst := some 79, op := Op.move (Operand.tmp 7), type := _, pos := _, after := _, guard := some (14, false) } : Oper)) (v := undef) rfl (by kernel_rfl) (by kernel_rfl) (by kernel_rfl) (fun _ _ _ h => h) (Or.inr ⟨by kernel_rfl, rfl⟩) (by assumption) ?_
                (try simp only [Act.put, List.setIfInBounds_toArray, List.set_cons_zero, List.set_cons_succ])
                refine wpAnyH_take (i := 21) (oi := ({ dst := some 80, op := Op.binOp BinOp.sub _ (Operand.tmp 79) (Operand.const (Value.int IntKind.i64 1)) _, type := _, pos := _, after := _, guard := some (14, false) } : Oper)) (v := undef) rfl (by kernel_rfl) (by kernel_rfl) (by kernel_rfl) (fun _ _ _ h => h) (Or.inr ⟨by kernel_rfl, rfl⟩) (by assumption) ?_
                (try simp only [Act.put, List.setIfInBounds_toArray, List.set_cons_zero, List.set_cons_succ])
                refine wpAnyH_take (i := 22) (oi := ({ dst := some 81, op := Op.indexAddr _ (Operand.tmp 78) (Operand.tmp 80), type := _, pos := _, after := _, guard := some (14, false) } : Oper)) (v := undef) rfl (by kernel_rfl) (by kernel_rfl) (by kernel_rfl) (fun _ _ _ h => h) (Or.inr ⟨by kernel_rfl, rfl⟩) (by assumption) ?_
                (try simp only [Act.put, List.setIfInBounds_toArray, List.set_cons_zero, List.set_cons_succ])
                refine wpAnyH_take (i := 23) (oi := ({ dst := some 82, op := Op.load _ (Operand.tmp 81), type := _, pos := _, after := _, guard := some (14, false) } : Oper)) (v := undef) rfl (by kernel_rfl) (by kernel_rfl) (by kernel_rfl) (fun _ _ _ h => h) (Or.inr ⟨by kernel_rfl, rfl⟩) (by assumption) ?_
                (try simp only [Act.put, List.setIfInBounds_toArray, List.set_cons_zero, List.set_cons_succ])
                refine wpAnyH_take (i := 24) (oi := ({ dst := some 83, op := Op.call { callee := Callee.value (Operand.func _), args := #[Operand.tmp 77, Operand.tmp 82], argTypes := _ }, type := _, pos := _, after := _, guard := some (14, false) } : Oper)) (v := undef) rfl (by kernel_rfl) (by kernel_rfl) (by kernel_rfl) (fun _ _ _ h => h) (Or.inr ⟨by kernel_rfl, rfl⟩) (by assumption) ?_
                (try simp only [Act.put, List.setIfInBounds_toArray, List.set_cons_zero, List.set_cons_succ])
                refine wpAnyH_take (i := 25) (oi := ({ dst := some 84, op := Op.pick (Operand.tmp 73) (Operand.const (Value.bool true)) (Operand.tmp 83), type := _, pos := _, after := _, guard := some (2, true) } : Oper)) (v := undef) rfl (by kernel_rfl) (by kernel_rfl) (by kernel_rfl) (fun _ _ _ h => h) (Or.inr ⟨by kernel_rfl, rfl⟩) (by assumption) ?_
                (try simp only [Act.put, List.setIfInBounds_toArray, List.set_cons_zero, List.set_cons_succ])
                refine wpAnyH_take (i := 26) (oi := ({ dst := some 85, op := Op.pick (Operand.tmp 61) (Operand.tmp 84) (Operand.const (Value.bool false)), type := _, pos := _, after := _, guard := none } : Oper)) (v := ?_) rfl (by kernel_rfl) (by kernel_rfl) (by kernel_rfl) (fun _ _ _ h => h) (Or.inl ⟨by rfl, ?_⟩) (by assumption) ?_
                rotate_left
                · intro w' hSw; (try dsimp only at hSw); go_simp <;> (try with_reducible rfl)
                (try simp only [Act.put, List.setIfInBounds_toArray, List.set_cons_zero, List.set_cons_succ])
                refine wpAnyH_done (by kernel_rfl) ?_ _
                refine NoPanic.normal ?_
                go_wp2
                go_roundw
                case rel => exact ⟨1, by go_num, by omega, hbd⟩
                case measure => simp [intOf]; omega
            · go_wp2
              go_ret
              exact ⟨ret_eq (bool_eq (by simp)), hbw.trans (hbq.mono hsz)⟩
    · have e0 : len0 = 0 := by omega
      subst e0
      rcases w0 with ⟨rfl, _, rfl, rfl⟩ | ⟨x, rfl, h1, h2, h3, h4, h5⟩
      · go_enter Try.func14, Try.ntmps14
        go_wp2_with (first | (go_at_call 41; refine (oHead _).mono ?_; rintro e w' ⟨rfl, hw⟩; have hw2 := hw.symm; clear hw; subst hw2))
        refine wp_loop_rounds 1 ?_
        rw [rounds_succ]
        go_wp2
        refine wp_loop_rounds 1 ?_
        rw [rounds_succ]
        go_wp2
        go_ret
        exact ⟨ret_eq (bool_eq (by simp)), ((Below.refl _ _).alloc (Nat.le_refl _) _).alloc (by simp) _⟩
      · clear h4 h5
        go_enter Try.func14, Try.ntmps14
        go_wp2_with (first | (go_at_call 41; refine (oHead _).mono ?_; rintro e w' ⟨rfl, hw⟩; have hw2 := hw.symm; clear hw; subst hw2) | (at_builtin; refine wpListU_app0 rfl _ _ rfl w.heap.size _ [] rfl (OwnU.new w _ (Nat.le_refl _)) _ _ rfl (by simp) (by simp) ?_))
        intro v1 w1 own1 bel1
        have hb1 : Below w.heap.size w w1 := ((Below.refl _ _).alloc (Nat.le_refl _) _).trans bel1
        have hs1 := hb1.size
        obtain ⟨g, cx, rfl, ex1, ex2, ex3, ex4, ex5, ex6⟩ := own1.at
        clear ex6 own1 bel1
        rw [List.length_nil]
        go_wp2
        refine wp_loop_rounds 1 ?_
        rw [rounds_succ]
        go_wp2
        refine wp_loop_rounds 1 ?_
        rw [rounds_succ]
        go_wp2
        go_ret
        exact ⟨ret_eq (bool_eq (by simp)), hb1.alloc hs1 _⟩

/-! ### THE ROW's STEP: WRITTEN OUT: LEAVE IT -/
set_option maxRecDepth 100000 in
theorem lifted (os : Os) (started : os.Started) (H : Type) (enc : TypeId × Value → H) :
    ReturnsInHanded {} Try.checked os 14 .any (Rows.orderSortsSpec.pre6 enc Try.prog Try.f14 Rows.orderSortsRow.domain false) (Rows.orderSortsSpec.post enc Try.prog Try.f14 false true false false) := by
  refine returnsInHanded_of_change (C := Try.checked) own started (by kernel_rfl) Try.func14
    (ChangeSpec.witness6 (enc := enc) (C := Try.checked) false ⟨#[], #[.slice none 0 0], []⟩ 8 (by kernel_rfl) (by kernel_rfl) (by kernel_rfl) (by kernel_rfl)) ?_
  intro W base args ds gs before hval0 hW hcnd _
  have hval : ∀ (j : Nat) t v, Try.f14.params[j]? = some t → args[j]? = some v → Value.okWide Try.prog W .any base t v := hval0
  have hW' := hW
  obtain ⟨p, q, hA0, hV, rfl, hfz, hnd⟩ := hW
  have hA : DataW.TrodAll enc Try.prog W 0 (fun _ => true) true Try.f14.params.toList args.toList ds p := hA0
  rw [Try.params14] at hA hval
  obtain ⟨v0, vs0, d0, ds0, p0, q0, hargs, rfl, rfl, h0, r0⟩ := trodAll_cons hA
  obtain ⟨rfl, rfl, rfl⟩ := trodAll_nil r0
  obtain rfl : args = #[v0] := by cases args; simp_all
  obtain ⟨rfl, rfl⟩ := trodVars_none hV
  obtain ⟨a0, len0, cap0, rfl⟩ := okWide_slice Try.underlying56 (hval 0 56 v0 rfl rfl)
  have k0 := h0
  have lt0 : ∀ x ∈ p0, x.block < W.heap.size := by obtain ⟨m, hm⟩ := k0; exact DataW.trod_lt m _ _ _ hm
  obtain ⟨z0, w0⟩ : ∃ zs, IsRow .u64 W a0 len0 cap0 zs := by
    obtain ⟨fuel, hf⟩ := h0
    rcases open_ints Try.underlying56 Try.underlying22 (by kernel_rfl) hf with ⟨hcs, _⟩ | ⟨x, l, c, zs, hcs, _, hl, hm, hz, _, hcell, hwz⟩
    · simp [Value.cells] at hcs
      obtain ⟨rfl, rfl, rfl⟩ := hcs
      exact ⟨[], .inl ⟨rfl, rfl, rfl, rfl⟩⟩
    · simp [Value.cells] at hcs
      obtain ⟨rfl, rfl, rfl⟩ := hcs
      exact ⟨zs, .inr ⟨_, rfl, hl, hm, by simpa using hz, hcell, hwz⟩⟩
  clear hA0 hval0
  refine (walk a0 len0 cap0 z0 W w0).mono fun e W' ⟨he, bel⟩ => ?_
  subst he
  exact ⟨_, rfl, _, _, _, [], _, [], hW', trodAll_mk1 (shut_bool Try.underlying4 _), (trodAll_cons_mk (Below.trod laidOut (by kernel_rfl) (of_decide_eq_true (by kernel_rfl)) k0 bel lt0) trodAll_mk0), rfl, bel.frame _, fun h => by cases h⟩

theorem over : Rows.orderSortsRow.holds Try.pinned (OpenSpec.ofChange Rows.orderSortsSpec) :=
  OpenClaim.holds_of_wide 14 Try.f14 rfl rfl rfl rfl rfl rfl rfl ⟨rfl, rfl, rfl, rfl, rfl⟩ rfl rfl rfl rfl rfl (by kernel_rfl) Try.func14 (by kernel_rfl)
    (of_decide_eq_true (by kernel_rfl)) (by unfold Func.isWrapper; first | (rw [if_pos (by decide +kernel)]; kernel_rfl) | (rw [if_neg (by decide +kernel)]; exact ⟨rfl, rfl⟩))
    (fun os started H enc _ => lifted os started H enc)

/-- ████ THE STATEMENT ████ -/
theorem proved : Rows.OrderSortsSaid := over
#print axioms proved
end Go.Proofs.Yteohkpiecidicaa.orderSorts
