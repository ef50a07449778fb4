/-
  What Rows of package hex returns where the law HexMatrices tells the numbers. Conditions: at most 4096 rows and columns.
-/
import Derived.Test.YtaamonmkfgonmaaDoorHexMx
namespace Go.Proofs.YtaamonmkfgonmaaDoor
open Go.RowKit
set_option linter.unusedVariables false
set_option linter.unusedSimpArgs false

set_option maxRecDepth 100000 in
set_option maxHeartbeats 8000000 in
theorem hRows2 (m n : Nat) (f : Nat → Nat → Int) (p q : Addr) (w : World) (hm : m ≤ 4096) (hn : n ≤ 4096) (f0 : ∀ i k, 0 ≤ f i k) (f1 : ∀ i k, f i k < 18446744073709551616) (hT : Tabs w)
    (hat : ∀ (i k : Nat) (W : World), i < m → k < n → Below w.heap.size w W → Calls Tryd.prog 20 #[.int .i64 i, .int .i64 k, .pointer (some p), .pointer (some q)] W fun e w' => e = .returned (.int .u64 (f i k)) ∧ W = w') :
    Calls Tryd.prog 18 #[.int .i64 m, .int .i64 n, .func (.func 20) #[] #[.pointer (some p), .pointer (some q)]] w fun e w' => e = .returned (.string ⟨(rowsT m n f).toArray⟩) ∧ Below w.heap.size w w' := by
  have HT := Lib.hid hT
  have HA := Lib.hid hat
  have hl := headT_len m n hm hn
  obtain ⟨S1, e1, z1, l1, d1⟩ := str_ob (Lib.decDigits m)
  obtain ⟨S2, e2, z2, l2, d2⟩ := str_ob (Lib.decDigits n)
  have zm : S1.size ≤ 20 := by rw [z1]; exact dec_len64 m (by omega)
  have zn : S2.size ≤ 20 := by rw [z2]; exact dec_len64 n (by omega)
  have I1 := Lib.hid e1
  have I2 := Lib.hid e2
  have lm : (Lib.decDigits m).length ≤ 20 := dec_len64 m (by omega)
  have ln : (Lib.decDigits n).length ≤ 20 := dec_len64 n (by omega)
  clear hT hat z1 l1 e1 z2 l2 e2
  have hnil : ∀ W, (binOp .eql 35 (.func (.func 20) #[] #[.pointer (some p), .pointer (some q)]) .nilFunc).run Tryd.prog W = .ok (.bool false) W := fun W => by kernel_rfl
  have hb0 : Lib.IsBuilder 48 5 w.heap.size w.heap.size (Lib.byteCells []) (w.alloc (.cells #[.pointer none, .slice none 0 0] 48)) := Lib.fresh_isBuilder _ _ w
  have HB0 := Lib.hid hb0
  clear hb0
  go_enter Tryd.func18, Tryd.ntmps18
  go_wp2_with (first | (go_at_call 36; refine (hFits m n _ hm hn).mono ?_; rintro e w' ⟨rfl, rfl⟩))
  refine (itoa_nat m _ (by omega) (HT.out.below ((Below.refl _ _).alloc (Nat.le_refl _) _))).mono ?_
  rintro e w1 ⟨rfl, hb1⟩
  rw [I1.out]
  have X1 := Lib.hid (isB_bel HB0.out hb1)
  have W1 := Lib.hid (Below.trans ((Below.refl w.heap.size w).alloc (Nat.le_refl _) _) (hb1.mono (by simp)))
  clear hb1 HB0
  go_wp2_with fail
  refine (bStr _ _ _ _ _ X1.out (by rw [d1]; simp; omega) W1.out.size).mono ?_
  rintro e w2 ⟨rfl, x2, hb2⟩
  have X2 := Lib.hid x2
  have W2 := Lib.hid (W1.out.trans hb2)
  clear x2 hb2 X1 W1
  go_wp2_with fail
  refine (bByte _ _ _ 32 _ rfl _ X2.out (by rw [d1]; simp; omega) W2.out.size).mono ?_
  rintro e w3 ⟨rfl, x3, hb3⟩
  have X3 := Lib.hid x3
  have W3 := Lib.hid (W2.out.trans hb3)
  clear x3 hb3 X2 W2
  go_wp2_with fail
  refine (itoa_nat n _ (by omega) (HT.out.below W3.out)).mono ?_
  rintro e w4 ⟨rfl, hb4⟩
  rw [I2.out]
  have X4 := Lib.hid (isB_bel X3.out hb4)
  have W4 := Lib.hid (bstep W3.out hb4)
  clear hb4 X3 W3
  go_wp2_with fail
  refine (bStr _ _ _ _ _ X4.out (by rw [d1, d2]; simp; omega) W4.out.size).mono ?_
  rintro e w5 ⟨rfl, x5, hb5⟩
  have X5 := Lib.hid x5
  have W5 := Lib.hid (W4.out.trans hb5)
  clear x5 hb5 X4 W4
  go_wp2_with fail
  refine (bByte _ _ _ 10 _ rfl _ X5.out (by rw [d1, d2]; simp; omega) W5.out.size).mono ?_
  rintro e w6 ⟨rfl, x6, hb6⟩
  have X6 : Hid (Lib.IsBuilder 48 5 w.heap.size w.heap.size (Lib.byteCells (headT m n ++ bodyT n f 0)) w6) := by
    have e : headT m n ++ bodyT n f 0 = [] ++ S1.data.toList ++ [32] ++ S2.data.toList ++ [10] := by rw [d1, d2]; unfold headT bodyT; simp
    show Lib.IsBuilder _ _ _ _ _ _
    rw [e]
    exact x6
  have W6 := Lib.hid (W5.out.trans hb6)
  clear x6 hb6 X5 W5 I1 I2 d1 d2 zm zn lm ln
  go_wp2
  go_loopw [25] (fun v wr => ∃ i : Nat, v = .int .i64 (i : Int) ∧ i ≤ m ∧ Hid (Lib.IsBuilder 48 5 w.heap.size w.heap.size (Lib.byteCells (headT m n ++ bodyT n f i)) wr) ∧ Hid (Below w.heap.size w wr)) (fun v _ => m - (intOf v).toNat)
  case atStart => exact ⟨0, rfl, Nat.zero_le _, X6, W6⟩
  case round =>
    obtain ⟨i, rfl, hi, XI, WI⟩ := hrel
    rename World => wo
    have bl := bodyT_len n f f0 i
    have bm : i * (42 * n + 1) ≤ 4096 * (42 * 4096 + 1) := Nat.mul_le_mul (by omega) (by omega)
    by_cases him : i < m
    · have him' : (i : Int) < (m : Int) := by omega
      go_wp2
      go_loopw [29] (fun v wr => ∃ k : Nat, v = .int .i64 (k : Int) ∧ k ≤ n ∧ Hid (Lib.IsBuilder 48 5 w.heap.size w.heap.size (Lib.byteCells (headT m n ++ bodyT n f i ++ rowT (f i) k)) wr) ∧ Hid (Below w.heap.size w wr)) (fun v _ => n - (intOf v).toNat)
      case atStart =>
        refine ⟨0, rfl, Nat.zero_le _, ?_, WI⟩
        show Lib.IsBuilder _ _ _ _ _ _
        rw [show rowT (f i) 0 = [] from rfl, List.append_nil]
        exact XI.out
      case round =>
        obtain ⟨k, rfl, hk, XK, WK⟩ := hrel
        rename World => wk
        have rl := rowT_len (f i) (f0 i) k
        by_cases hkn : k < n
        · have hkn' : (k : Int) < (n : Int) := by omega
          obtain ⟨T, eT, zT, lT, dT⟩ := str_ob (txt (f i k))
          have tl := txt_len (f i k) (f0 i k)
          have ET := Lib.hid eT
          clear eT zT lT
          by_cases hk0 : k = 0
          · subst hk0
            go_wp2_with fail
            refine (HA.out i 0 _ him (by omega) WK.out).mono ?_
            rintro e w' ⟨rfl, rfl⟩
            go_wp2_with fail
            refine (hText (f i 0) _ (f0 _ _) (f1 _ _) (HT.out.below WK.out)).mono ?_
            rintro e t1 ⟨rfl, ht1⟩
            rw [ET.out]
            have XT := Lib.hid (isB_bel XK.out ht1)
            have WT := Lib.hid (bstep WK.out ht1)
            clear ht1
            go_wp2_with fail
            refine (bStr _ _ _ _ _ XT.out (by rw [dT]; simp; omega) WT.out.size).mono ?_
            rintro e t2 ⟨rfl, x2, hb2⟩
            have XS := Lib.hid x2
            have WS := Lib.hid (WT.out.trans hb2)
            clear x2 hb2
            go_wp2
            go_roundw
            case rel =>
              refine ⟨0 + 1, by go_num, by omega, ?_, WS⟩
              have e : headT m n ++ bodyT n f i ++ rowT (f i) (0 + 1) = headT m n ++ bodyT n f i ++ rowT (f i) 0 ++ T.data.toList := by
                rw [dT]
                simp [rowT]
              show Lib.IsBuilder _ _ _ _ _ _
              rw [e]
              exact XS.out
            case measure => simp [intOf] <;> omega
          · have hk0' : (0 : Int) < (k : Int) := by omega
            go_wp2_with fail
            refine (bByte _ _ _ 32 _ rfl _ XK.out (by simp; omega) WK.out.size).mono ?_
            rintro e t0 ⟨rfl, x0, hb0⟩
            have X0 := Lib.hid x0
            have W0 := Lib.hid (WK.out.trans hb0)
            clear x0 hb0
            go_wp2_with fail
            refine (HA.out i k _ him (by omega) W0.out).mono ?_
            rintro e w' ⟨rfl, rfl⟩
            go_wp2_with fail
            refine (hText (f i k) _ (f0 _ _) (f1 _ _) (HT.out.below W0.out)).mono ?_
            rintro e t1 ⟨rfl, ht1⟩
            rw [ET.out]
            have XT := Lib.hid (isB_bel X0.out ht1)
            have WT := Lib.hid (bstep W0.out ht1)
            clear ht1
            go_wp2_with fail
            refine (bStr _ _ _ _ _ XT.out (by rw [dT]; simp; omega) WT.out.size).mono ?_
            rintro e t2 ⟨rfl, x2, hb2⟩
            have XS := Lib.hid x2
            have WS := Lib.hid (WT.out.trans hb2)
            clear x2 hb2
            go_wp2
            go_roundw
            case rel =>
              refine ⟨k + 1, by go_num, by omega, ?_, WS⟩
              have e : headT m n ++ bodyT n f i ++ rowT (f i) (k + 1) = headT m n ++ bodyT n f i ++ rowT (f i) k ++ [32] ++ T.data.toList := by
                rw [dT]
                rw [show rowT (f i) (k + 1) = rowT (f i) k ++ (if k = 0 then [] else [32]) ++ txt (f i k) from rfl, if_neg hk0]
                simp only [List.append_assoc]
              show Lib.IsBuilder _ _ _ _ _ _
              rw [e]
              exact XS.out
            case measure => simp [intOf] <;> omega
        · obtain rfl : k = n := by omega
          go_wp2_with fail
          refine (bByte _ _ _ 10 _ rfl _ XK.out (by simp; omega) WK.out.size).mono ?_
          rintro e t0 ⟨rfl, x0, hb0⟩
          have X0 := Lib.hid x0
          have W0 := Lib.hid (WK.out.trans hb0)
          clear x0 hb0
          go_wp2
          go_roundw
          case rel =>
            refine ⟨i + 1, by go_num, by omega, ?_, W0⟩
            have e : headT m k ++ bodyT k f (i + 1) = headT m k ++ bodyT k f i ++ rowT (f i) k ++ [10] := by
              rw [show bodyT k f (i + 1) = bodyT k f i ++ rowT (f i) k ++ [10] from rfl]
              simp only [List.append_assoc]
            show Lib.IsBuilder _ _ _ _ _ _
            rw [e]
            exact X0.out
          case measure => simp [intOf] <;> omega
    · obtain rfl : i = m := by omega
      go_wp2_with fail
      refine (Tryd.Builder_String_any w.heap.size w.heap.size _ _ XI.out WI.out.size).mono ?_
      rintro e t0 ⟨rfl, hb0⟩
      go_wp2
      go_ret
      exact ⟨rfl, WI.out.trans hb0⟩
set_option maxRecDepth 100000 in
set_option maxHeartbeats 1000000 in
theorem hAt2 (pb qb n i k : Nat) (v : Value) (vs : List Int) (W : World) (hp : W.cell? ⟨pb, 0, none⟩ = some v) (hq : W.cell? ⟨qb, 0, none⟩ = some (.int .i64 n)) (hv : SeesU W v vs) (hl : vs.length ≤ 100000000) (hi : i * n + k < vs.length) :
    Calls Tryd.prog 20 #[.int .i64 i, .int .i64 k, .pointer (some ⟨pb, 0, none⟩), .pointer (some ⟨qb, 0, none⟩)] W fun e w' => e = .returned (.int .u64 (atL n vs i k)) ∧ W = w' := by
  obtain ⟨b, o, c, rfl, hlt, hc, hm, hcell⟩ := hv
  obtain ⟨x, hx⟩ : ∃ x : Nat, i * n = x := ⟨_, rfl⟩
  have hxi : (i : Int) * (n : Int) = (x : Int) := by rw [← hx]; push_cast; rfl
  rw [hx] at hi
  have cc := hcell (x + k) hi
  have e1 : atL n vs i k = (vs[x + k]?).getD 0 := by unfold atL; rw [hx]; rfl
  rw [e1]
  obtain ⟨z, hz⟩ : ∃ z, (vs[x + k]?).getD 0 = z := ⟨_, rfl⟩
  rw [hz] at cc ⊢
  clear hcell e1 hz
  have hi' : (x : Int) + (k : Int) < (vs.length : Int) := by omega
  have hx2 : ((x : Int) + (k : Int)).toNat = x + k := by omega
  clear hx
  go_enter Tryd.func20, Tryd.ntmps20
  go_wp2
  go_ret
  exact ⟨rfl, rfl⟩
end Go.Proofs.YtaamonmkfgonmaaDoor
