/-
  What fits and Rows of package hex return. Conditions: at most 4096 rows and columns; what is asked for each place answers a pattern and changes nothing.
-/
import Derived.Test.YtaamonmkfgonmaaDoorHexN
import Derived.Test.YtaamonmkfgonmaaDoorBst
import Derived.Lib.Builder
import Derived.Shelf.Strings.Builder1
namespace Go.Proofs.YtaamonmkfgonmaaDoor
open Go.RowKit
set_option linter.unusedVariables false
set_option linter.unusedSimpArgs false

/-- So many numbers of a row, with blanks between. -/
def rowT (g : Nat → Int) : Nat → List UInt8
  | 0 => []
  | k + 1 => rowT g k ++ (if k = 0 then [] else [32]) ++ txt (g k)
/-- So many rows. -/
def bodyT (n : Nat) (f : Nat → Nat → Int) : Nat → List UInt8
  | 0 => []
  | i + 1 => bodyT n f i ++ rowT (f i) n ++ [10]
def headT (m n : Nat) : List UInt8 := Lib.decDigits m ++ [32] ++ Lib.decDigits n ++ [10]
def rowsT (m n : Nat) (f : Nat → Nat → Int) : List UInt8 := headT m n ++ bodyT n f m
theorem rowT_len (g : Nat → Int) (h : ∀ k, 0 ≤ g k) (k : Nat) : (rowT g k).length ≤ 42 * k := by
  induction k with
  | zero => simp [rowT]
  | succ k ih =>
    have := txt_len (g k) (h k)
    unfold rowT
    simp only [List.length_append]
    split <;> simp <;> omega
theorem bodyT_len (n : Nat) (f : Nat → Nat → Int) (h : ∀ i k, 0 ≤ f i k) (i : Nat) : (bodyT n f i).length ≤ i * (42 * n + 1) := by
  induction i with
  | zero => simp [bodyT]
  | succ i ih =>
    have := rowT_len (f i) (h i) n
    unfold bodyT
    simp only [List.length_append, List.length_cons, List.length_nil]
    rw [Nat.add_mul]
    omega
theorem headT_len (m n : Nat) (hm : m ≤ 4096) (hn : n ≤ 4096) : (headT m n).length ≤ 50 := by
  unfold headT
  have h1 := dec_len64 m (by omega)
  have h2 := dec_len64 n (by omega)
  simp only [List.length_append, List.length_cons, List.length_nil]
  omega
theorem ownsRow_bel {B : Nat} {e : TypeId} {k : Nat} {v : Value} {n : Nat} {xs : List Value} {w w' : World} (h : w.ownsRow B e k v n xs) (hb : Below w.heap.size w w') : w'.ownsRow B e k v n xs := by
  refine ⟨h.1, ?_⟩
  rcases h.2 with hn | ⟨g, cap, cur, rfl, hbg, hgg, rest⟩
  · exact .inl hn
  · refine .inr ⟨g, cap, cur, rfl, hbg, ?_, rest⟩
    rw [hb.block g (Array.getElem?_eq_some_iff.1 hgg).1]
    exact hgg
theorem bAt_bel {T e : TypeId} {B b : Nat} {p : Value} {bs : List Value} {w w' : World} (h : Lib.BuilderAt T e B b p bs w) (hb : Below w.heap.size w w') : Lib.BuilderAt T e B b p bs w' := by
  obtain ⟨h1, v, h2, h3, h4⟩ := h
  refine ⟨h1, v, ?_, ownsRow_bel h3 hb, h4⟩
  rw [hb.block b (Array.getElem?_eq_some_iff.1 h2).1]
  exact h2
theorem isB_bel {T e : TypeId} {B b : Nat} {bs : List Value} {w w' : World} (h : Lib.IsBuilder T e B b bs w) (hb : Below w.heap.size w w') : Lib.IsBuilder T e B b bs w' := by
  rcases h with h | h
  · exact .inl (bAt_bel h hb)
  · exact .inr (bAt_bel h hb)
set_option maxHeartbeats 1000000 in
theorem hFits (m n : Nat) (w : World) (hm : m ≤ 4096) (hn : n ≤ 4096) : Calls Tryd.prog 36 #[.int .i64 m, .int .i64 n, .int .i64 2147483647] w fun e w' => e = .returned (.bool true) ∧ w = w' := by
  by_cases h0 : m = 0
  · subst h0
    go_enter Tryd.func36, Tryd.ntmps36
    go_wp2
    go_ret
    exact ⟨rfl, rfl⟩
  · have h0' : ¬ (m : Int) ≤ 0 := by omega
    by_cases h1 : n = 0
    · subst h1
      have h2 : (m : Int) ≤ 2147483647 := by omega
      go_enter Tryd.func36, Tryd.ntmps36
      go_wp2
      go_ret
      exact ⟨by simp [h2], rfl⟩
    · have h1' : ¬ (n : Int) ≤ 0 := by omega
      have h2 : (n : Int) ≤ 1073741823 := by omega
      have n2 : (0 : Int) < 2 * (n : Int) := by omega
      have hq : (m : Int) ≤ 2147483647 / (2 * (n : Int)) := by
        have e : m ≤ 2147483647 / (2 * n) := by
          rw [Nat.le_div_iff_mul_le (by omega)]
          have : m * (2 * n) ≤ 4096 * (2 * 4096) := Nat.mul_le_mul hm (by omega)
          omega
        have := Int.ofNat_le.2 e
        simpa using this
      go_enter Tryd.func36, Tryd.ntmps36
      go_wp2
      go_ret
      exact ⟨by simp [h2, hq], rfl⟩
theorem itoa_nat (u : Nat) (w : World) (hu : u < 1000000) (hT : Tabs w) : Calls Tryd.prog 37 #[.int .i64 u] w fun e w' => e = .returned (.string ⟨(Lib.decDigits u).toArray⟩) ∧ Below w.heap.size w w' := by
  have := Tryd.strconv_Itoa (u : Int) (by omega) (by omega) w hT.2
  rw [Lib.itoa_nonneg] at this
  exact this.mono fun e w' ⟨a, k, os, b⟩ => ⟨a, by rw [b]; exact grow_below w k os⟩
theorem bStr0 (B b : Nat) (bs : List Value) (s : ByteArray) (w : World) (h : Lib.IsBuilder 48 5 B b bs w) (hlen : bs.length + s.size ≤ 140737488355328) (hBw : B ≤ w.heap.size) :
    Calls Tryd.prog 30 #[.pointer (some ⟨b, 0, none⟩), .string s] w fun e w' => e = .returned (.tuple #[.int .i64 s.size, .nilIface]) ∧ (Lib.BuilderAt 48 5 B b (.pointer (some ⟨b, 0, none⟩)) (bs ++ Lib.strCells s) w' ∧ Below B w w') := Any.Builder_WriteString { Tryd.lays158 with } Tryd.Builder_Extra_158 B b bs s w h hlen hBw
theorem bByte0 (B b : Nat) (bs : List Value) (c : Int) (w : World) (h : Lib.IsBuilder 48 5 B b bs w) (hlen : bs.length + 1 ≤ 140737488355328) (hBw : B ≤ w.heap.size) :
    Calls Tryd.prog 31 #[.pointer (some ⟨b, 0, none⟩), .int .u8 c] w fun e w' => e = .returned .nilIface ∧ (Lib.BuilderAt 48 5 B b (.pointer (some ⟨b, 0, none⟩)) (bs ++ [.int .u8 c]) w' ∧ Below B w w') := Any.Builder_WriteByte { Tryd.lays158 with } Tryd.Builder_Extra_158 B b bs c w h hlen hBw
theorem bStr (B b : Nat) (l : List UInt8) (s : ByteArray) (w : World) (h : Lib.IsBuilder 48 5 B b (Lib.byteCells l) w) (hl : l.length + s.data.toList.length ≤ 1000000000) (hB : B ≤ w.heap.size) :
    Calls Tryd.prog 30 #[.pointer (some ⟨b, 0, none⟩), .string s] w fun e w' => e = .returned (.tuple #[.int .i64 s.size, .nilIface]) ∧ Lib.IsBuilder 48 5 B b (Lib.byteCells (l ++ s.data.toList)) w' ∧ Below B w w' := by
  refine (bStr0 B b _ s w h (by rw [Lib.byteCells_length, Lib.size_eq s]; omega) hB).mono fun e w' ⟨a, x, y⟩ => ⟨a, .inr ?_, y⟩
  rw [Lib.byteCells_append]
  exact x
theorem bByte (B b : Nat) (l : List UInt8) (c : UInt8) (z : Int) (hz : z = (c.toNat : Int)) (w : World) (h : Lib.IsBuilder 48 5 B b (Lib.byteCells l) w) (hl : l.length ≤ 1000000000) (hB : B ≤ w.heap.size) :
    Calls Tryd.prog 31 #[.pointer (some ⟨b, 0, none⟩), .int .u8 z] w fun e w' => e = .returned .nilIface ∧ Lib.IsBuilder 48 5 B b (Lib.byteCells (l ++ [c])) w' ∧ Below B w w' := by
  subst hz
  refine (bByte0 B b _ (c.toNat : Int) w h (by rw [Lib.byteCells_length]; omega) hB).mono fun e w' ⟨a, x, y⟩ => ⟨a, .inr ?_, y⟩
  rw [Lib.byteCells_append]
  exact x
set_option maxRecDepth 100000 in
set_option maxHeartbeats 8000000 in
theorem hRows1 (m n : Nat) (f : Nat → Nat → Int) (p q : Addr) (w : World) (hm : m ≤ 4096) (hn : n ≤ 4096) (f0 : ∀ i k, 0 ≤ f i k) (f1 : ∀ i k, f i k < 18446744073709551616) (hT : Tabs w)
    (hat : ∀ (i k : Nat) (W : World), i < m → k < n → Below w.heap.size w W → Calls Tryd.prog 16 #[.int .i64 i, .int .i64 k, .pointer (some p), .pointer (some q)] W fun e w' => e = .returned (.int .u64 (f i k)) ∧ W = w') :
    Calls Tryd.prog 18 #[.int .i64 m, .int .i64 n, .func (.func 16) #[] #[.pointer (some p), .pointer (some q)]] w fun e w' => e = .returned (.string ⟨(rowsT m n f).toArray⟩) ∧ Below w.heap.size w w' := by
  have HT := Lib.hid hT
  have HA := Lib.hid hat
  have hl := headT_len m n hm hn
  obtain ⟨S1, e1, z1, l1, d1⟩ := str_ob (Lib.decDigits m)
  obtain ⟨S2, e2, z2, l2, d2⟩ := str_ob (Lib.decDigits n)
  have zm : S1.size ≤ 20 := by rw [z1]; exact dec_len64 m (by omega)
  have zn : S2.size ≤ 20 := by rw [z2]; exact dec_len64 n (by omega)
  have I1 := Lib.hid e1
  have I2 := Lib.hid e2
  have lm : (Lib.decDigits m).length ≤ 20 := dec_len64 m (by omega)
  have ln : (Lib.decDigits n).length ≤ 20 := dec_len64 n (by omega)
  clear hT hat z1 l1 e1 z2 l2 e2
  have hnil : ∀ W, (binOp .eql 35 (.func (.func 16) #[] #[.pointer (some p), .pointer (some q)]) .nilFunc).run Tryd.prog W = .ok (.bool false) W := fun W => by kernel_rfl
  have hb0 : Lib.IsBuilder 48 5 w.heap.size w.heap.size (Lib.byteCells []) (w.alloc (.cells #[.pointer none, .slice none 0 0] 48)) := Lib.fresh_isBuilder _ _ w
  have HB0 := Lib.hid hb0
  clear hb0
  go_enter Tryd.func18, Tryd.ntmps18
  go_wp2_with (first | (go_at_call 36; refine (hFits m n _ hm hn).mono ?_; rintro e w' ⟨rfl, rfl⟩))
  refine (itoa_nat m _ (by omega) (HT.out.below ((Below.refl _ _).alloc (Nat.le_refl _) _))).mono ?_
  rintro e w1 ⟨rfl, hb1⟩
  rw [I1.out]
  have X1 := Lib.hid (isB_bel HB0.out hb1)
  have W1 := Lib.hid (Below.trans ((Below.refl w.heap.size w).alloc (Nat.le_refl _) _) (hb1.mono (by simp)))
  clear hb1 HB0
  go_wp2_with fail
  refine (bStr _ _ _ _ _ X1.out (by rw [d1]; simp; omega) W1.out.size).mono ?_
  rintro e w2 ⟨rfl, x2, hb2⟩
  have X2 := Lib.hid x2
  have W2 := Lib.hid (W1.out.trans hb2)
  clear x2 hb2 X1 W1
  go_wp2_with fail
  refine (bByte _ _ _ 32 _ rfl _ X2.out (by rw [d1]; simp; omega) W2.out.size).mono ?_
  rintro e w3 ⟨rfl, x3, hb3⟩
  have X3 := Lib.hid x3
  have W3 := Lib.hid (W2.out.trans hb3)
  clear x3 hb3 X2 W2
  go_wp2_with fail
  refine (itoa_nat n _ (by omega) (HT.out.below W3.out)).mono ?_
  rintro e w4 ⟨rfl, hb4⟩
  rw [I2.out]
  have X4 := Lib.hid (isB_bel X3.out hb4)
  have W4 := Lib.hid (bstep W3.out hb4)
  clear hb4 X3 W3
  go_wp2_with fail
  refine (bStr _ _ _ _ _ X4.out (by rw [d1, d2]; simp; omega) W4.out.size).mono ?_
  rintro e w5 ⟨rfl, x5, hb5⟩
  have X5 := Lib.hid x5
  have W5 := Lib.hid (W4.out.trans hb5)
  clear x5 hb5 X4 W4
  go_wp2_with fail
  refine (bByte _ _ _ 10 _ rfl _ X5.out (by rw [d1, d2]; simp; omega) W5.out.size).mono ?_
  rintro e w6 ⟨rfl, x6, hb6⟩
  have X6 : Hid (Lib.IsBuilder 48 5 w.heap.size w.heap.size (Lib.byteCells (headT m n ++ bodyT n f 0)) w6) := by
    have e : headT m n ++ bodyT n f 0 = [] ++ S1.data.toList ++ [32] ++ S2.data.toList ++ [10] := by rw [d1, d2]; unfold headT bodyT; simp
    show Lib.IsBuilder _ _ _ _ _ _
    rw [e]
    exact x6
  have W6 := Lib.hid (W5.out.trans hb6)
  clear x6 hb6 X5 W5 I1 I2 d1 d2 zm zn lm ln
  go_wp2
  go_loopw [25] (fun v wr => ∃ i : Nat, v = .int .i64 (i : Int) ∧ i ≤ m ∧ Hid (Lib.IsBuilder 48 5 w.heap.size w.heap.size (Lib.byteCells (headT m n ++ bodyT n f i)) wr) ∧ Hid (Below w.heap.size w wr)) (fun v _ => m - (intOf v).toNat)
  case atStart => exact ⟨0, rfl, Nat.zero_le _, X6, W6⟩
  case round =>
    obtain ⟨i, rfl, hi, XI, WI⟩ := hrel
    rename World => wo
    have bl := bodyT_len n f f0 i
    have bm : i * (42 * n + 1) ≤ 4096 * (42 * 4096 + 1) := Nat.mul_le_mul (by omega) (by omega)
    by_cases him : i < m
    · have him' : (i : Int) < (m : Int) := by omega
      go_wp2
      go_loopw [29] (fun v wr => ∃ k : Nat, v = .int .i64 (k : Int) ∧ k ≤ n ∧ Hid (Lib.IsBuilder 48 5 w.heap.size w.heap.size (Lib.byteCells (headT m n ++ bodyT n f i ++ rowT (f i) k)) wr) ∧ Hid (Below w.heap.size w wr)) (fun v _ => n - (intOf v).toNat)
      case atStart =>
        refine ⟨0, rfl, Nat.zero_le _, ?_, WI⟩
        show Lib.IsBuilder _ _ _ _ _ _
        rw [show rowT (f i) 0 = [] from rfl, List.append_nil]
        exact XI.out
      case round =>
        obtain ⟨k, rfl, hk, XK, WK⟩ := hrel
        rename World => wk
        have rl := rowT_len (f i) (f0 i) k
        by_cases hkn : k < n
        · have hkn' : (k : Int) < (n : Int) := by omega
          obtain ⟨T, eT, zT, lT, dT⟩ := str_ob (txt (f i k))
          have tl := txt_len (f i k) (f0 i k)
          have ET := Lib.hid eT
          clear eT zT lT
          by_cases hk0 : k = 0
          · subst hk0
            go_wp2_with fail
            refine (HA.out i 0 _ him (by omega) WK.out).mono ?_
            rintro e w' ⟨rfl, rfl⟩
            go_wp2_with fail
            refine (hText (f i 0) _ (f0 _ _) (f1 _ _) (HT.out.below WK.out)).mono ?_
            rintro e t1 ⟨rfl, ht1⟩
            rw [ET.out]
            have XT := Lib.hid (isB_bel XK.out ht1)
            have WT := Lib.hid (bstep WK.out ht1)
            clear ht1
            go_wp2_with fail
            refine (bStr _ _ _ _ _ XT.out (by rw [dT]; simp; omega) WT.out.size).mono ?_
            rintro e t2 ⟨rfl, x2, hb2⟩
            have XS := Lib.hid x2
            have WS := Lib.hid (WT.out.trans hb2)
            clear x2 hb2
            go_wp2
            go_roundw
            case rel =>
              refine ⟨0 + 1, by go_num, by omega, ?_, WS⟩
              have e : headT m n ++ bodyT n f i ++ rowT (f i) (0 + 1) = headT m n ++ bodyT n f i ++ rowT (f i) 0 ++ T.data.toList := by
                rw [dT]
                simp [rowT]
              show Lib.IsBuilder _ _ _ _ _ _
              rw [e]
              exact XS.out
            case measure => simp [intOf] <;> omega
          · have hk0' : (0 : Int) < (k : Int) := by omega
            go_wp2_with fail
            refine (bByte _ _ _ 32 _ rfl _ XK.out (by simp; omega) WK.out.size).mono ?_
            rintro e t0 ⟨rfl, x0, hb0⟩
            have X0 := Lib.hid x0
            have W0 := Lib.hid (WK.out.trans hb0)
            clear x0 hb0
            go_wp2_with fail
            refine (HA.out i k _ him (by omega) W0.out).mono ?_
            rintro e w' ⟨rfl, rfl⟩
            go_wp2_with fail
            refine (hText (f i k) _ (f0 _ _) (f1 _ _) (HT.out.below W0.out)).mono ?_
            rintro e t1 ⟨rfl, ht1⟩
            rw [ET.out]
            have XT := Lib.hid (isB_bel X0.out ht1)
            have WT := Lib.hid (bstep W0.out ht1)
            clear ht1
            go_wp2_with fail
            refine (bStr _ _ _ _ _ XT.out (by rw [dT]; simp; omega) WT.out.size).mono ?_
            rintro e t2 ⟨rfl, x2, hb2⟩
            have XS := Lib.hid x2
            have WS := Lib.hid (WT.out.trans hb2)
            clear x2 hb2
            go_wp2
            go_roundw
            case rel =>
              refine ⟨k + 1, by go_num, by omega, ?_, WS⟩
              have e : headT m n ++ bodyT n f i ++ rowT (f i) (k + 1) = headT m n ++ bodyT n f i ++ rowT (f i) k ++ [32] ++ T.data.toList := by
                rw [dT]
                rw [show rowT (f i) (k + 1) = rowT (f i) k ++ (if k = 0 then [] else [32]) ++ txt (f i k) from rfl, if_neg hk0]
                simp only [List.append_assoc]
              show Lib.IsBuilder _ _ _ _ _ _
              rw [e]
              exact XS.out
            case measure => simp [intOf] <;> omega
        · obtain rfl : k = n := by omega
          go_wp2_with fail
          refine (bByte _ _ _ 10 _ rfl _ XK.out (by simp; omega) WK.out.size).mono ?_
          rintro e t0 ⟨rfl, x0, hb0⟩
          have X0 := Lib.hid x0
          have W0 := Lib.hid (WK.out.trans hb0)
          clear x0 hb0
          go_wp2
          go_roundw
          case rel =>
            refine ⟨i + 1, by go_num, by omega, ?_, W0⟩
            have e : headT m k ++ bodyT k f (i + 1) = headT m k ++ bodyT k f i ++ rowT (f i) k ++ [10] := by
              rw [show bodyT k f (i + 1) = bodyT k f i ++ rowT (f i) k ++ [10] from rfl]
              simp only [List.append_assoc]
            show Lib.IsBuilder _ _ _ _ _ _
            rw [e]
            exact X0.out
          case measure => simp [intOf] <;> omega
    · obtain rfl : i = m := by omega
      go_wp2_with fail
      refine (Tryd.Builder_String_any w.heap.size w.heap.size _ _ XI.out WI.out.size).mono ?_
      rintro e t0 ⟨rfl, hb0⟩
      go_wp2
      go_ret
      exact ⟨rfl, WI.out.trans hb0⟩
end Go.Proofs.YtaamonmkfgonmaaDoor
