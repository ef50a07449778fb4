/-
  What readRows and Matrix of package hex return at a matrix's text. Conditions: at most 7 rows and columns; what is laid of Go's library.
-/
import Derived.Test.YtaamonmkfgonmaaDoorHexJ
import Derived.Laws.MakeOwn
namespace Go.Proofs.YtaamonmkfgonmaaDoor
open Go.RowKit
set_option linter.unusedVariables false
set_option linter.unusedSimpArgs false

theorem hParseQ (b : Int) (P : ByteArray) (hP : ⟨(txt b).toArray⟩ = P) (w : World) (h0 : 0 ≤ b) (h1 : b < 18446744073709551616) (hT : Tabs w) :
    Calls Tryd.prog 11 #[.string P] w fun e w' => e = .returned (.tuple #[.int .u64 (qz b), .int .i64 0]) ∧ Below w.heap.size w w' := by
  rw [← hP]
  exact hParseTxt b w h0 h1 hT
theorem rest_step (n m : Nat) (f : Nat → Nat → Int) (i : Nat) (hi : i < m) : restT n f i (m - i) = rowT (f i) n ++ [10] ++ restT n f (i + 1) (m - i - 1) := by
  obtain ⟨c, hc⟩ : ∃ c, m - i = c + 1 := ⟨m - i - 1, by omega⟩
  rw [hc]
  rfl
theorem rrest_step (g : Nat → Int) (n k : Nat) (hk : k < n) (C : UInt8) (hC : C = if k + 1 = n then 10 else 32) (T : List UInt8) : rrest g k (n - k) ++ T = txt (g k) ++ [C] ++ (rrest g (k + 1) (n - (k + 1)) ++ T) := by
  obtain ⟨c, hc⟩ : ∃ c, n - k = c + 1 := ⟨n - k - 1, by omega⟩
  rw [hc, show n - (k + 1) = c by omega, show rrest g k (c + 1) = txt (g k) ++ [if c = 0 then 10 else 32] ++ rrest g (k + 1) c from rfl, hC]
  by_cases h : c = 0
  · rw [if_pos h, if_pos (by omega)]
    simp only [List.append_assoc]
  · rw [if_neg h, if_neg (by omega)]
    simp only [List.append_assoc]
/-- What readRows answers at such a text. -/
def RowsK (b base : Nat) (L : List Int) (e : Ending) (w' : World) : Prop := ∃ v : Value, e = .returned (.tuple #[v, .bool true]) ∧ OwnU w' base v L ∧ InS w' b []
set_option maxRecDepth 100000 in
set_option maxHeartbeats 8000000 in
theorem hReadOk (m n b : Nat) (f : Nat → Nat → Int) (w : World) (hm : m ≤ 7) (hn : n ≤ 7) (n1 : 0 < n) (f01 : ∀ i k, 0 ≤ f i k ∧ f i k < 18446744073709551616) (hS : InS w b (restT n f 0 m)) (hTE : ∀ W, Below b w W → Tabs W) :
    Calls Tryd.prog 40 #[.int .i64 m, .int .i64 n, .func (.func 38) #[] #[.pointer (some ⟨b, 0, none⟩)]] w fun e w' => RowsK b w.heap.size (numL n f m) e w' ∧ Below b w w' := by
  have HS := Lib.hid hS
  have HTE := Lib.hid hTE
  have F01 := Lib.hid f01
  have hbw : b < w.heap.size := hS.2.2
  obtain ⟨c, hc0⟩ : ∃ c : Nat, m * n = c := ⟨m * n, rfl⟩
  have hc : (m : Int) * (n : Int) = (c : Int) := by rw [← hc0]; push_cast; rfl
  have hcc : c ≤ 49 := by rw [← hc0]; exact Nat.mul_le_mul hm hn
  obtain ⟨ti, hi, hz, hsz, hby⟩ := info_parts Tryd.u64Info
  obtain ⟨w1, hmk, own1, hg1⟩ := run_makeSlice_owned (P := Tryd.prog) (w := w) w.heap.size 34 22 ti (.int .u64 0) 1 Tryd.underlying34 hi hz hsz .i64 .i64 c (by omega) (by rw [hby]; omega) (by unfold maxLen; omega) (Nat.le_refl _)
  have O1 : Hid (OwnU w1 w.heap.size (.slice (some ⟨w.heap.size, 0, none⟩) 0 c) []) := ⟨own1, by simp⟩
  have B1 : Hid (Below w.heap.size w w1) := (Below.refl _ w).grown hg1 (Nat.le_refl _) (fun k hk => by cases hk)
  clear own1 hg1 hi hz hsz hby hS hTE hc0 f01
  have S1 := Lib.hid (HS.out.below B1.out hbw)
  have BB := Lib.hid (B1.out.mono (show b ≤ w.heap.size by omega))
  go_enter Tryd.func40, Tryd.ntmps40
  go_wp2
  go_loopw [8, 22] (fun v8 v22 wr => ∃ (i : Nat), v22 = .int .i64 (i : Int) ∧ i ≤ m ∧ Hid (OwnU wr w.heap.size v8 (numL n f i)) ∧ Hid (InS wr b (restT n f i (m - i))) ∧ Hid (Below b w wr)) (fun _ v22 _ => m - (intOf v22).toNat)
  case atStart => exact ⟨0, rfl, Nat.zero_le _, O1, S1, BB⟩
  case round =>
    obtain ⟨i, rfl, hi, OI, SI, BI⟩ := hrel
    rename World => wo
    by_cases him : i < m
    · have him' : (i : Int) < (m : Int) := by omega
      have n0 : ((n : Int) == 0) = false := by rw [beq_eq_false_iff_ne]; omega
      obtain ⟨T, hT⟩ : ∃ T, restT n f (i + 1) (m - i - 1) = T := ⟨_, rfl⟩
      have hTl : T.length ≤ 3000 := by
        rw [← hT]
        have h1 := restT_len n f (fun i k => (F01.out i k).1) (m - i - 1) (i + 1)
        have h2 : (m - i - 1) * (42 * n + 1) ≤ 7 * (42 * 7 + 1) := Nat.mul_le_mul (by omega) (by omega)
        omega
      have hin : i * n ≤ 49 := Nat.mul_le_mul (show i ≤ 7 by omega) hn
      have SI0 : Hid (InS wo b (rrest (f i) 0 (n - 0) ++ T)) := by
        show InS _ _ _
        have := SI.out
        rw [rest_step n m f i him, hT, row_rest (f i) n n1] at this
        exact this
      have OI0 : Hid (∃ v8 : Value, True) := ⟨.nilFunc, trivial⟩
      have HT2 := Lib.hid hT
      clear hT SI OI0
      go_wp2
      go_loopw [8, 38] (fun v8 v38 wr => ∃ (k : Nat), v38 = .int .i64 (k : Int) ∧ k ≤ n ∧ Hid (OwnU wr w.heap.size v8 (numL n f i ++ rowL (f i) k)) ∧ Hid (InS wr b (rrest (f i) k (n - k) ++ T)) ∧ Hid (Below b w wr)) (fun _ v38 _ => n - (intOf v38).toNat)
      case atStart => exact ⟨0, rfl, Nat.zero_le _, by rw [show rowL (f i) 0 = [] from rfl, List.append_nil]; exact OI, SI0, BI⟩
      case round =>
        obtain ⟨k, rfl, hk, OK, SK, BK⟩ := hrel
        rename World => wk
        have hQl : (rrest (f i) k (n - k) ++ T).length ≤ 100000 := by
          rw [List.length_append]
          have := rrest_len (f i) (fun k => (F01.out i k).1) (n - k) k
          omega
        by_cases hkn : k < n
        · have hkn' : (k : Int) < (n : Int) := by omega
          by_cases hlast : k + 1 = n
          · have hlk : (k : Int) = (n : Int) - 1 := by omega
            have TQ := Lib.hid (rrest_step (f i) n k hkn 10 (by rw [if_pos hlast]) T)
            have SK2 : Hid (InS wk b (txt (f i k) ++ [10] ++ (rrest (f i) (k + 1) (n - (k + 1)) ++ T))) := by show InS _ _ _; rw [← TQ.out]; exact SK.out
            have hnx := hNextAt 10 _ rfl b (txt (f i k)) (rrest (f i) (k + 1) (n - (k + 1)) ++ T) wk SK2.out (txt_10 _) (by rw [← TQ.out]; exact hQl)
            obtain ⟨PS, eP, zP, lP, dP⟩ := str_ob (txt (f i k))
            rw [eP] at hnx
            have HN := Lib.hid hnx
            have EP := Lib.hid eP
            obtain ⟨QB, hQB⟩ : ∃ QB : ByteArray, (⟨(rrest (f i) (k + 1) (n - (k + 1)) ++ T).toArray⟩ : ByteArray) = QB := ⟨_, rfl⟩
            have SX0 := SK2.out.put (rrest (f i) (k + 1) (n - (k + 1)) ++ T)
            rw [hQB] at HN SX0
            obtain ⟨q, hq⟩ : ∃ q, qz (f i k) = q := ⟨_, rfl⟩
            have HQ := Lib.hid hq
            clear hnx eP zP lP dP hQB SK2 TQ hq
            have BX := Lib.hid (BK.out.setCell (p := ⟨b, 0, none⟩) (Nat.le_refl b) (.string QB))
            have SX := Lib.hid SX0
            have OX := Lib.hid (OK.out.set (p := ⟨b, 0, none⟩) hbw (.string QB))
            clear SX0
            go_wp2_with fail
            refine HN.out.mono ?_
            rintro e w' ⟨rfl, hw'⟩
            rw [hw'] at BX SX OX
            clear HN hw'
            go_wp2_with fail
            refine (hParseQ (f i k) PS EP.out _ (F01.out i k).1 (F01.out i k).2 (HTE.out _ BX.out)).mono ?_
            rintro e W2 ⟨rfl, hb2⟩
            rw [HQ.out]
            have hsx := SX.out.2.2
            have BZ := Lib.hid (BX.out.trans (hb2.mono (by omega)))
            have SZ := Lib.hid (SX.out.below hb2 hsx)
            have OZ := Lib.hid (OX.out.below hb2)
            have wz : w.heap.size ≤ W2.heap.size := BZ.out.size
            clear hb2
            go_wp2_with (at_builtin; refine wpListU_app rfl _ _ rfl w.heap.size _ (numL n f i ++ rowL (f i) k) rfl (OZ.out.alloc _) _ [q] rfl (SeesU.one W2 q) (by rw [List.length_append, numL_len, rowL_len]; simp; omega) (by simp; omega) ?_)
            intro v' W3 own3 bel3 _ _
            have O3 : Hid (OwnU W3 w.heap.size v' (numL n f i ++ rowL (f i) (k + 1))) := by
              show OwnU _ _ _ _
              rw [show rowL (f i) (k + 1) = rowL (f i) k ++ [qz (f i k)] from rfl, HQ.out]
              exact own3
            have bel4 : Below w.heap.size W2 W3 := ((Below.refl _ W2).alloc wz _).trans bel3
            have B3 := Lib.hid (BZ.out.trans (bel4.mono (by omega)))
            have S3 := Lib.hid (SZ.out.below bel4 hbw)
            clear own3 bel3 bel4
            go_wp2
            go_roundw
            case rel => exact ⟨k + 1, by go_num, by omega, O3, S3, B3⟩
            case measure => simp [intOf] <;> omega
          · have hlk : ¬ (k : Int) = (n : Int) - 1 := by omega
            have TQ := Lib.hid (rrest_step (f i) n k hkn 32 (by rw [if_neg hlast]) T)
            have SK2 : Hid (InS wk b (txt (f i k) ++ [32] ++ (rrest (f i) (k + 1) (n - (k + 1)) ++ T))) := by show InS _ _ _; rw [← TQ.out]; exact SK.out
            have hnx := hNextAt 32 _ rfl b (txt (f i k)) (rrest (f i) (k + 1) (n - (k + 1)) ++ T) wk SK2.out (txt_32 _) (by rw [← TQ.out]; exact hQl)
            obtain ⟨PS, eP, zP, lP, dP⟩ := str_ob (txt (f i k))
            rw [eP] at hnx
            have HN := Lib.hid hnx
            have EP := Lib.hid eP
            obtain ⟨QB, hQB⟩ : ∃ QB : ByteArray, (⟨(rrest (f i) (k + 1) (n - (k + 1)) ++ T).toArray⟩ : ByteArray) = QB := ⟨_, rfl⟩
            have SX0 := SK2.out.put (rrest (f i) (k + 1) (n - (k + 1)) ++ T)
            rw [hQB] at HN SX0
            obtain ⟨q, hq⟩ : ∃ q, qz (f i k) = q := ⟨_, rfl⟩
            have HQ := Lib.hid hq
            clear hnx eP zP lP dP hQB SK2 TQ hq
            have BX := Lib.hid (BK.out.setCell (p := ⟨b, 0, none⟩) (Nat.le_refl b) (.string QB))
            have SX := Lib.hid SX0
            have OX := Lib.hid (OK.out.set (p := ⟨b, 0, none⟩) hbw (.string QB))
            clear SX0
            go_wp2_with fail
            refine HN.out.mono ?_
            rintro e w' ⟨rfl, hw'⟩
            rw [hw'] at BX SX OX
            clear HN hw'
            go_wp2_with fail
            refine (hParseQ (f i k) PS EP.out _ (F01.out i k).1 (F01.out i k).2 (HTE.out _ BX.out)).mono ?_
            rintro e W2 ⟨rfl, hb2⟩
            rw [HQ.out]
            have hsx := SX.out.2.2
            have BZ := Lib.hid (BX.out.trans (hb2.mono (by omega)))
            have SZ := Lib.hid (SX.out.below hb2 hsx)
            have OZ := Lib.hid (OX.out.below hb2)
            have wz : w.heap.size ≤ W2.heap.size := BZ.out.size
            clear hb2
            go_wp2_with (at_builtin; refine wpListU_app rfl _ _ rfl w.heap.size _ (numL n f i ++ rowL (f i) k) rfl (OZ.out.alloc _) _ [q] rfl (SeesU.one W2 q) (by rw [List.length_append, numL_len, rowL_len]; simp; omega) (by simp; omega) ?_)
            intro v' W3 own3 bel3 _ _
            have O3 : Hid (OwnU W3 w.heap.size v' (numL n f i ++ rowL (f i) (k + 1))) := by
              show OwnU _ _ _ _
              rw [show rowL (f i) (k + 1) = rowL (f i) k ++ [qz (f i k)] from rfl, HQ.out]
              exact own3
            have bel4 : Below w.heap.size W2 W3 := ((Below.refl _ W2).alloc wz _).trans bel3
            have B3 := Lib.hid (BZ.out.trans (bel4.mono (by omega)))
            have S3 := Lib.hid (SZ.out.below bel4 hbw)
            clear own3 bel3 bel4
            go_wp2
            go_roundw
            case rel => exact ⟨k + 1, by go_num, by omega, O3, S3, B3⟩
            case measure => simp [intOf] <;> omega
        · obtain rfl : k = n := by omega
          have S9 : Hid (InS wk b (restT k f (i + 1) (m - (i + 1)))) := by
            show InS _ _ _
            have := SK.out
            rw [show k - k = 0 by omega, show rrest (f i) k 0 = [] from rfl, List.nil_append, ← HT2.out] at this
            exact this
          clear SK
          go_wp2
          go_roundw
          case rel => exact ⟨i + 1, by go_num, by omega, OK, S9, BK⟩
          case measure => simp [intOf] <;> omega
    · obtain rfl : i = m := by omega
      have S9 : Hid (InS wo b []) := by
        show InS _ _ _
        have := SI.out
        rw [show i - i = 0 by omega] at this
        exact this
      clear SI
      go_wp2
      go_ret2
      exact ⟨⟨_, rfl, OI.out, S9.out⟩, BI.out⟩
set_option maxRecDepth 100000 in
set_option maxHeartbeats 8000000 in
theorem hReadOk0 (m b : Nat) (f : Nat → Nat → Int) (w : World) (hm : m ≤ 7) (hS : InS w b (restT 0 f 0 m)) :
    Calls Tryd.prog 40 #[.int .i64 m, .int .i64 0, .func (.func 38) #[] #[.pointer (some ⟨b, 0, none⟩)]] w fun e w' => RowsK b w.heap.size (numL 0 f m) e w' ∧ Below b w w' := by
  have HS := Lib.hid hS
  have hbw : b < w.heap.size := hS.2.2
  have hL0 : ∀ i, numL 0 f i = [] := fun i => List.eq_nil_of_length_eq_zero (by rw [numL_len]; simp)
  rw [hL0]
  obtain ⟨ti, hi, hz, hsz, hby⟩ := info_parts Tryd.u64Info
  obtain ⟨w1, hmk, own1, hg1⟩ := run_makeSlice_owned (P := Tryd.prog) (w := w) w.heap.size 34 22 ti (.int .u64 0) 1 Tryd.underlying34 hi hz hsz .i64 .i64 0 (by omega) (by rw [hby]; omega) (by unfold maxLen; omega) (Nat.le_refl _)
  have O1 : Hid (OwnU w1 w.heap.size (.slice (some ⟨w.heap.size, 0, none⟩) 0 0) []) := ⟨own1, by simp⟩
  have B1 : Hid (Below w.heap.size w w1) := (Below.refl _ w).grown hg1 (Nat.le_refl _) (fun k hk => by cases hk)
  clear own1 hg1 hi hz hsz hby hS hL0
  have S1 := Lib.hid (HS.out.below B1.out hbw)
  have BB := Lib.hid (B1.out.mono (show b ≤ w.heap.size by omega))
  have hmk2 : (Instr.makeSlice 34 (.int .i64 0) (.int .i64 0)).run Tryd.prog w = .ok (.slice (some ⟨w.heap.size, 0, none⟩) 0 0) w1 := hmk
  clear hmk
  go_enter Tryd.func40, Tryd.ntmps40
  go_wp2
  go_loopw [8, 22] (fun v8 v22 wr => ∃ (i : Nat), v22 = .int .i64 (i : Int) ∧ i ≤ m ∧ Hid (OwnU wr w.heap.size v8 []) ∧ Hid (InS wr b (restT 0 f i (m - i))) ∧ Hid (Below b w wr)) (fun _ v22 _ => m - (intOf v22).toNat)
  case atStart => exact ⟨0, rfl, Nat.zero_le _, O1, S1, BB⟩
  case round =>
    obtain ⟨i, rfl, hi, OI, SI, BI⟩ := hrel
    rename World => wo
    by_cases him : i < m
    · have him' : (i : Int) < (m : Int) := by omega
      have SI0 : Hid (InS wo b ([] ++ [10] ++ restT 0 f (i + 1) (m - i - 1))) := by
        show InS _ _ _
        have := SI.out
        rw [rest_step 0 m f i him, show rowT (f i) 0 = [] from rfl] at this
        exact this
      have hTl : (restT 0 f (i + 1) (m - i - 1)).length = m - i - 1 := by
        have : ∀ c i, (restT 0 f i c).length = c := by
          intro c
          induction c with
          | zero => intro i; rfl
          | succ c ih => intro i; rw [show restT 0 f i (c + 1) = [] ++ [10] ++ restT 0 f (i + 1) c from rfl]; simp [ih]
        exact this _ _
      have HN := Lib.hid (hNextAt 10 _ rfl b [] (restT 0 f (i + 1) (m - i - 1)) wo SI0.out (by simp) (by simp; omega))
      have SX0 := SI0.out.put (restT 0 f (i + 1) (m - i - 1))
      have S9 : Hid (InS (wo.setCell ⟨b, 0, none⟩ (.string ⟨(restT 0 f (i + 1) (m - i - 1)).toArray⟩)) b (restT 0 f (i + 1) (m - (i + 1)))) := SX0
      obtain ⟨QB, hQB⟩ : ∃ QB : ByteArray, (⟨(restT 0 f (i + 1) (m - i - 1)).toArray⟩ : ByteArray) = QB := ⟨_, rfl⟩
      rw [hQB] at HN S9
      have BX := Lib.hid (BI.out.setCell (p := ⟨b, 0, none⟩) (Nat.le_refl b) (.string QB))
      have OX := Lib.hid (OI.out.set (p := ⟨b, 0, none⟩) hbw (.string QB))
      obtain ⟨PS, eP, zP, lP, dP⟩ := str_ob []
      rw [eP] at HN
      have N : (PS.toList == []) = true := by rw [lP]; rfl
      clear SX0 hQB SI0 hTl eP zP lP dP SI
      go_wp2_with fail
      refine HN.out.mono ?_
      rintro e wx ⟨rfl, hw'⟩
      rw [hw'] at BX OX S9
      clear HN hw'
      go_wp2
      go_loopw [8, 38] (fun v8 v38 wr => v38 = .int .i64 0 ∧ wr = wx ∧ Hid (OwnU wx w.heap.size v8 [])) (fun _ _ _ => 0)
      case atStart => exact ⟨rfl, rfl, OX⟩
      case round =>
        obtain ⟨rfl, rfl, OY⟩ := hrel
        go_wp2
        go_roundw
        case rel => exact ⟨i + 1, by go_num, by omega, OY, S9, BX⟩
        case measure => simp [intOf] <;> omega
    · obtain rfl : i = m := by omega
      have S9 : Hid (InS wo b []) := by
        show InS _ _ _
        have := SI.out
        rw [show i - i = 0 by omega] at this
        exact this
      clear SI
      go_wp2
      go_ret2
      exact ⟨⟨_, rfl, OI.out, S9.out⟩, BI.out⟩
set_option maxRecDepth 100000 in
set_option maxHeartbeats 8000000 in
theorem hMatrixOk (m n : Nat) (f : Nat → Nat → Int) (S : ByteArray) (hSS : ⟨(rowsT m n f).toArray⟩ = S) (w : World) (hm : m ≤ 7) (hn : n ≤ 7) (f01 : ∀ i k, 0 ≤ f i k ∧ f i k < 18446744073709551616) (hT : Tabs w) :
    Calls Tryd.prog 19 #[.string S] w fun e w' => (∃ v : Value, e = .returned (.tuple #[.int .i64 m, .int .i64 n, v, .int .i64 0]) ∧ OwnU w' w.heap.size v (numL n f m)) ∧ Below w.heap.size w w' := by
  obtain ⟨b, hb⟩ : ∃ b, w.heap.size = b := ⟨_, rfl⟩
  have HTE : Hid (∀ W, Below b w W → Tabs W) := fun W h => hT.below (hb ▸ h)
  obtain ⟨Q2, hQ2⟩ : ∃ Q2, restT n f 0 m = Q2 := ⟨_, rfl⟩
  obtain ⟨Q1, hQ1⟩ : ∃ Q1, Lib.decDigits n ++ [10] ++ Q2 = Q1 := ⟨_, rfl⟩
  have hR : rowsT m n f = Lib.decDigits m ++ [32] ++ Q1 := by
    rw [← hQ1, ← hQ2, ← body_is]
    unfold rowsT headT
    simp only [List.append_assoc]
  have l1 : (Lib.decDigits m).length ≤ 20 := dec_len64 m (by omega)
  have l2 : (Lib.decDigits n).length ≤ 20 := dec_len64 n (by omega)
  have l3 : Q2.length ≤ 3000 := by
    rw [← hQ2]
    have h1 := restT_len n f (fun i k => (f01 i k).1) m 0
    have h2 : m * (42 * n + 1) ≤ 7 * (42 * 7 + 1) := Nat.mul_le_mul hm (by omega)
    omega
  have l4 : Q1.length ≤ 4000 := by rw [← hQ1]; simp; omega
  have mn := bodyT_min n f m
  rw [body_is, hQ2] at mn
  obtain ⟨mn1, mn2⟩ := mn
  rw [hR] at hSS
  have F01 := Lib.hid f01
  have S0 : Hid (InS (w.alloc (.cells #[.string S] 9)) b (Lib.decDigits m ++ [32] ++ Q1)) := by
    show InS _ _ _
    rw [← hSS, ← hb]
    exact ⟨by simp [go_sem], by simp [go_sem], by simp⟩
  have B0 : Hid (Below b w (w.alloc (.cells #[.string S] 9))) := (Below.refl _ _).alloc (by omega) _
  have N1 := Lib.hid (fun W (h : InS W b (Lib.decDigits m ++ [32] ++ Q1)) => hNextAt 32 _ rfl b (Lib.decDigits m) Q1 W h (dec_32 m) (by simp; omega))
  have N2 := Lib.hid (fun W (h : InS W b (Lib.decDigits n ++ [10] ++ Q2)) => hNextAt 10 _ rfl b (Lib.decDigits n) Q2 W h (dec_10 n) (by simp; omega))
  have FO := Lib.hid (fun W => hFitsOk m n Q2.length W (by omega) (by omega) (by omega) mn1 mn2)
  have HQ1 := Lib.hid hQ1
  have HQ2 := Lib.hid hQ2
  have Z1 := Lib.hid (fun W => hSizeOk m W (by omega))
  have Z2 := Lib.hid (fun W => hSizeOk n W (by omega))
  clear mn1 mn2 hSS hT f01 hQ1 hQ2 hR
  go_enter Tryd.func19, Tryd.ntmps19
  go_wp2_with fail
  generalize w.alloc (.cells #[.string S] 9) = wA at *
  refine (N1.out wA S0.out).mono ?_
  rintro e wx ⟨rfl, hwx⟩
  have BX := Lib.hid (B0.out.setCell (p := ⟨b, 0, none⟩) (Nat.le_refl b) (.string ⟨Q1.toArray⟩))
  have SX := Lib.hid (S0.out.put Q1)
  rw [hwx] at BX SX
  clear hwx
  go_wp2_with fail
  refine (Z1.out wx (HTE.out _ BX.out)).mono ?_
  rintro e wy ⟨rfl, hby⟩
  have hsb := SX.out.2.2
  have BY := Lib.hid (BX.out.trans (hby.mono (Nat.le_of_lt hsb)))
  have SY : Hid (InS wy b (Lib.decDigits n ++ [10] ++ Q2)) := by
    show InS _ _ _
    rw [HQ1.out]
    exact SX.out.below hby hsb
  clear hby hsb
  go_wp2_with fail
  refine (N2.out wy SY.out).mono ?_
  rintro e wu ⟨rfl, hwu⟩
  have BU := Lib.hid (BY.out.setCell (p := ⟨b, 0, none⟩) (Nat.le_refl b) (.string ⟨Q2.toArray⟩))
  have SU := Lib.hid (SY.out.put Q2)
  rw [hwu] at BU SU
  clear hwu
  go_wp2_with fail
  refine (Z2.out wu (HTE.out _ BU.out)).mono ?_
  rintro e wv ⟨rfl, hbv⟩
  have hsb := SU.out.2.2
  have BV := Lib.hid (BU.out.trans (hbv.mono (Nat.le_of_lt hsb)))
  have SV := Lib.hid (SU.out.below hbv hsb)
  clear hbv hsb
  obtain ⟨sR, eR, zR, lR, dR⟩ := str_ob Q2
  have hcR : wv.cell? ⟨b, 0, none⟩ = some (.string sR) := by rw [← eR]; exact SV.out.1
  have hsz : b ≤ wv.heap.size := Nat.le_of_lt SV.out.2.2
  have RR : Hid (Calls Tryd.prog 40 #[.int .i64 m, .int .i64 n, .func (.func 38) #[] #[.pointer (some ⟨b, 0, none⟩)]] wv fun e w' => RowsK b wv.heap.size (numL n f m) e w' ∧ Below b wv w') := by
    show Calls _ _ _ _ _
    have := SV.out
    rw [← HQ2.out] at this
    rcases Nat.eq_zero_or_pos n with h | h
    · subst h; exact hReadOk0 m b f wv hm this
    · exact hReadOk m n b f wv hm hn h F01.out this (fun W hW => HTE.out W (BV.out.trans hW))
  clear eR dR lR
  go_wp2_with fail
  refine (FO.out _).mono ?_
  rintro e w' ⟨rfl, rfl⟩
  clear hcR
  go_wp2_with fail
  refine RR.out.mono ?_
  rintro e w3 ⟨⟨v, rfl, own, hin⟩, hb3⟩
  have B3 := Lib.hid (BV.out.trans hb3)
  have OW := Lib.hid (own.base hsz)
  obtain ⟨sQ, eQ_, zQ, lQ, dQ⟩ := str_ob []
  have hc3 : w3.cell? ⟨b, 0, none⟩ = some (.string sQ) := by rw [← eQ_]; exact hin.1
  have N : (sQ.toList == []) = true := by rw [lQ]; rfl
  clear hb3 own hin eQ_ zQ lQ dQ
  go_wp2
  try simp only [Exit.inBlock, Exit.then]
  refine bodyPost_ret (results_tmp4 rfl _ _ _) rfl ?_
  exact ⟨⟨v, rfl, hb ▸ OW.out⟩, hb ▸ B3.out⟩
end Go.Proofs.YtaamonmkfgonmaaDoor
