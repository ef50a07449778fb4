/-
  The law HexRows returns true at every input, and leaves its arguments as they were. Conditions: none but those of the card (variables of Go's library are as the program's text lays them).
-/
import Derived.Test.YtaamonmkfgonmaaDoorRows
import Derived.Test.YtaamonmkfgonmaaDoorCards
import Derived.Test.YtaamonmkfgonmaaDoorTie
import Derived.Test.YtaamonmkfgonmaaDoorHexS
import Derived.Test.YtaamonmkfgonmaaDoorHexL
import Derived.Test.YtaamonmkfgonmaaDoorHexU
import Derived.Test.YtaamonmkfgonmaaDoorBst
import Derived.WalkKit
import Derived.ProofKit
import Derived.OpenShut
import Derived.Lay
import Derived.LaidOnce
import Derived.SevenTiedAt
import Derived.Lib.SmallJoins
import Derived.Stop.LaidErr
import Derived.Below
import Derived.ChangeMaps5
namespace Go.Proofs.YtaamonmkfgonmaaDoor.hexRows
open Go.ChangeShapes Go.WideShapes Go.ChangeAt Go.RowKit
open Go.ChangeMaps (open_string shut_string)
set_option linter.unusedVariables false
set_option linter.unusedSimpArgs false

theorem and_7_i (n : Int) : bits .and .i64 n 7 = n % 8 := by
  have h127 : (BitVec.ofInt 64 7).toNat = 2 ^ 3 - 1 := by decide
  have key : (BitVec.ofInt 64 n &&& BitVec.ofInt 64 7).toNat = (n % ((2 ^ 64 : Nat) : Int)).toNat % 2 ^ 3 := by
    rw [BitVec.toNat_and, BitVec.toNat_ofInt, h127, Nat.and_two_pow_sub_one_eq_mod]
  show IntKind.i64.wrap ((BitVec.ofInt 64 n &&& BitVec.ofInt 64 7).toNat : Nat) = n % 8
  rw [key, IntKind.wrap_i64]
  omega
theorem dig_is (m n : Nat) (f : Nat → Nat → Int) (hm : m ≤ 7) (hn : n ≤ 7) : (⟨#[hxB m]⟩ : ByteArray) ++ ⟨#[32]⟩ ++ ⟨#[hxB n]⟩ ++ ⟨#[10]⟩ = ⟨(headT m n ++ bodyT n f 0).toArray⟩ := by
  rw [show bodyT n f 0 = [] from rfl, List.append_nil]
  unfold headT
  rw [dec_small' m (by omega), dec_small' n (by omega)]
  exact mk4 [hxB m] [32] [hxB n] [10]
theorem below_drew (w : World) (k : Nat) : Below w.heap.size w (w.drewN k) := ⟨rfl, rfl, rfl, Nat.le_refl _, fun _ _ => rfl⟩
theorem len_in (m n : Nat) (f : Nat → Nat → Int) (h : ∀ i k, 0 ≤ f i k) (i k : Nat) (hm : m ≤ 7) (hn : n ≤ 7) (hi : i ≤ 7) (hk : k ≤ 7) : (headT m n ++ bodyT n f i ++ rowT (f i) k).length ≤ 3000 := by
  have h1 := headT_len m n (by omega) (by omega)
  have h2 := bodyT_len n f h i
  have h3 := rowT_len (f i) (h i) k
  have h4 : i * (42 * n + 1) ≤ 7 * (42 * 7 + 1) := Nat.mul_le_mul hi (by omega)
  simp only [List.length_append]
  omega
theorem sz_of (l : List UInt8) (S : ByteArray) (h : ⟨l.toArray⟩ = S) (hl : l.length ≤ 3000) : S.size ≤ 3000 := by rw [← h, size_of_list]; exact hl
theorem kind_same (b : Int) (w : World) (h0 : 0 ≤ b) (h1 : b < 18446744073709551616) : Calls Tryd.prog 12 #[.int .u64 b] w fun e w' => e = .returned (.int .i64 (wKind b)) ∧ w = w' := (kind_any b w h0 h1).mono fun e w' ⟨a, b⟩ => ⟨a, b.symm⟩
theorem step_0 (H : List UInt8) (g : Nat → Int) (S T : ByteArray) (hS : ⟨(H ++ rowT g 0).toArray⟩ = S) (hT : ⟨(txt (g 0)).toArray⟩ = T) : (⟨(H ++ rowT g (0 + 1)).toArray⟩ : ByteArray) = S ++ T := by
  rw [← hS, ← hT, ByteArray.mk_append_mk, show rowT g (0 + 1) = txt (g 0) by simp [rowT]]
  simp [rowT]
theorem step_k (H : List UInt8) (g : Nat → Int) (k : Nat) (hk : k ≠ 0) (S T : ByteArray) (hS : ⟨(H ++ rowT g k).toArray⟩ = S) (hT : ⟨(txt (g k)).toArray⟩ = T) : (⟨(H ++ rowT g (k + 1)).toArray⟩ : ByteArray) = S ++ ⟨#[32]⟩ ++ T := by
  rw [← hS, ← hT, show (⟨#[32]⟩ : ByteArray) = ⟨([32] : List UInt8).toArray⟩ from rfl, ByteArray.mk_append_mk, ByteArray.mk_append_mk, show rowT g (k + 1) = rowT g k ++ (if k = 0 then [] else [32]) ++ txt (g k) from rfl, if_neg hk]
  simp only [List.append_assoc]
theorem step_row (H : List UInt8) (n : Nat) (f : Nat → Nat → Int) (i : Nat) (S : ByteArray) (hS : ⟨(H ++ bodyT n f i ++ rowT (f i) n).toArray⟩ = S) : (⟨(H ++ bodyT n f (i + 1)).toArray⟩ : ByteArray) = S ++ ⟨#[10]⟩ := by
  rw [← hS, show (⟨#[10]⟩ : ByteArray) = ⟨([10] : List UInt8).toArray⟩ from rfl, ByteArray.mk_append_mk, show bodyT n f (i + 1) = bodyT n f i ++ rowT (f i) n ++ [10] from rfl]
  simp only [List.append_assoc]
set_option maxRecDepth 100000 in
set_option maxHeartbeats 8000000 in
theorem rows_walk (a0 a1 : Int) (a2 : Option Addr) (len cap : Nat) (Z : Nat → Int) (w : World) (hr : URow w a2 len cap Z) (hT : Tabs w) :
    Calls Tryd.prog 6 #[.int .i64 a0, .int .i64 a1, .slice a2 len cap] w fun e w' => e = .returned (.bool true) ∧ Below w.heap.size w w' := by
  obtain ⟨m, hm0, hm⟩ : ∃ m : Nat, bits .and .i64 a0 7 = (m : Int) ∧ m ≤ 7 := ⟨(a0 % 8).toNat, by rw [and_7_i]; omega, by omega⟩
  obtain ⟨n, hn0, hn⟩ : ∃ n : Nat, bits .and .i64 a1 7 = (n : Int) ∧ n ≤ 7 := ⟨(a1 % 8).toNat, by rw [and_7_i]; omega, by omega⟩
  have F0 := atR_rng len Z hr.2.2.1 n
  have HAT0 := fun (pb qb i k : Nat) (W : World) => hAt1 pb qb n i k a2 len cap Z W
  obtain ⟨f, hf⟩ : ∃ f, atR len Z n = f := ⟨_, rfl⟩
  rw [hf] at F0 HAT0
  have HAT := Lib.hid HAT0
  have F01 := Lib.hid F0
  clear HAT0 F0 hf
  have HR := Lib.hid hr
  have HT := Lib.hid hT
  clear hr hT
  obtain ⟨b, hb⟩ : ∃ b, w.heap.size = b := ⟨_, rfl⟩
  obtain ⟨A, eA⟩ : ∃ A : World, (w.alloc (.cells #[.int .i64 a1] 3)).alloc (.cells #[.slice a2 len cap] 34) = A := ⟨_, rfl⟩
  have EA := Lib.hid eA
  have BA : Hid (Below w.heap.size w A) := by
    show Below _ _ _
    rw [← eA]
    exact ((Below.refl _ w).alloc (Nat.le_refl _) _).alloc (by simp) _
  have szA : A.heap.size = b + 2 := by rw [← eA, ← hb]; simp
  have cA1 : Hid (A.cell? ⟨b, 0, none⟩ = some (.int .i64 a1)) := by show _ = _; rw [← eA, ← hb]; simp [go_sem]
  have cA2 : Hid (A.cell? ⟨b + 1, 0, none⟩ = some (.slice a2 len cap)) := by show _ = _; rw [← eA, ← hb]; simp [go_sem]
  have fA1 : Hid (A.frozen? ⟨b, 0, none⟩ = false) := by show _ = _; rw [← eA, ← hb]; simp [go_sem]
  have HTA := Lib.hid (HT.out.below BA.out)
  clear eA
  go_enter Tryd.func6, Tryd.ntmps6
  go_wp2_with fail
  rw [EA.out]
  refine (hHead A HTA.out).mono ?_
  rintro e W0 ⟨rfl, hb0⟩
  have c01 : W0.cell? ⟨b, 0, none⟩ = some (.int .i64 a1) := (hb0.cell (p := ⟨b, 0, none⟩) (show b < A.heap.size by omega)).trans cA1.out
  have c02 : Hid (W0.cell? ⟨b + 1, 0, none⟩ = some (.slice a2 len cap)) := (hb0.cell (p := ⟨b + 1, 0, none⟩) (show b + 1 < A.heap.size by omega)).trans cA2.out
  have f01 : W0.frozen? ⟨b, 0, none⟩ = false := (hb0.frozen (p := ⟨b, 0, none⟩) (show b < A.heap.size by omega)).trans fA1.out
  have B0 := Lib.hid (bstep BA.out hb0)
  have s0 : b + 2 ≤ W0.heap.size := by have := hb0.size; omega
  obtain ⟨W1, eW1⟩ : ∃ W1 : World, W0.setCell ⟨b, 0, none⟩ (.int .i64 n) = W1 := ⟨_, rfl⟩
  have EW1 := Lib.hid eW1
  have d1 : W1.cell? ⟨b, 0, none⟩ = some (.int .i64 n) := by rw [← eW1]; simp [go_sem, c01]
  have d2 : Hid (W1.cell? ⟨b + 1, 0, none⟩ = some (.slice a2 len cap)) := by
    show _ = _
    rw [← eW1]
    exact (World.cell?_of_block (a := ⟨b + 1, 0, none⟩) (Below.heap_setCell W0 ⟨b, 0, none⟩ (.int .i64 n) (b + 1) (show b + 1 ≠ b by omega))).trans c02.out
  have B1 : Hid (Below b w W1) := by
    show Below _ _ _
    rw [← eW1]
    exact (hb ▸ B0.out : Below b w W0).setCell (p := ⟨b, 0, none⟩) (Nat.le_refl b) _
  have s1 : b + 2 ≤ W1.heap.size := by rw [← eW1]; simp; omega
  have HT1 : Hid (Tabs W1) := HT.out.below (by rw [hb]; exact B1.out)
  have UR1 : Hid (URow W1 a2 len cap Z) := HR.out.below (by rw [hb]; exact B1.out)
  clear hb0 EA BA szA cA1 cA2 fA1 HTA eW1 HR HT
  go_wp2_with fail
  rw [EW1.out]
  clear EW1 c01 c02 f01 B0 s0
  have HA : Hid (∀ (i k : Nat) (W : World), i ≤ 7 → k ≤ 7 → Below W1.heap.size W1 W → Calls Tryd.prog 16 #[.int .i64 i, .int .i64 k, .pointer (some ⟨b, 0, none⟩), .pointer (some ⟨b + 1, 0, none⟩)] W fun e w' => e = .returned (.int .u64 (f i k)) ∧ W = w') := by
    intro i k W hi hk hW
    exact HAT.out b (b + 1) i k W ((hW.cell (p := ⟨b, 0, none⟩) (show b < W1.heap.size by omega)).trans d1) ((hW.cell (p := ⟨b + 1, 0, none⟩) (show b + 1 < W1.heap.size by omega)).trans d2.out) (UR1.out.below hW) hi hn hk
  clear HAT d2 UR1
  obtain ⟨SM, eSM⟩ : ∃ S : ByteArray, ⟨#[hxB m]⟩ = S := ⟨_, rfl⟩
  obtain ⟨SN, eSN⟩ : ∃ S : ByteArray, ⟨#[hxB n]⟩ = S := ⟨_, rfl⟩
  have zSM : SM.size = 1 := by rw [← eSM]; rfl
  have zSN : SN.size = 1 := by rw [← eSN]; rfl
  have D1 := Lib.hid (fun W => lDigQ m W (by omega))
  have D2 := Lib.hid (fun W => lDigQ n W (by omega))
  rw [eSM] at D1
  rw [eSN] at D2
  have XW : Hid (⟨(headT m n ++ bodyT n f 0).toArray⟩ = SM ++ ⟨#[32]⟩ ++ SN ++ ⟨#[10]⟩) := by show _ = _; rw [← eSM, ← eSN, dig_is m n f hm hn]
  clear eSM eSN
  have wm : IntKind.u64.wrap (m : Int) = (m : Int) := by rw [IntKind.wrap_u64]; omega
  have wn : IntKind.u64.wrap (n : Int) = (n : Int) := by rw [IntKind.wrap_u64]; omega
  refine wp_region_quiet_lit (by kernel_rfl) (by kernel_rfl) ?_
  quiet_step (fail)
  quiet_step (fail)
  quiet_step (exact Calls.quiet_of (D1.out _))
  quiet_step (fail)
  quiet_step (fail)
  quiet_step (fail)
  quiet_step (exact Calls.quiet_of (D2.out _))
  quiet_step (fail)
  quiet_step (fail)
  quiet_step (fail)
  refine wpQuiet_nil ?_
  intro _ hw'
  obtain ⟨nq, hw''⟩ := hw'
  subst hw''
  clear wm wn
  obtain ⟨S0, eS0⟩ : ∃ S0 : ByteArray, SM ++ ⟨#[32]⟩ ++ SN ++ ⟨#[10]⟩ = S0 := ⟨_, rfl⟩
  rw [eS0] at XW
  rw [eS0]
  clear D1 D2 eS0 zSM zSN
  obtain ⟨WD, eWD⟩ : ∃ WD : World, W1.drewN nq = WD := ⟨_, rfl⟩
  rw [eWD]
  have BD : Hid (Below W1.heap.size W1 WD) := by show Below _ _ _; rw [← eWD]; exact below_drew W1 nq
  clear eWD
  have wd : W1.heap.size ≤ WD.heap.size := BD.out.size
  have zS0 : S0.size ≤ 3000 := by have := len_in m n f (fun i k => (F01.out i k).1) 0 0 hm hn (by omega) (by omega); exact sz_of _ S0 XW.out (by simpa [rowT] using this)
  go_wp2
  go_loopw [8, 9, 10] (fun v8 v9 v10 wr => ∃ i : Nat, v10 = .int .i64 (i : Int) ∧ i ≤ m ∧ (∃ S : ByteArray, v8 = .string S ∧ S.size ≤ 3000 ∧ Hid (⟨(headT m n ++ bodyT n f i).toArray⟩ = S)) ∧ Hid (OwnU wr W1.heap.size v9 (numL n f i)) ∧ Hid (Below W1.heap.size W1 wr)) (fun _ _ v10 _ => m - (intOf v10).toNat)
  case atStart => exact ⟨0, rfl, Nat.zero_le _, ⟨S0, rfl, zS0, XW⟩, OwnU.new WD W1.heap.size wd, BD.out.alloc wd _⟩
  case round =>
    obtain ⟨i, rfl, hi, ⟨S, rfl, zS, ES⟩, OI, BI⟩ := hrel
    rename World => wo
    clear XW BD wd zS0
    by_cases him : i < m
    · have him' : (i : Int) < (m : Int) := by omega
      have ES0 : Hid (⟨(headT m n ++ bodyT n f i ++ rowT (f i) 0).toArray⟩ = S) := by show _ = _; rw [show rowT (f i) 0 = [] from rfl, List.append_nil]; exact ES.out
      go_wp2
      go_loopw [8, 9, 11] (fun v8 v9 v11 wr => ∃ k : Nat, v11 = .int .i64 (k : Int) ∧ k ≤ n ∧ (∃ S : ByteArray, v8 = .string S ∧ S.size ≤ 3000 ∧ Hid (⟨(headT m n ++ bodyT n f i ++ rowT (f i) k).toArray⟩ = S)) ∧ Hid (OwnU wr W1.heap.size v9 (numL n f i ++ rowL (f i) k)) ∧ Hid (Below W1.heap.size W1 wr)) (fun _ _ v11 _ => n - (intOf v11).toNat)
      case atStart => exact ⟨0, rfl, Nat.zero_le _, ⟨S, rfl, zS, ES0⟩, by rw [show rowL (f i) 0 = [] from rfl, List.append_nil]; exact OI, BI⟩
      case round =>
        clear ES ES0 zS OI BI
        obtain ⟨k, rfl, hk, ⟨S, rfl, zS, ES⟩, OK, BK⟩ := hrel
        rename World => wk
        have dk : wk.cell? ⟨b, 0, none⟩ = some (.int .i64 n) := (BK.out.cell (p := ⟨b, 0, none⟩) (show b < W1.heap.size by omega)).trans d1
        by_cases hkn : k < n
        · have hkn' : (k : Int) < (n : Int) := by omega
          have LT0 := fun W => lText (qz (f i k)) W (qz_rng _ (F01.out i k).1 (F01.out i k).2).1 (qz_rng _ (F01.out i k).1 (F01.out i k).2).2
          have KD0 := fun W => kind_same (f i k) W (F01.out i k).1 (F01.out i k).2
          obtain ⟨T, eT, zT, lT, dT⟩ := str_ob (txt (f i k))
          have zT41 : T.size ≤ 41 := by rw [zT]; exact txt_len _ (F01.out i k).1
          have LI := Lib.hid (len_in m n f (fun i k => (F01.out i k).1) i (k + 1) hm hn (by omega) (by omega))
          have HAK := Lib.hid (HA.out i k wk (by omega) (by omega) BK.out)
          have hin : i * n ≤ 49 := Nat.mul_le_mul (show i ≤ 7 by omega) hn
          simp only [txt_qz] at LT0
          rw [eT] at LT0
          have ET := Lib.hid eT
          clear zT lT dT eT
          obtain ⟨q, hq⟩ : ∃ q, qz (f i k) = q := ⟨_, rfl⟩
          have HQ := Lib.hid hq
          have hq2 : q = if wKind (f i k) = 5 then 9221120237041090560 else f i k := by rw [← hq]; rfl
          rw [hq] at LT0
          obtain ⟨x, hx⟩ : ∃ x, f i k = x := ⟨_, rfl⟩
          rw [hx] at KD0 HAK hq2
          clear hx hq
          obtain ⟨kd, hkd⟩ : ∃ kd, wKind x = kd := ⟨_, rfl⟩
          rw [hkd] at KD0 hq2
          clear hkd
          have LT := Lib.hid LT0
          have KD := Lib.hid KD0
          clear LT0 KD0
          have hk7 : k ≤ 7 := by omega
          by_cases hk0 : k = 0
          · subst hk0
            by_cases h5 : kd = 5
            · subst h5
              rw [if_pos rfl] at hq2
              subst hq2
              have HH := HAK
              go_wp2_with fail
              refine HAK.out.mono ?_
              rintro e w' ⟨rfl, rfl⟩
              go_wp2_with fail
              refine (KD.out _).mono ?_
              rintro e w' ⟨rfl, rfl⟩
              go_wp2_with fail
              refine (LT.out _).mono ?_
              rintro e W2 ⟨rfl, hb2⟩
              have BZ := Lib.hid (bstep BK.out hb2)
              have OZ := Lib.hid (OK.out.below hb2)
              have wz : W1.heap.size ≤ W2.heap.size := BZ.out.size
              clear hb2
              go_wp2_with (at_builtin; refine wpListU_app rfl _ _ rfl W1.heap.size _ (numL n f i ++ rowL (f i) 0) rfl (OZ.out.alloc _) _ [9221120237041090560] rfl (SeesU.one W2 9221120237041090560) (by rw [List.length_append, numL_len, rowL_len]; simp; omega) (by simp; omega) ?_)
              intro v' W3 own3 bel3 _ _
              have O3 : Hid (OwnU W3 W1.heap.size v' (numL n f i ++ rowL (f i) (0 + 1))) := by
                show OwnU _ _ _ _
                rw [show rowL (f i) (0 + 1) = rowL (f i) 0 ++ [qz (f i 0)] from rfl, HQ.out]
                exact own3
              have B3 := Lib.hid ((BZ.out.alloc wz _).trans bel3)
              have E3 := Lib.hid (step_0 (headT m n ++ bodyT n f i) (f i) S T ES.out ET.out)
              have z3 := sz_of _ _ E3.out LI.out
              clear own3 bel3
              go_wp2
              go_roundw
              case rel => exact ⟨0 + 1, by go_num, by omega, ⟨_, rfl, z3, E3⟩, O3, B3⟩
              case measure => simp [intOf] <;> omega
            · rw [if_neg h5] at hq2
              subst hq2
              have h5' : (kd == 5) = false := by rw [beq_eq_false_iff_ne]; exact h5
              have HH := HAK
              go_wp2_with fail
              refine HAK.out.mono ?_
              rintro e w' ⟨rfl, rfl⟩
              go_wp2_with fail
              refine (KD.out _).mono ?_
              rintro e w' ⟨rfl, rfl⟩
              go_wp2_with fail
              refine (LT.out _).mono ?_
              rintro e W2 ⟨rfl, hb2⟩
              have BZ := Lib.hid (bstep BK.out hb2)
              have OZ := Lib.hid (OK.out.below hb2)
              have wz : W1.heap.size ≤ W2.heap.size := BZ.out.size
              clear hb2
              go_wp2_with (at_builtin; refine wpListU_app rfl _ _ rfl W1.heap.size _ (numL n f i ++ rowL (f i) 0) rfl (OZ.out.alloc _) _ [q] rfl (SeesU.one W2 q) (by rw [List.length_append, numL_len, rowL_len]; simp; omega) (by simp; omega) ?_)
              intro v' W3 own3 bel3 _ _
              have O3 : Hid (OwnU W3 W1.heap.size v' (numL n f i ++ rowL (f i) (0 + 1))) := by
                show OwnU _ _ _ _
                rw [show rowL (f i) (0 + 1) = rowL (f i) 0 ++ [qz (f i 0)] from rfl, HQ.out]
                exact own3
              have B3 := Lib.hid ((BZ.out.alloc wz _).trans bel3)
              have E3 := Lib.hid (step_0 (headT m n ++ bodyT n f i) (f i) S T ES.out ET.out)
              have z3 := sz_of _ _ E3.out LI.out
              clear own3 bel3
              go_wp2
              go_roundw
              case rel => exact ⟨0 + 1, by go_num, by omega, ⟨_, rfl, z3, E3⟩, O3, B3⟩
              case measure => simp [intOf] <;> omega
          · have hk0' : (0 : Int) < (k : Int) := by omega
            by_cases h5 : kd = 5
            · subst h5
              rw [if_pos rfl] at hq2
              subst hq2
              have HH := HAK
              go_wp2_with fail
              refine HAK.out.mono ?_
              rintro e w' ⟨rfl, rfl⟩
              go_wp2_with fail
              refine (KD.out _).mono ?_
              rintro e w' ⟨rfl, rfl⟩
              go_wp2_with fail
              refine (LT.out _).mono ?_
              rintro e W2 ⟨rfl, hb2⟩
              have BZ := Lib.hid (bstep BK.out hb2)
              have OZ := Lib.hid (OK.out.below hb2)
              have wz : W1.heap.size ≤ W2.heap.size := BZ.out.size
              clear hb2
              go_wp2_with (at_builtin; refine wpListU_app rfl _ _ rfl W1.heap.size _ (numL n f i ++ rowL (f i) k) rfl (OZ.out.alloc _) _ [9221120237041090560] rfl (SeesU.one W2 9221120237041090560) (by rw [List.length_append, numL_len, rowL_len]; simp; omega) (by simp; omega) ?_)
              intro v' W3 own3 bel3 _ _
              have O3 : Hid (OwnU W3 W1.heap.size v' (numL n f i ++ rowL (f i) (k + 1))) := by
                show OwnU _ _ _ _
                rw [show rowL (f i) (k + 1) = rowL (f i) k ++ [qz (f i k)] from rfl, HQ.out]
                exact own3
              have B3 := Lib.hid ((BZ.out.alloc wz _).trans bel3)
              have E3 := Lib.hid (step_k (headT m n ++ bodyT n f i) (f i) k hk0 S T ES.out ET.out)
              have z3 := sz_of _ _ E3.out LI.out
              clear own3 bel3
              go_wp2
              go_roundw
              case rel => exact ⟨k + 1, by go_num, by omega, ⟨_, rfl, z3, E3⟩, O3, B3⟩
              case measure => simp [intOf] <;> omega
            · rw [if_neg h5] at hq2
              subst hq2
              have h5' : (kd == 5) = false := by rw [beq_eq_false_iff_ne]; exact h5
              have HH := HAK
              go_wp2_with fail
              refine HAK.out.mono ?_
              rintro e w' ⟨rfl, rfl⟩
              go_wp2_with fail
              refine (KD.out _).mono ?_
              rintro e w' ⟨rfl, rfl⟩
              go_wp2_with fail
              refine (LT.out _).mono ?_
              rintro e W2 ⟨rfl, hb2⟩
              have BZ := Lib.hid (bstep BK.out hb2)
              have OZ := Lib.hid (OK.out.below hb2)
              have wz : W1.heap.size ≤ W2.heap.size := BZ.out.size
              clear hb2
              go_wp2_with (at_builtin; refine wpListU_app rfl _ _ rfl W1.heap.size _ (numL n f i ++ rowL (f i) k) rfl (OZ.out.alloc _) _ [q] rfl (SeesU.one W2 q) (by rw [List.length_append, numL_len, rowL_len]; simp; omega) (by simp; omega) ?_)
              intro v' W3 own3 bel3 _ _
              have O3 : Hid (OwnU W3 W1.heap.size v' (numL n f i ++ rowL (f i) (k + 1))) := by
                show OwnU _ _ _ _
                rw [show rowL (f i) (k + 1) = rowL (f i) k ++ [qz (f i k)] from rfl, HQ.out]
                exact own3
              have B3 := Lib.hid ((BZ.out.alloc wz _).trans bel3)
              have E3 := Lib.hid (step_k (headT m n ++ bodyT n f i) (f i) k hk0 S T ES.out ET.out)
              have z3 := sz_of _ _ E3.out LI.out
              clear own3 bel3
              go_wp2
              go_roundw
              case rel => exact ⟨k + 1, by go_num, by omega, ⟨_, rfl, z3, E3⟩, O3, B3⟩
              case measure => simp [intOf] <;> omega
        · obtain rfl : k = n := by omega
          have E4 := Lib.hid (step_row (headT m k) k f i S ES.out)
          have z4 : (S ++ ⟨#[10]⟩).size ≤ 3000 := by
            have := len_in m k f (fun i k => (F01.out i k).1) (i + 1) 0 hm hn (by omega) (by omega)
            exact sz_of _ _ E4.out (by simpa [rowT] using this)
          go_wp2
          go_roundw
          case rel => exact ⟨i + 1, by go_num, by omega, ⟨_, rfl, z4, E4⟩, OK, BK⟩
          case measure => simp [intOf] <;> omega
    · obtain rfl : i = m := by omega
      have dk : wo.cell? ⟨b, 0, none⟩ = some (.int .i64 n) := (BI.out.cell (p := ⟨b, 0, none⟩) (show b < W1.heap.size by omega)).trans d1
      have hR := hRows1 i n f ⟨b, 0, none⟩ ⟨b + 1, 0, none⟩ wo (by omega) (by omega) (fun i k => (F01.out i k).1) (fun i k => (F01.out i k).2) (HT1.out.below BI.out) (fun i' k W hi' hk hW => HA.out i' k W (by omega) (by omega) (bstep BI.out hW))
      rw [show rowsT i n f = headT i n ++ bodyT n f i from rfl, ES.out] at hR
      have HRW := Lib.hid hR
      clear hR
      go_wp2_with fail
      refine HRW.out.mono ?_
      rintro e R1 ⟨rfl, hb1⟩
      have BR1 := Lib.hid (bstep BI.out hb1)
      have OR1 := Lib.hid (OI.out.below hb1)
      clear hb1 dk HRW OI BI
      go_wp2_with fail
      refine (hMatrixOk i n f S ES.out R1 hm hn F01.out (HT1.out.below BR1.out)).mono ?_
      rintro e R2 ⟨⟨v, rfl, own2⟩, hb2⟩
      have BR2 := Lib.hid (bstep BR1.out hb2)
      obtain ⟨g, c, hv, hob, hg0, hg1, hc0, hc1, hcl⟩ := own2.at
      obtain ⟨g', c', hv', hob', hg0', hg1', hc0', hc1', hcl'⟩ := (OR1.out.below hb2).at
      have dk : R2.cell? ⟨b, 0, none⟩ = some (.int .i64 n) := (BR2.out.cell (p := ⟨b, 0, none⟩) (show b < W1.heap.size by omega)).trans d1
      obtain ⟨L, hL⟩ : ∃ L, numL n f i = L := ⟨_, rfl⟩
      have hLl : L.length ≤ 49 := by rw [← hL, numL_len]; exact Nat.mul_le_mul hm hn
      rw [hL] at hv hv' hc0 hc0' hcl hcl'
      subst hv
      subst hv'
      have CL := Lib.hid hcl
      have CL' := Lib.hid hcl'
      have N : (S.toList == S.toList) = true := beq_self_eq_true _
      unfold maxLen at hc1 hc1'
      clear hcl hcl' own2 OR1 hb2 BR1 HT1 ES hob hob' hg0 hg0' hL
      go_wp2
      clear N dk
      go_loopw [104] (fun v wr => ∃ j : Nat, v = .int .i64 (j : Int) ∧ j ≤ L.length ∧ Hid (Below R2.heap.size R2 wr)) (fun v _ => L.length - (intOf v).toNat)
      case atStart => exact ⟨0, rfl, Nat.zero_le _, Below.refl _ _⟩
      case round =>
        obtain ⟨j, rfl, hj, BJ⟩ := hrel
        rename World => wj
        by_cases hjl : j < L.length
        · have hjl' : (j : Int) < (L.length : Int) := by omega
          have k1 := (BJ.out.cell (p := ⟨g, j, none⟩) hg1).trans (CL.out j hjl)
          have k2 := (BJ.out.cell (p := ⟨g', j, none⟩) hg1').trans (CL'.out j hjl)
          obtain ⟨y, hy⟩ : ∃ y, L[j]?.getD 0 = y := ⟨_, rfl⟩
          rw [hy] at k1 k2
          clear hy
          go_wp2
          go_quiet (fail)
          go_wp2
          go_roundw
          case rel => exact ⟨j + 1, by go_num, by omega, bstep BJ.out (below_drew _ _)⟩
          case measure => simp [intOf] <;> omega
        · obtain rfl : j = L.length := by omega
          go_wp2
          go_ret
          exact ⟨rfl, by rw [hb]; exact B1.out.trans ((BR2.out.mono (by omega)).trans (BJ.out.mono (by have := BR2.out.size; omega)))⟩
theorem walk (a0 a1 : Int) (a2 : Option Addr) (len cap : Nat) (Z : Nat → Int) (w : World) (g0 : -9223372036854775808 ≤ a0) (g1 : a0 ≤ 9223372036854775807) (h0 : -9223372036854775808 ≤ a1) (h1 : a1 ≤ 9223372036854775807) (hr : URow w a2 len cap Z) (hT : Tabs w) :
    Calls Tryd.prog 6 #[.int .i64 a0, .int .i64 a1, .slice a2 len cap] w fun e w' => e = .returned (.bool true) ∧ Below w.heap.size w w' := rows_walk a0 a1 a2 len cap Z w hr hT
theorem laidOut : laidOutB Tryd.prog = true := by kernel_rfl
/-- A slice of numbers that came in: nil, or a row of cap cells. -/
def IsRow (k : IntKind) (w : World) (a : Option Addr) (len cap : Nat) (zs : List Int) : Prop :=
  (a = none ∧ len = 0 ∧ cap = 0 ∧ zs = []) ∨
  ∃ x, a = some x ∧ len ≤ cap ∧ cap ≤ maxLen ∧ zs.length = cap ∧ (∀ i, i < zs.length → w.cell? (x.add i) = some (.int k (zs.getD i 0))) ∧ ∀ n ∈ zs, (Lit.int k n).wf = true
theorem add_row (b o : Nat) (i : Nat) : (⟨b, o, none⟩ : Addr).add i = ⟨b, o + i, none⟩ := by simp [Addr.add]
theorem row_of (w : World) (a : Option Addr) (len cap : Nat) (zs : List Int) (h : IsRow .u64 w a len cap zs) : URow w a len cap (fun i => zs.getD i 0) := by
  rcases h with ⟨rfl, rfl, rfl, rfl⟩ | ⟨x, rfl, h1, h2, h3, h4, h5⟩
  · exact ⟨Nat.le_refl _, Nat.zero_le _, fun i => by simp, fun h => absurd h (Nat.lt_irrefl 0)⟩
  · refine ⟨h1, h2, fun i => ?_, fun hp => ?_⟩
    · show 0 ≤ zs.getD i 0 ∧ zs.getD i 0 < 18446744073709551616
      rcases Nat.lt_or_ge i zs.length with g | g
      · have hm : zs.getD i 0 ∈ zs := by
          rw [List.getD_eq_getElem?_getD, List.getElem?_eq_getElem g]
          exact List.getElem_mem g
        obtain ⟨q1, q2⟩ := bounds_u64 (h5 _ hm)
        exact ⟨q1, by omega⟩
      · rw [List.getD_eq_getElem?_getD, List.getElem?_eq_none g]
        simp
    · obtain ⟨b, o, s⟩ := x
      have hs : s = none := by simpa [Addr.add] using World.cell?_spot (h4 0 (by omega))
      subst hs
      have hb : b < w.heap.size := by
        have := World.block_lt_of_cell? _ _ (h4 0 (by omega))
        simpa [Addr.add] using this
      refine ⟨b, o, rfl, hb, fun i hi => ?_⟩
      have := h4 i (by omega)
      rw [add_row] at this
      exact this
theorem own : ownKnob Tryd.prog.godebug = none := by kernel_rfl
theorem tabs_of_laid {W : World} (h : laidMet Tryd.prog Rows.hexRowsRow.laid W) : Tabs W := by
  have h2 : laidMet Tryd.prog [("math/bits.deBruijn64tab", Rows.laid_math_bits_deBruijn64tab), ("internal/strconv.uint64pow10", Rows.laid_internal_strconv_uint64pow10), ("strconv.ErrRange", Rows.laid_strconv_ErrRange), ("strconv.ErrSyntax", Rows.laid_strconv_ErrSyntax)] W := h.tail
  have h3 : laidMet Tryd.prog [("internal/strconv.uint64pow10", Rows.laid_internal_strconv_uint64pow10), ("strconv.ErrRange", Rows.laid_strconv_ErrRange), ("strconv.ErrSyntax", Rows.laid_strconv_ErrSyntax)] W := h2.tail
  have t2 : Lib.TabIs Tryd.prog W "math/bits.deBruijn64tab" .u8 (Lib.deBruijn64tab.map (fun (n : Nat) => (n : Int))) := Lib.tabIs_of_head (g := 0) (t := 83) (e := 5) (n := 64) (by kernel_rfl) (by kernel_rfl) (by kernel_rfl) (by kernel_rfl) (by kernel_rfl) (by kernel_rfl) h2
  have t3 : Lib.TabIs Tryd.prog W "internal/strconv.uint64pow10" .u64 Lib.pow10Tab := Lib.tabIs_of_head (g := 5) (t := 118) (e := 22) (n := 20) (by kernel_rfl) (by kernel_rfl) (by kernel_rfl) (by kernel_rfl) (by kernel_rfl) (by kernel_rfl) h3
  refine ⟨fun j hj => ?_, t3⟩
  have := t2.cell (g := Tryd.lays7_29_ren.g 1) (by kernel_rfl) j (by rw [List.length_map]; exact hj)
  rw [this]
  congr 2
  simp [List.getD, hj]
set_option maxRecDepth 100000 in
theorem lifted (os : Os) (started : os.Started) (H : Type) (enc : TypeId × Value → H) :
    ReturnsInHanded {} Tryd.checked os 6 .any (fun w args => (Rows.hexRowsSpec.pre enc Tryd.prog Tryd.f6 [] false w args ∧ laidMetH Tryd.prog Rows.hexRowsRow.laid w) ∧ sizedMet enc Tryd.prog Tryd.f6 (OpenSpec.ofChange Rows.hexRowsSpec) false w args)
      (Rows.hexRowsSpec.post enc Tryd.prog Tryd.f6 false true false false) := by
  refine returnsInHanded_of_change_and (C := Tryd.checked) (X := fun w _ => laidMetH Tryd.prog Rows.hexRowsRow.laid w) (fun _ _ _ hh h => h.of_heap hh) own started (by kernel_rfl) Tryd.func6
    (ChangeSpec.witness_shaped (enc := enc) (C := Tryd.checked) (os := os) (X := fun w _ => laidMetH Tryd.prog Rows.hexRowsRow.laid w) false (World.laidAll Tryd.prog os Rows.hexRowsRow.laid) #[.int .i64 0, .int .i64 0, .slice none 0 0] 8 (World.laidAll_os _ _ _)
      (World.shaped_of_ZipB (by kernel_rfl) (by kernel_rfl)) (by kernel_rfl) (by kernel_rfl) (by kernel_rfl)
      (by rw [MakeChecks.laidMetH_plain _ _ _ (by kernel_rfl)]; exact laidMet_laidAll _ (by kernel_rfl) (by kernel_rfl))) ?_
  intro W base args ds gs before hval0 hW _ _ hL _
  have hval : ∀ (j : Nat) t v, Tryd.f6.params[j]? = some t → args[j]? = some v → Value.okWide Tryd.prog W .any base t v := hval0
  have hW' := hW
  obtain ⟨p, q, hA0, hV, rfl, hfz, hnd⟩ := hW
  have hA : DataW.TrodAll enc Tryd.prog W 0 (fun _ => true) true Tryd.f6.params.toList args.toList ds p := hA0
  rw [Tryd.params6] at hA hval
  obtain ⟨v0, vs0, d0, ds0, p0, q0, hargs, rfl, rfl, h0, r0⟩ := trodAll_cons hA
  obtain ⟨v1, vs1, d1, ds1, p1, q1, rfl, rfl, rfl, h1, r1⟩ := trodAll_cons r0
  obtain ⟨v2, vs2, d2, ds2, p2, q2, rfl, rfl, rfl, h2, r2⟩ := trodAll_cons r1
  obtain ⟨rfl, rfl, rfl⟩ := trodAll_nil r2
  obtain rfl : args = #[v0, v1, v2] := by cases args; simp_all
  obtain ⟨rfl, rfl⟩ := trodVars_none hV
  obtain ⟨a0, rfl, rfl, rfl, w0⟩ := open_int Tryd.underlying3 (hval 0 3 v0 rfl rfl) h0
  obtain ⟨a1, rfl, rfl, rfl, w1⟩ := open_int Tryd.underlying3 (hval 1 3 v1 rfl rfl) h1
  obtain ⟨a2, len2, cap2, rfl⟩ := okWide_slice Tryd.underlying34 (hval 2 34 v2 rfl rfl)
  have k2 := h2
  have lt2 : ∀ x ∈ p2, x.block < W.heap.size := by obtain ⟨m, hm⟩ := k2; exact DataW.trod_lt m _ _ _ hm
  obtain ⟨z2, w2⟩ : ∃ zs, IsRow .u64 W a2 len2 cap2 zs := by
    obtain ⟨fuel, hf⟩ := h2
    rcases open_ints Tryd.underlying34 Tryd.underlying22 (by kernel_rfl) hf with ⟨hcs, _⟩ | ⟨x, l, c, zs, hcs, _, hl, hm, hz, _, hcell, hwz⟩
    · simp [Value.cells] at hcs
      obtain ⟨rfl, rfl, rfl⟩ := hcs
      exact ⟨[], .inl ⟨rfl, rfl, rfl, rfl⟩⟩
    · simp [Value.cells] at hcs
      obtain ⟨rfl, rfl, rfl⟩ := hcs
      exact ⟨zs, .inr ⟨_, rfl, hl, hm, by simpa using hz, hcell, hwz⟩⟩
  clear hA0 hval0
  rw [MakeChecks.laidMetH_plain _ _ _ (by kernel_rfl)] at hL
  obtain ⟨b0, c0⟩ := bounds_i64 w0
  obtain ⟨b1, c1⟩ := bounds_i64 w1
  refine (walk a0 a1 a2 len2 cap2 _ W b0 c0 b1 c1 (row_of W a2 len2 cap2 z2 w2) (tabs_of_laid hL)).mono fun e W' ⟨he, bel⟩ => ?_
  subst he
  exact ⟨_, rfl, _, _, _, [], _, [], hW', trodAll_mk1 (shut_bool Tryd.underlying4 _), (trodAll_cons_mk (shut_int Tryd.underlying3 w0) (trodAll_cons_mk (shut_int Tryd.underlying3 w1) (trodAll_cons_mk (Below.trod laidOut (by kernel_rfl) (of_decide_eq_true (by kernel_rfl)) k2 bel lt2) trodAll_mk0))), rfl, bel.frame _, fun h => by cases h⟩
theorem over : Rows.HexRowsSaid :=
  OpenClaim.holds_of_wide 6 Tryd.f6 rfl rfl rfl rfl rfl rfl rfl ⟨rfl, rfl, rfl, rfl, rfl⟩ rfl rfl rfl rfl rfl (by kernel_rfl) Tryd.func6 (by kernel_rfl)
    (of_decide_eq_true (by kernel_rfl)) (by unfold Func.isWrapper; first | (rw [if_pos (by decide +kernel)]; kernel_rfl) | (rw [if_neg (by decide +kernel)]; exact ⟨rfl, rfl⟩))
    (fun os started H enc _ => lifted os started H enc)
/-- THE STATEMENT -/
theorem proved : Rows.HexRowsCardSaid :=
  Claim7.holds_tied_plain_at .later [] [.data, .data, .data, .sentinel, .sentinel] true Rows.hexRowsCard.stood.harness true
    over (fun _ h => by cases h) (by kernel_rfl) (fun _ h => by cases h) hexRows_row_tie rfl ⟨rfl, rfl⟩ (by kernel_rfl) rfl
    (fun f fn hf hfn => by
      obtain rfl : f = 6 := Option.some.inj ((show Tryd.prog.funcNamed Rows.hexRowsRow.func = some 6 by kernel_rfl).symm.trans hf) |>.symm
      obtain rfl : fn = Tryd.f6 := (Option.some.inj (Tryd.func6.symm.trans hfn)).symm
      exact ⟨by kernel_rfl, fun j t ht => by
        rw [Tryd.params6] at ht
        have hm : t ∈ [3, 3, 34] := by simpa using Array.mem_of_getElem? ht
        have hall : ([3, 3, 34].all fun u => !Tryd.prog.wantsStandIn u) = true := by kernel_rfl
        exact (show Tryd.prog.wantsStandIn t = false by simpa using List.all_eq_true.1 hall t hm)⟩)
    (by kernel_rfl)
#print axioms proved
end Go.Proofs.YtaamonmkfgonmaaDoor.hexRows
