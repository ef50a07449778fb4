/-
  The law HexNear returns true at every input, and leaves its arguments as they were. Conditions: none but those of the card (variables of Go's library are as the program's text lays them).
-/
import Derived.Test.YtgpgmnmifhkmbaaDoorRows
import Derived.Test.YtgpgmnmifhkmbaaDoorCards
import Derived.Test.YtgpgmnmifhkmbaaDoorTie
import Derived.Test.YtgpgmnmifhkmbaaDoorHexN
import Derived.Test.YtgpgmnmifhkmbaaDoorHexL
import Derived.Test.YtgpgmnmifhkmbaaDoorHexU
import Derived.Test.YtgpgmnmifhkmbaaDoorBst
import Derived.WalkKit
import Derived.ProofKit
import Derived.OpenShut
import Derived.Lay
import Derived.LaidOnce
import Derived.SevenTiedAt
import Derived.Lib.SmallJoins
import Derived.Stop.LaidErr
import Derived.Below
import Derived.ChangeMaps5
namespace Go.Proofs.YtgpgmnmifhkmbaaDoor.hexNear
open Go.ChangeShapes Go.WideShapes Go.ChangeAt Go.RowKit
open Go.ChangeMaps (open_string shut_string)
set_option linter.unusedVariables false
set_option linter.unusedSimpArgs false

theorem and_7_i (n : Int) : bits .and .i64 n 7 = n % 8 := by
  have h127 : (BitVec.ofInt 64 7).toNat = 2 ^ 3 - 1 := by decide
  have key : (BitVec.ofInt 64 n &&& BitVec.ofInt 64 7).toNat = (n % ((2 ^ 64 : Nat) : Int)).toNat % 2 ^ 3 := by
    rw [BitVec.toNat_and, BitVec.toNat_ofInt, h127, Nat.and_two_pow_sub_one_eq_mod]
  show IntKind.i64.wrap ((BitVec.ofInt 64 n &&& BitVec.ofInt 64 7).toNat : Nat) = n % 8
  rw [key, IntKind.wrap_i64]
  omega
theorem mk3 (a b c : List UInt8) : (⟨a.toArray⟩ : ByteArray) ++ ⟨b.toArray⟩ ++ ⟨c.toArray⟩ = ⟨(a ++ b ++ c).toArray⟩ := by rw [ByteArray.mk_append_mk, ByteArray.mk_append_mk]
theorem up_same (s : ByteArray) (w : World) (hs : s.size ≤ 1000) (ha : ∀ c ∈ s.data.toList, c.toNat < 128) : Calls Tryd.prog 15 #[.string s] w fun e w' => e = .returned (.string ⟨(Lib.toUpperA s.data.toList).toArray⟩) ∧ Below w.heap.size w w' :=
  Tryd.strings_ToUpper_ascii s w (by omega) (fun j b h => ha b (List.mem_of_getElem? h))
theorem txt_ascii (b : Int) : ∀ c ∈ txt b, c.toNat < 128 := by
  have hx : ∀ A, ∀ c ∈ hxD A, c.toNat < 128 := by
    intro A c hc
    obtain ⟨d, hd, rfl⟩ := hxD_hex A c hc
    exact (dix_fin ⟨d, hd⟩).2.1
  have it : ∀ e, ∀ c ∈ Lib.itoa e, c.toNat < 128 := by
    intro e c hc
    unfold Lib.itoa at hc
    split at hc
    · rcases List.mem_cons.1 hc with rfl | hc
      · decide
      · have := dec_rng _ c hc; omega
    · have := dec_rng _ c hc; omega
  rcases txt_form b with e | ⟨S, hS, e | e | ⟨A, x, hA, e⟩⟩ <;> rw [e]
  · decide
  · rcases hS with rfl | rfl <;> decide
  · rcases hS with rfl | rfl <;> decide
  · intro c hc
    rcases List.mem_append.1 hc with hc | hc
    · rcases List.mem_append.1 hc with hc | hc
      · rcases List.mem_append.1 hc with hc | hc
        · rw [sg_no S hS c hc]; decide
        · exact hx A c hc
      · rw [List.mem_singleton.1 hc]; decide
    · exact it x c hc
set_option maxRecDepth 100000 in
set_option maxHeartbeats 8000000 in
theorem walk (a0 a1 : Int) (w : World) (h0 : 0 ≤ a0) (h1 : a0 < 18446744073709551616) (g0 : -9223372036854775808 ≤ a1) (g1 : a1 ≤ 9223372036854775807) (hT : Tabs w) (hE : ErrVars w) :
    Calls Tryd.prog 5 #[.int .u64 a0, .int .i64 a1] w fun e w' => e = .returned (.bool true) ∧ Below w.heap.size w w' := by
  have HT := Lib.hid hT
  have HE := Lib.hid hE
  clear hT hE
  obtain ⟨s, eS, zS, lS, dS⟩ := str_ob (txt a0)
  have z41 : s.size ≤ 41 := by rw [zS]; exact txt_len a0 h0
  have LT := Lib.hid (fun W => lText a0 W h0 h1)
  rw [eS] at LT
  by_cases k : wKind a0 = 2 ∨ wKind a0 = 3
  · obtain ⟨A, e, hA, he⟩ := pform a0 k
    have hS := sgS_cases a0
    have k5 : wKind a0 ≠ 5 := by omega
    have hx : txt a0 = (sgS a0 ++ hxD A) ++ [112] ++ Lib.itoa e := by rw [txt_sg a0 k5, he]; simp only [List.append_assoc]
    obtain ⟨P, hP⟩ : ∃ P, sgS a0 ++ hxD A = P := ⟨_, rfl⟩
    obtain ⟨I, hI⟩ : ∃ I, Lib.itoa e = I := ⟨_, rfl⟩
    rw [hP, hI] at hx
    have pn : (112 : UInt8) ∉ P := by rw [← hP]; exact pre_no _ hS A
    obtain ⟨n, hn⟩ : ∃ n : Nat, P.length = n := ⟨_, rfl⟩
    have sz : s.size = n + 1 + I.length := by rw [zS, hx]; simp; omega
    have IX : Hid (Lib.indexByte s.data.toList ((112 : Int).toNat.toUInt8) = (n : Int)) := by show _ = _; rw [dS, hx, ← hn]; exact index_at P I pn
    have X1 : Hid (s.extract 0 n = ⟨P.toArray⟩) := by
      show _ = _
      rw [← eS, extract_mk, hx, ← hn]
      simp
    have X2 : Hid (s.extract n s.size = ⟨([112] ++ I).toArray⟩) := by
      show _ = _
      rw [sz, ← eS, extract_mk, hx, ← hn, List.append_assoc, List.drop_left' rfl, List.take_of_length_le (by simp; omega)]
    have X3 : Hid (s.extract 0 (n + 1) = ⟨(P ++ [112]).toArray⟩) := by
      show _ = _
      rw [← eS, extract_mk, hx, ← hn, List.drop_zero, Nat.sub_zero, List.take_left' (by simp)]
    have X4 : Hid (s.extract (n + 1) s.size = ⟨I.toArray⟩) := by
      show _ = _
      rw [sz, ← eS, extract_mk, hx, ← hn, List.drop_left' (by simp), List.take_of_length_le (by omega)]
    have q0 : (n : Int) + 1 ≤ (s.size : Int) := by omega
    have q1 : (n : Int) ≤ (s.size : Int) := by omega
    have e1 : (s.extract 0 n).size ≤ 41 := by simp [ByteArray.size_extract]; omega
    have e2 : (s.extract n s.size).size ≤ 41 := by simp [ByteArray.size_extract]; omega
    have e3 : (s.extract 0 (n + 1)).size ≤ 41 := by simp [ByteArray.size_extract]; omega
    have e4 : (s.extract (n + 1) s.size).size ≤ 41 := by simp [ByteArray.size_extract]; omega
    have EX := Lib.hid eS
    have LS := Lib.hid lS
    have DS := Lib.hid dS
    have HX := Lib.hid hx
    have HPP := Lib.hid hP
    have HSS := Lib.hid hS
    have M : a1 % 8 = 0 ∨ a1 % 8 = 1 ∨ a1 % 8 = 2 ∨ a1 % 8 = 3 ∨ a1 % 8 = 4 ∨ a1 % 8 = 5 ∨ a1 % 8 = 6 ∨ a1 % 8 = 7 := by omega
    clear eS lS dS zS he hx hI pn hn sz hP k5 k hS
    rcases M with m | m | m | m | m | m | m | m
    · have hand : bits .and .i64 a1 7 = 0 := by rw [and_7_i]; omega
      obtain ⟨T, eT, zT, lT, dT⟩ := str_ob (48 :: txt a0)
      have zl : T.size ≤ 200 := by rw [zT]; have := txt_len a0 h0; simp; omega
      have LT_ := Lib.hid lT
      have EQ : Hid (⟨#[48]⟩ ++ s = T) := by show _ = _; rw [← eT]; rw [← EX.out, cons_mk]
      clear eT zT lT dT m
      go_enter Tryd.func5, Tryd.ntmps5
      go_wp2_with (first | (go_at_call 9; refine (hHead _ HT.out).mono ?_; rintro e W0 ⟨rfl, hb0⟩; have HT0 := Lib.hid (HT.out.below hb0); have HE0 := Lib.hid (HE.out.below hb0); have B0 := Lib.hid hb0; clear hb0))
      refine (LT.out _).mono ?_
      rintro e W1 ⟨rfl, hb1⟩
      have HT1 := Lib.hid (HT0.out.below hb1)
      have HE1 := Lib.hid (HE0.out.below hb1)
      have B1 := Lib.hid (bstep B0.out hb1)
      clear hb1 HT0 HE0 B0
      go_wp2_with (first | (go_at_call 14; refine (ibyte_same _ _ _).mono ?_; rintro e w' ⟨rfl, rfl⟩; rw [IX.out]))
      rw [EQ.out]
      refine (LT.out _).mono ?_
      rintro e W3 ⟨rfl, hb3⟩
      have HT3 := Lib.hid (HT1.out.below hb3)
      have HE3 := Lib.hid (HE1.out.below hb3)
      have B3 := Lib.hid (bstep B1.out hb3)
      clear hb3
      by_cases hq : s.toList = T.toList
      · have N : (s.toList == T.toList) = true := by rw [hq, beq_self_eq_true]
        go_wp2
        go_ret
        exact ⟨rfl, B3.out⟩
      · have N : (s.toList == T.toList) = false := by rw [beq_eq_false_iff_ne]; exact hq
        clear hq
        go_wp2_with fail
        refine (hParseAny T _ (by omega) HT3.out HE3.out).mono ?_
        rintro e W4 ⟨hc, hb4⟩
        have B4 := Lib.hid (bstep B3.out hb4)
        clear hb4
        rcases hc with rfl | ⟨v, rfl, v0, v1, hv⟩
        · go_wp2
          go_ret
          exact ⟨rfl, B4.out⟩
        · exact absurd (hv.trans LT_.out) (by rw [HX.out, ← HPP.out]; exact no_zero_front v _ A I HSS.out)
    · have hand : bits .and .i64 a1 7 = 1 := by rw [and_7_i]; omega
      obtain ⟨T, eT, zT, lT, dT⟩ := str_ob (txt a0 ++ [48, 48, 48, 48])
      have zl : T.size ≤ 200 := by rw [zT]; have := txt_len a0 h0; simp; omega
      have LT_ := Lib.hid lT
      have EQ : Hid (s ++ ⟨#[48, 48, 48, 48]⟩ = T) := by show _ = _; rw [← eT]; rw [← EX.out, ← ByteArray.mk_append_mk]
      clear eT zT lT dT m
      go_enter Tryd.func5, Tryd.ntmps5
      go_wp2_with (first | (go_at_call 9; refine (hHead _ HT.out).mono ?_; rintro e W0 ⟨rfl, hb0⟩; have HT0 := Lib.hid (HT.out.below hb0); have HE0 := Lib.hid (HE.out.below hb0); have B0 := Lib.hid hb0; clear hb0))
      refine (LT.out _).mono ?_
      rintro e W1 ⟨rfl, hb1⟩
      have HT1 := Lib.hid (HT0.out.below hb1)
      have HE1 := Lib.hid (HE0.out.below hb1)
      have B1 := Lib.hid (bstep B0.out hb1)
      clear hb1 HT0 HE0 B0
      go_wp2_with (first | (go_at_call 14; refine (ibyte_same _ _ _).mono ?_; rintro e w' ⟨rfl, rfl⟩; rw [IX.out]))
      rw [EQ.out]
      refine (LT.out _).mono ?_
      rintro e W3 ⟨rfl, hb3⟩
      have HT3 := Lib.hid (HT1.out.below hb3)
      have HE3 := Lib.hid (HE1.out.below hb3)
      have B3 := Lib.hid (bstep B1.out hb3)
      clear hb3
      by_cases hq : s.toList = T.toList
      · have N : (s.toList == T.toList) = true := by rw [hq, beq_self_eq_true]
        go_wp2
        go_ret
        exact ⟨rfl, B3.out⟩
      · have N : (s.toList == T.toList) = false := by rw [beq_eq_false_iff_ne]; exact hq
        clear hq
        go_wp2_with fail
        refine (hParseAny T _ (by omega) HT3.out HE3.out).mono ?_
        rintro e W4 ⟨hc, hb4⟩
        have B4 := Lib.hid (bstep B3.out hb4)
        clear hb4
        rcases hc with rfl | ⟨v, rfl, v0, v1, hv⟩
        · go_wp2
          go_ret
          exact ⟨rfl, B4.out⟩
        · obtain ⟨V, eV, zV, lV, dV⟩ := str_ob (txt v)
          have EV := Lib.hid eV
          have N2 : (V.toList == T.toList) = true := by rw [lV, hv, beq_self_eq_true]
          clear eV zV lV dV hv
          go_wp2_with fail
          refine (lText v _ v0 v1).mono ?_
          rintro e W5 ⟨rfl, hb5⟩
          rw [EV.out]
          go_wp2
          go_ret
          exact ⟨rfl, bstep B4.out hb5⟩
    · have hand : bits .and .i64 a1 7 = 2 := by rw [and_7_i]; omega
      obtain ⟨T, eT, zT, lT, dT⟩ := str_ob (P ++ [48] ++ ([112] ++ I))
      have zl : T.size ≤ 200 := by rw [zT]; have := congrArg List.length HX.out; have := txt_len a0 h0; simp at *; omega
      have LT_ := Lib.hid lT
      have EQ : Hid (s.extract 0 n ++ ⟨#[48]⟩ ++ s.extract n s.size = T) := by show _ = _; rw [← eT]; rw [X1.out, X2.out]; exact mk3 P [48] ([112] ++ I)
      clear eT zT lT dT m
      go_enter Tryd.func5, Tryd.ntmps5
      go_wp2_with (first | (go_at_call 9; refine (hHead _ HT.out).mono ?_; rintro e W0 ⟨rfl, hb0⟩; have HT0 := Lib.hid (HT.out.below hb0); have HE0 := Lib.hid (HE.out.below hb0); have B0 := Lib.hid hb0; clear hb0))
      refine (LT.out _).mono ?_
      rintro e W1 ⟨rfl, hb1⟩
      have HT1 := Lib.hid (HT0.out.below hb1)
      have HE1 := Lib.hid (HE0.out.below hb1)
      have B1 := Lib.hid (bstep B0.out hb1)
      clear hb1 HT0 HE0 B0
      go_wp2_with (first | (go_at_call 14; refine (ibyte_same _ _ _).mono ?_; rintro e w' ⟨rfl, rfl⟩; rw [IX.out]))
      go_region
      go_wp2_with fail
      replace B1 := Lib.hid (B1.out.drew)
      replace HT1 := Lib.hid (HT1.out.below (Below.refl _ W1).drew)
      replace HE1 := Lib.hid (HE1.out.below (Below.refl _ W1).drew)
      rw [EQ.out]
      refine (LT.out _).mono ?_
      rintro e W3 ⟨rfl, hb3⟩
      have HT3 := Lib.hid (HT1.out.below hb3)
      have HE3 := Lib.hid (HE1.out.below hb3)
      have B3 := Lib.hid (bstep B1.out hb3)
      clear hb3
      by_cases hq : s.toList = T.toList
      · have N : (s.toList == T.toList) = true := by rw [hq, beq_self_eq_true]
        go_wp2
        go_ret
        exact ⟨rfl, B3.out⟩
      · have N : (s.toList == T.toList) = false := by rw [beq_eq_false_iff_ne]; exact hq
        clear hq
        go_wp2_with fail
        refine (hParseAny T _ (by omega) HT3.out HE3.out).mono ?_
        rintro e W4 ⟨hc, hb4⟩
        have B4 := Lib.hid (bstep B3.out hb4)
        clear hb4
        rcases hc with rfl | ⟨v, rfl, v0, v1, hv⟩
        · go_wp2
          go_ret
          exact ⟨rfl, B4.out⟩
        · exact absurd (hv.trans LT_.out) (by rw [← HPP.out]; exact no_zero_behind v _ A I HSS.out)
    · have hand : bits .and .i64 a1 7 = 3 := by rw [and_7_i]; omega
      obtain ⟨T, eT, zT, lT, dT⟩ := str_ob (43 :: txt a0)
      have zl : T.size ≤ 200 := by rw [zT]; have := txt_len a0 h0; simp; omega
      have LT_ := Lib.hid lT
      have EQ : Hid (⟨#[43]⟩ ++ s = T) := by show _ = _; rw [← eT]; rw [← EX.out, cons_mk]
      clear eT zT lT dT m
      go_enter Tryd.func5, Tryd.ntmps5
      go_wp2_with (first | (go_at_call 9; refine (hHead _ HT.out).mono ?_; rintro e W0 ⟨rfl, hb0⟩; have HT0 := Lib.hid (HT.out.below hb0); have HE0 := Lib.hid (HE.out.below hb0); have B0 := Lib.hid hb0; clear hb0))
      refine (LT.out _).mono ?_
      rintro e W1 ⟨rfl, hb1⟩
      have HT1 := Lib.hid (HT0.out.below hb1)
      have HE1 := Lib.hid (HE0.out.below hb1)
      have B1 := Lib.hid (bstep B0.out hb1)
      clear hb1 HT0 HE0 B0
      go_wp2_with (first | (go_at_call 14; refine (ibyte_same _ _ _).mono ?_; rintro e w' ⟨rfl, rfl⟩; rw [IX.out]))
      rw [EQ.out]
      refine (LT.out _).mono ?_
      rintro e W3 ⟨rfl, hb3⟩
      have HT3 := Lib.hid (HT1.out.below hb3)
      have HE3 := Lib.hid (HE1.out.below hb3)
      have B3 := Lib.hid (bstep B1.out hb3)
      clear hb3
      by_cases hq : s.toList = T.toList
      · have N : (s.toList == T.toList) = true := by rw [hq, beq_self_eq_true]
        go_wp2
        go_ret
        exact ⟨rfl, B3.out⟩
      · have N : (s.toList == T.toList) = false := by rw [beq_eq_false_iff_ne]; exact hq
        clear hq
        go_wp2_with fail
        refine (hParseAny T _ (by omega) HT3.out HE3.out).mono ?_
        rintro e W4 ⟨hc, hb4⟩
        have B4 := Lib.hid (bstep B3.out hb4)
        clear hb4
        rcases hc with rfl | ⟨v, rfl, v0, v1, hv⟩
        · go_wp2
          go_ret
          exact ⟨rfl, B4.out⟩
        · exact absurd (hv.trans LT_.out) (by exact no_mark v _ (.inr (.inl (by simp))))
    · have hand : bits .and .i64 a1 7 = 4 := by rw [and_7_i]; omega
      obtain ⟨T, eT, zT, lT, dT⟩ := str_ob (P ++ [112] ++ [43] ++ I)
      have zl : T.size ≤ 200 := by rw [zT]; have := congrArg List.length HX.out; have := txt_len a0 h0; simp at *; omega
      have LT_ := Lib.hid lT
      have EQ : Hid (s.extract 0 (n + 1) ++ ⟨#[43]⟩ ++ s.extract (n + 1) s.size = T) := by show _ = _; rw [← eT]; rw [X3.out, X4.out]; exact mk3 (P ++ [112]) [43] I
      clear eT zT lT dT m
      go_enter Tryd.func5, Tryd.ntmps5
      go_wp2_with (first | (go_at_call 9; refine (hHead _ HT.out).mono ?_; rintro e W0 ⟨rfl, hb0⟩; have HT0 := Lib.hid (HT.out.below hb0); have HE0 := Lib.hid (HE.out.below hb0); have B0 := Lib.hid hb0; clear hb0))
      refine (LT.out _).mono ?_
      rintro e W1 ⟨rfl, hb1⟩
      have HT1 := Lib.hid (HT0.out.below hb1)
      have HE1 := Lib.hid (HE0.out.below hb1)
      have B1 := Lib.hid (bstep B0.out hb1)
      clear hb1 HT0 HE0 B0
      go_wp2_with (first | (go_at_call 14; refine (ibyte_same _ _ _).mono ?_; rintro e w' ⟨rfl, rfl⟩; rw [IX.out]))
      go_region
      go_wp2_with fail
      replace B1 := Lib.hid (B1.out.drew)
      replace HT1 := Lib.hid (HT1.out.below (Below.refl _ W1).drew)
      replace HE1 := Lib.hid (HE1.out.below (Below.refl _ W1).drew)
      rw [EQ.out]
      refine (LT.out _).mono ?_
      rintro e W3 ⟨rfl, hb3⟩
      have HT3 := Lib.hid (HT1.out.below hb3)
      have HE3 := Lib.hid (HE1.out.below hb3)
      have B3 := Lib.hid (bstep B1.out hb3)
      clear hb3
      by_cases hq : s.toList = T.toList
      · have N : (s.toList == T.toList) = true := by rw [hq, beq_self_eq_true]
        go_wp2
        go_ret
        exact ⟨rfl, B3.out⟩
      · have N : (s.toList == T.toList) = false := by rw [beq_eq_false_iff_ne]; exact hq
        clear hq
        go_wp2_with fail
        refine (hParseAny T _ (by omega) HT3.out HE3.out).mono ?_
        rintro e W4 ⟨hc, hb4⟩
        have B4 := Lib.hid (bstep B3.out hb4)
        clear hb4
        rcases hc with rfl | ⟨v, rfl, v0, v1, hv⟩
        · go_wp2
          go_ret
          exact ⟨rfl, B4.out⟩
        · exact absurd (hv.trans LT_.out) (by exact no_mark v _ (.inr (.inl (by simp))))
    · have hand : bits .and .i64 a1 7 = 5 := by rw [and_7_i]; omega
      obtain ⟨T, eT, zT, lT, dT⟩ := str_ob (Lib.toUpperA (txt a0))
      have zl : T.size ≤ 200 := by rw [zT]; have := txt_len a0 h0; unfold Lib.toUpperA; rw [List.length_map]; omega
      have LT_ := Lib.hid lT
      have ET := Lib.hid eT
      have UP := Lib.hid (fun W => up_same s W (by omega) (by rw [DS.out]; exact txt_ascii a0))
      rw [DS.out, ET.out] at UP
      clear eT zT lT dT m
      go_enter Tryd.func5, Tryd.ntmps5
      go_wp2_with (first | (go_at_call 9; refine (hHead _ HT.out).mono ?_; rintro e W0 ⟨rfl, hb0⟩; have HT0 := Lib.hid (HT.out.below hb0); have HE0 := Lib.hid (HE.out.below hb0); have B0 := Lib.hid hb0; clear hb0))
      refine (LT.out _).mono ?_
      rintro e W1 ⟨rfl, hb1⟩
      have HT1 := Lib.hid (HT0.out.below hb1)
      have HE1 := Lib.hid (HE0.out.below hb1)
      have B1 := Lib.hid (bstep B0.out hb1)
      clear hb1 HT0 HE0 B0
      go_wp2_with (first | (go_at_call 14; refine (ibyte_same _ _ _).mono ?_; rintro e w' ⟨rfl, rfl⟩; rw [IX.out]))
      refine (UP.out _).mono ?_
      rintro e W2 ⟨rfl, hb2⟩
      have HT2 := Lib.hid (HT1.out.below hb2)
      have HE2 := Lib.hid (HE1.out.below hb2)
      have B2 := Lib.hid (bstep B1.out hb2)
      clear hb2
      go_wp2_with fail
      refine (LT.out _).mono ?_
      rintro e W3 ⟨rfl, hb3⟩
      have HT3 := Lib.hid (HT2.out.below hb3)
      have HE3 := Lib.hid (HE2.out.below hb3)
      have B3 := Lib.hid (bstep B2.out hb3)
      clear hb3
      by_cases hq : s.toList = T.toList
      · have N : (s.toList == T.toList) = true := by rw [hq, beq_self_eq_true]
        go_wp2
        go_ret
        exact ⟨rfl, B3.out⟩
      · have N : (s.toList == T.toList) = false := by rw [beq_eq_false_iff_ne]; exact hq
        clear hq
        go_wp2_with fail
        refine (hParseAny T _ (by omega) HT3.out HE3.out).mono ?_
        rintro e W4 ⟨hc, hb4⟩
        have B4 := Lib.hid (bstep B3.out hb4)
        clear hb4
        rcases hc with rfl | ⟨v, rfl, v0, v1, hv⟩
        · go_wp2
          go_ret
          exact ⟨rfl, B4.out⟩
        · exact absurd (hv.trans LT_.out) (by exact no_mark v _ (.inr (.inr (up_p _ (by rw [HX.out]; simp)))))
    · have hand : bits .and .i64 a1 7 = 6 := by rw [and_7_i]; omega
      obtain ⟨T, eT, zT, lT, dT⟩ := str_ob (P)
      have zl : T.size ≤ 200 := by rw [zT]; have := congrArg List.length HX.out; have := txt_len a0 h0; simp at *; omega
      have LT_ := Lib.hid lT
      have EQ : Hid (s.extract 0 n = T) := by show _ = _; rw [← eT]; rw [X1.out]
      clear eT zT lT dT m
      go_enter Tryd.func5, Tryd.ntmps5
      go_wp2_with (first | (go_at_call 9; refine (hHead _ HT.out).mono ?_; rintro e W0 ⟨rfl, hb0⟩; have HT0 := Lib.hid (HT.out.below hb0); have HE0 := Lib.hid (HE.out.below hb0); have B0 := Lib.hid hb0; clear hb0))
      refine (LT.out _).mono ?_
      rintro e W1 ⟨rfl, hb1⟩
      have HT1 := Lib.hid (HT0.out.below hb1)
      have HE1 := Lib.hid (HE0.out.below hb1)
      have B1 := Lib.hid (bstep B0.out hb1)
      clear hb1 HT0 HE0 B0
      go_wp2_with (first | (go_at_call 14; refine (ibyte_same _ _ _).mono ?_; rintro e w' ⟨rfl, rfl⟩; rw [IX.out]))
      rw [EQ.out]
      refine (LT.out _).mono ?_
      rintro e W3 ⟨rfl, hb3⟩
      have HT3 := Lib.hid (HT1.out.below hb3)
      have HE3 := Lib.hid (HE1.out.below hb3)
      have B3 := Lib.hid (bstep B1.out hb3)
      clear hb3
      by_cases hq : s.toList = T.toList
      · have N : (s.toList == T.toList) = true := by rw [hq, beq_self_eq_true]
        go_wp2
        go_ret
        exact ⟨rfl, B3.out⟩
      · have N : (s.toList == T.toList) = false := by rw [beq_eq_false_iff_ne]; exact hq
        clear hq
        go_wp2_with fail
        refine (hParseAny T _ (by omega) HT3.out HE3.out).mono ?_
        rintro e W4 ⟨hc, hb4⟩
        have B4 := Lib.hid (bstep B3.out hb4)
        clear hb4
        rcases hc with rfl | ⟨v, rfl, v0, v1, hv⟩
        · go_wp2
          go_ret
          exact ⟨rfl, B4.out⟩
        · exact absurd (hv.trans LT_.out) (by rw [← HPP.out]; exact no_cut v _ A HSS.out hA)
    · have hand : bits .and .i64 a1 7 = 7 := by rw [and_7_i]; omega
      obtain ⟨T, eT, zT, lT, dT⟩ := str_ob (txt a0 ++ [32])
      have zl : T.size ≤ 200 := by rw [zT]; have := txt_len a0 h0; simp; omega
      have LT_ := Lib.hid lT
      have EQ : Hid (s ++ ⟨#[32]⟩ = T) := by show _ = _; rw [← eT]; rw [← EX.out, ← ByteArray.mk_append_mk]
      clear eT zT lT dT m
      go_enter Tryd.func5, Tryd.ntmps5
      go_wp2_with (first | (go_at_call 9; refine (hHead _ HT.out).mono ?_; rintro e W0 ⟨rfl, hb0⟩; have HT0 := Lib.hid (HT.out.below hb0); have HE0 := Lib.hid (HE.out.below hb0); have B0 := Lib.hid hb0; clear hb0))
      refine (LT.out _).mono ?_
      rintro e W1 ⟨rfl, hb1⟩
      have HT1 := Lib.hid (HT0.out.below hb1)
      have HE1 := Lib.hid (HE0.out.below hb1)
      have B1 := Lib.hid (bstep B0.out hb1)
      clear hb1 HT0 HE0 B0
      go_wp2_with (first | (go_at_call 14; refine (ibyte_same _ _ _).mono ?_; rintro e w' ⟨rfl, rfl⟩; rw [IX.out]))
      rw [EQ.out]
      refine (LT.out _).mono ?_
      rintro e W3 ⟨rfl, hb3⟩
      have HT3 := Lib.hid (HT1.out.below hb3)
      have HE3 := Lib.hid (HE1.out.below hb3)
      have B3 := Lib.hid (bstep B1.out hb3)
      clear hb3
      by_cases hq : s.toList = T.toList
      · have N : (s.toList == T.toList) = true := by rw [hq, beq_self_eq_true]
        go_wp2
        go_ret
        exact ⟨rfl, B3.out⟩
      · have N : (s.toList == T.toList) = false := by rw [beq_eq_false_iff_ne]; exact hq
        clear hq
        go_wp2_with fail
        refine (hParseAny T _ (by omega) HT3.out HE3.out).mono ?_
        rintro e W4 ⟨hc, hb4⟩
        have B4 := Lib.hid (bstep B3.out hb4)
        clear hb4
        rcases hc with rfl | ⟨v, rfl, v0, v1, hv⟩
        · go_wp2
          go_ret
          exact ⟨rfl, B4.out⟩
        · exact absurd (hv.trans LT_.out) (by exact no_mark v _ (.inl (by simp)))
  · have IX : Hid (Lib.indexByte s.data.toList ((112 : Int).toNat.toUInt8) = -1) := by
      show _ = _
      rw [dS]
      refine ix_none _ _ (fun x hx e => ?_)
      have hp : (112 : UInt8) ∈ txt a0 := by rw [e] at hx; exact hx
      obtain ⟨S, A, e2, hS, hA, e3⟩ := form_p _ (txt_form a0) hp
      by_cases k5 : wKind a0 = 5
      · unfold txt at hp; rw [if_pos k5] at hp; exact absurd hp (by decide)
      · rw [txt_sg a0 k5] at hp
        have hk := kind_cases a0
        rcases List.mem_append.1 hp with hp | hp
        · exact absurd (sg_no _ (sgS_cases a0) _ hp) (by decide)
        · unfold sizeT at hp
          split at hp
          · exact absurd hp (by decide)
          · split at hp
            · exact absurd hp (by decide)
            · omega
    obtain ⟨T, eT, zT, lT, dT⟩ := str_ob (txt a0 ++ [112, 48])
    have zl : T.size ≤ 200 := by rw [zT]; have := txt_len a0 h0; simp; omega
    have EQ : Hid (s ++ ⟨#[112, 48]⟩ = T) := by show _ = _; rw [← eT, ← eS, ← ByteArray.mk_append_mk]
    have LT_ := Lib.hid lT
    have K := Lib.hid k
    clear eT zT lT dT eS zS lS dS k
    go_enter Tryd.func5, Tryd.ntmps5
    go_wp2_with (first | (go_at_call 9; refine (hHead _ HT.out).mono ?_; rintro e W0 ⟨rfl, hb0⟩; have HT0 := Lib.hid (HT.out.below hb0); have HE0 := Lib.hid (HE.out.below hb0); have B0 := Lib.hid hb0; clear hb0))
    refine (LT.out _).mono ?_
    rintro e W1 ⟨rfl, hb1⟩
    have HT1 := Lib.hid (HT0.out.below hb1)
    have HE1 := Lib.hid (HE0.out.below hb1)
    have B1 := Lib.hid (bstep B0.out hb1)
    clear hb1 HT0 HE0 B0
    go_wp2_with (first | (go_at_call 14; refine (ibyte_same _ _ _).mono ?_; rintro e w' ⟨rfl, rfl⟩; rw [IX.out]))
    rw [EQ.out]
    refine (hParseAny T _ (by omega) HT1.out HE1.out).mono ?_
    rintro e W4 ⟨hc, hb4⟩
    have B4 := Lib.hid (bstep B1.out hb4)
    clear hb4
    rcases hc with rfl | ⟨v, rfl, v0, v1, hv⟩
    · go_wp2
      go_ret
      exact ⟨rfl, B4.out⟩
    · exact absurd (hv.trans LT_.out) (no_p0 v a0 K.out)
theorem own : ownKnob Tryd.prog.godebug = none := by kernel_rfl
theorem tabs_of_laid {W : World} (h : laidMet Tryd.prog Rows.hexNearRow.laid W) : Tabs W := by
  have h2 : laidMet Tryd.prog [("math/bits.deBruijn64tab", Rows.laid_math_bits_deBruijn64tab), ("internal/strconv.uint64pow10", Rows.laid_internal_strconv_uint64pow10), ("unicode/utf8.acceptRanges", Rows.laid_unicode_utf8_acceptRanges), ("strconv.ErrRange", Rows.laid_strconv_ErrRange), ("strconv.ErrSyntax", Rows.laid_strconv_ErrSyntax), ("unicode.CaseRanges", Rows.laid_unicode_CaseRanges), ("unicode/utf8.first", Rows.laid_unicode_utf8_first)] W := h.tail
  have h3 : laidMet Tryd.prog [("internal/strconv.uint64pow10", Rows.laid_internal_strconv_uint64pow10), ("unicode/utf8.acceptRanges", Rows.laid_unicode_utf8_acceptRanges), ("strconv.ErrRange", Rows.laid_strconv_ErrRange), ("strconv.ErrSyntax", Rows.laid_strconv_ErrSyntax), ("unicode.CaseRanges", Rows.laid_unicode_CaseRanges), ("unicode/utf8.first", Rows.laid_unicode_utf8_first)] W := h2.tail
  have t2 : Lib.TabIs Tryd.prog W "math/bits.deBruijn64tab" .u8 (Lib.deBruijn64tab.map (fun (n : Nat) => (n : Int))) := Lib.tabIs_of_head (g := 0) (t := 83) (e := 5) (n := 64) (by kernel_rfl) (by kernel_rfl) (by kernel_rfl) (by kernel_rfl) (by kernel_rfl) (by kernel_rfl) h2
  have t3 : Lib.TabIs Tryd.prog W "internal/strconv.uint64pow10" .u64 Lib.pow10Tab := Lib.tabIs_of_head (g := 5) (t := 118) (e := 22) (n := 20) (by kernel_rfl) (by kernel_rfl) (by kernel_rfl) (by kernel_rfl) (by kernel_rfl) (by kernel_rfl) h3
  refine ⟨fun j hj => ?_, t3⟩
  have := t2.cell (g := Tryd.lays7_29_ren.g 1) (by kernel_rfl) j (by rw [List.length_map]; exact hj)
  rw [this]
  congr 2
  simp [List.getD, hj]
theorem errs_of_laid {W : World} (h : laidMet Tryd.prog Rows.hexNearRow.laid W) : ErrVars W := by
  have h4 : laidMet Tryd.prog [("strconv.ErrRange", Rows.laid_strconv_ErrRange), ("strconv.ErrSyntax", Rows.laid_strconv_ErrSyntax), ("unicode.CaseRanges", Rows.laid_unicode_CaseRanges), ("unicode/utf8.first", Rows.laid_unicode_utf8_first)] W := h.tail.tail.tail.tail
  have h5 : laidMet Tryd.prog [("strconv.ErrSyntax", Rows.laid_strconv_ErrSyntax), ("unicode.CaseRanges", Rows.laid_unicode_CaseRanges), ("unicode/utf8.first", Rows.laid_unicode_utf8_first)] W := h4.tail
  exact ⟨errvar_any (g := 6) (by kernel_rfl) (by kernel_rfl) h5, errvar_any (g := 7) (by kernel_rfl) (by kernel_rfl) h4⟩
set_option maxRecDepth 100000 in
theorem lifted (os : Os) (started : os.Started) (H : Type) (enc : TypeId × Value → H) :
    ReturnsInHanded {} Tryd.checked os 5 .any (fun w args => (Rows.hexNearSpec.pre enc Tryd.prog Tryd.f5 [] false w args ∧ laidMetH Tryd.prog Rows.hexNearRow.laid w) ∧ sizedMet enc Tryd.prog Tryd.f5 (OpenSpec.ofChange Rows.hexNearSpec) false w args)
      (Rows.hexNearSpec.post enc Tryd.prog Tryd.f5 false true false false) := by
  refine returnsInHanded_of_change_and (C := Tryd.checked) (X := fun w _ => laidMetH Tryd.prog Rows.hexNearRow.laid w) (fun _ _ _ hh h => h.of_heap hh) own started (by kernel_rfl) Tryd.func5
    (ChangeSpec.witness_shaped (enc := enc) (C := Tryd.checked) (os := os) (X := fun w _ => laidMetH Tryd.prog Rows.hexNearRow.laid w) false (World.laidAll Tryd.prog os Rows.hexNearRow.laid) #[.int .u64 0, .int .i64 0] 8 (World.laidAll_os _ _ _)
      (World.shaped_of_ZipB (by kernel_rfl) (by kernel_rfl)) (by kernel_rfl) (by kernel_rfl) (by kernel_rfl)
      (by rw [MakeChecks.laidMetH_plain _ _ _ (by kernel_rfl)]; exact laidMet_laidAll _ (by kernel_rfl) (by kernel_rfl))) ?_
  intro W base args ds gs before hval0 hW _ _ hL _
  have hval : ∀ (j : Nat) t v, Tryd.f5.params[j]? = some t → args[j]? = some v → Value.okWide Tryd.prog W .any base t v := hval0
  have hW' := hW
  obtain ⟨p, q, hA0, hV, rfl, hfz, hnd⟩ := hW
  have hA : DataW.TrodAll enc Tryd.prog W 0 (fun _ => true) true Tryd.f5.params.toList args.toList ds p := hA0
  rw [Tryd.params5] at hA hval
  obtain ⟨v0, vs0, d0, ds0, p0, q0, hargs, rfl, rfl, h0, r0⟩ := trodAll_cons hA
  obtain ⟨v1, vs1, d1, ds1, p1, q1, rfl, rfl, rfl, h1, r1⟩ := trodAll_cons r0
  obtain ⟨rfl, rfl, rfl⟩ := trodAll_nil r1
  obtain rfl : args = #[v0, v1] := by cases args; simp_all
  obtain ⟨rfl, rfl⟩ := trodVars_none hV
  obtain ⟨a0, rfl, rfl, rfl, w0⟩ := open_int Tryd.underlying22 (hval 0 22 v0 rfl rfl) h0
  obtain ⟨a1, rfl, rfl, rfl, w1⟩ := open_int Tryd.underlying3 (hval 1 3 v1 rfl rfl) h1
  clear hA0 hval0
  rw [MakeChecks.laidMetH_plain _ _ _ (by kernel_rfl)] at hL
  obtain ⟨b0, c0⟩ := bounds_u64 w0
  obtain ⟨b1, c1⟩ := bounds_i64 w1
  refine (walk a0 a1 W b0 (by omega) b1 c1 (tabs_of_laid hL) (errs_of_laid hL)).mono fun e W' ⟨he, bel⟩ => ?_
  subst he
  exact ⟨_, rfl, _, _, _, [], _, [], hW', trodAll_mk1 (shut_bool Tryd.underlying4 _), (trodAll_cons_mk (shut_int Tryd.underlying22 w0) (trodAll_cons_mk (shut_int Tryd.underlying3 w1) trodAll_mk0)), rfl, bel.frame _, fun h => by cases h⟩
theorem over : Rows.HexNearSaid :=
  OpenClaim.holds_of_wide 5 Tryd.f5 rfl rfl rfl rfl rfl rfl rfl ⟨rfl, rfl, rfl, rfl, rfl⟩ rfl rfl rfl rfl rfl (by kernel_rfl) Tryd.func5 (by kernel_rfl)
    (of_decide_eq_true (by kernel_rfl)) (by unfold Func.isWrapper; first | (rw [if_pos (by decide +kernel)]; kernel_rfl) | (rw [if_neg (by decide +kernel)]; exact ⟨rfl, rfl⟩))
    (fun os started H enc _ => lifted os started H enc)
/-- THE STATEMENT -/
theorem proved : Rows.HexNearCardSaid :=
  Claim7.holds_tied_plain_at .later [] [.data, .data, .data, .data, .sentinel, .sentinel, .pinned, .pinned] true Rows.hexNearCard.stood.harness true
    over (fun _ h => by cases h) (by kernel_rfl) (fun _ h => by cases h) hexNear_row_tie rfl ⟨rfl, rfl⟩ (by kernel_rfl) rfl
    (fun f fn hf hfn => by
      obtain rfl : f = 5 := Option.some.inj ((show Tryd.prog.funcNamed Rows.hexNearRow.func = some 5 by kernel_rfl).symm.trans hf) |>.symm
      obtain rfl : fn = Tryd.f5 := (Option.some.inj (Tryd.func5.symm.trans hfn)).symm
      exact ⟨by kernel_rfl, fun j t ht => by
        rw [Tryd.params5] at ht
        have hm : t ∈ [22, 3] := by simpa using Array.mem_of_getElem? ht
        have hall : ([22, 3].all fun u => !Tryd.prog.wantsStandIn u) = true := by kernel_rfl
        exact (show Tryd.prog.wantsStandIn t = false by simpa using List.all_eq_true.1 hall t hm)⟩)
    (by kernel_rfl)
#print axioms proved
end Go.Proofs.YtgpgmnmifhkmbaaDoor.hexNear
