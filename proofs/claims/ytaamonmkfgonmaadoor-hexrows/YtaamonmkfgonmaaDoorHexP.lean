/-
  What read and Parse of package hex return at the text of a pattern. Conditions: two tables of Go's library are as they are laid.
-/
import Derived.Test.YtaamonmkfgonmaaDoorHexQ
import Derived.Test.YtaamonmkfgonmaaDoorBst
namespace Go.Proofs.YtaamonmkfgonmaaDoor
open Go.RowKit
set_option linter.unusedVariables false
set_option linter.unusedSimpArgs false

theorem fold_ge (l : List UInt8) : ∀ a : Nat, a ≤ l.foldl (fun a c => a * 10 + (c.toNat - 48)) a := by
  induction l with
  | nil => intro a; exact Nat.le_refl _
  | cons c l ih =>
    intro a
    exact Nat.le_trans (by omega) (ih (a * 10 + (c.toNat - 48)))
theorem parse_digits (l : List UInt8) : ∀ a : Nat, (∀ c ∈ l, 48 ≤ c.toNat ∧ c.toNat ≤ 57) → l.foldl (fun a c => a * 10 + (c.toNat - 48)) a ≤ 1000000000 → Lib.parseUint10 a l = .ok (l.foldl (fun a c => a * 10 + (c.toNat - 48)) a) := by
  induction l with
  | nil => intro a _ _; rfl
  | cons c l ih =>
    intro a h hb
    have hc := h c (by simp)
    have hf := fold_ge l (a * 10 + (c.toNat - 48))
    simp only [List.foldl_cons] at hb ⊢
    unfold Lib.parseUint10
    rw [if_pos hc, if_neg (by omega), if_neg (by omega)]
    exact ih _ (fun x hx => h x (by simp [hx])) hb
theorem dig10_rng : ∀ d : Fin 10, 48 ≤ (UInt8.ofNat (48 + d.val)).toNat ∧ (UInt8.ofNat (48 + d.val)).toNat ≤ 57 := by decide +kernel
theorem dec_rng (u : Nat) : ∀ c ∈ Lib.decDigits u, 48 ≤ c.toNat ∧ c.toNat ≤ 57 := by
  induction u using Nat.strongRecOn with
  | _ u ih =>
    by_cases h : u < 10
    · rw [dec_small u h]
      intro c hc
      rw [List.mem_singleton.1 hc]
      exact dig10_rng ⟨u, h⟩
    · rw [dec_big u h]
      intro c hc
      rcases List.mem_append.1 hc with hc | hc
      · exact ih (u / 10) (by omega) c hc
      · rw [List.mem_singleton.1 hc]
        exact dig10_rng ⟨u % 10, Nat.mod_lt _ (by decide)⟩
theorem parse_dec (u : Nat) (h : u ≤ 1000000) : Lib.parseMag (Lib.decDigits u) = .ok u := by
  unfold Lib.parseMag
  rw [if_neg (dec_ne u)]
  have e : (Lib.decDigits u).foldl (fun a c => a * 10 + (c.toNat - 48)) 0 = u := dval_dec u
  rw [parse_digits _ 0 (dec_rng u) (by rw [e]; omega), e]
theorem atoi_itoa (n : Int) (h0 : -1000000 ≤ n) (h1 : n ≤ 1000000) : Lib.atoiAll (Lib.itoa n) = .ok n := by
  unfold Lib.itoa
  split
  · rename_i hn
    unfold Lib.atoiAll
    have c : (45 : UInt8).toNat = 45 := rfl
    simp only [c]
    rw [if_pos (by decide), parse_dec _ (by omega)]
    simp only
    rw [if_neg (by omega), if_neg (by omega)]
    simp
    omega
  · rename_i hn
    have hr := dec_rng n.toNat
    have hp := parse_dec n.toNat (by omega)
    have hne := dec_ne n.toNat
    generalize Lib.decDigits n.toNat = l at *
    cases l with
    | nil => exact absurd rfl hne
    | cons c l =>
      have hc := hr c (by simp)
      unfold Lib.atoiAll
      simp only
      rw [if_neg (by omega), hp]
      simp only
      rw [if_neg (by omega), if_neg (by omega), if_neg (by omega)]
      congr 1
      omega
theorem cut_same (s p : ByteArray) (w : World) : Calls Tryd.prog 44 #[.string s, .string p] w fun e w' => e = .returned (.tuple #[.string ⟨(Lib.trimPrefix s.data.toList p.data.toList).toArray⟩, .bool (Lib.hasPrefix s.data.toList p.data.toList)]) ∧ w = w' := (Tryd.strings_CutPrefix s p w).mono fun e w' ⟨p, q⟩ => ⟨p, q.symm⟩
theorem sign_same (b c : Int) (w : World) (h0 : 0 ≤ b) (h1 : b < 18446744073709551616) (g0 : 0 ≤ c) (g1 : c < 18446744073709551616) : Calls Tryd.prog 45 #[.int .u64 b, .int .u64 c] w fun e w' => e = .returned (.int .u64 (b % 9223372036854775808 + c / 9223372036854775808 * 9223372036854775808)) ∧ w = w' := (sign_any b c w h0 h1 g0 g1).mono fun e w' ⟨p, q⟩ => ⟨p, q.symm⟩
theorem hxB_n : ∀ d : Fin 16, hxB d.val ≠ 110 := by decide +kernel
theorem size_no (b : Int) (c : UInt8) (l : List UInt8) (h : sizeT b = c :: l) : c ≠ 45 ∧ c ≠ 110 := by
  have h2 := h
  unfold sizeT at h
  split at h
  · simp at h; rw [← h.1]; decide
  · split at h
    · simp at h; rw [← h.1]; decide
    · have hp := hxD_pos ((wMant b).toNat / 2 ^ zB b)
      have hx := hxD_hex ((wMant b).toNat / 2 ^ zB b)
      generalize hxD ((wMant b).toNat / 2 ^ zB b) = x at *
      cases x with
      | nil => simp at hp
      | cons y r =>
        simp at h
        obtain ⟨d, hd, e⟩ := hx y (by simp)
        rw [← h.1, e]
        exact ⟨(hxB_fin ⟨d, hd⟩).2.1, hxB_n ⟨d, hd⟩⟩
theorem size_ne (b : Int) : ∃ c l, sizeT b = c :: l := by
  unfold sizeT
  split
  · exact ⟨_, _, rfl⟩
  · split
    · exact ⟨_, _, rfl⟩
    · have hp := hxD_pos ((wMant b).toNat / 2 ^ zB b)
      generalize hxD ((wMant b).toNat / 2 ^ zB b) = x at *
      cases x with
      | nil => simp at hp
      | cons y r => exact ⟨y, r ++ [112] ++ Lib.itoa (wPow b + (zB b : Int)), rfl⟩
theorem pre_cut (b : Int) (h : wKind b ≠ 5) : Lib.trimPrefix (txt b) [45] = sizeT b ∧ Lib.hasPrefix (txt b) [45] = decide (9223372036854775808 ≤ b) ∧ txt b ≠ [110, 97, 110] := by
  obtain ⟨c, l, e⟩ := size_ne b
  obtain ⟨n1, n2⟩ := size_no b c l e
  rw [txt_sg b h]
  unfold sgS Lib.trimPrefix Lib.hasPrefix
  by_cases hs : 9223372036854775808 ≤ b
  · rw [if_pos hs]
    refine ⟨by simp, by simp [hs], by simp⟩
  · rw [if_neg hs, e]
    refine ⟨?_, ?_, ?_⟩
    · simp [n1, Ne.symm n1]
    · simp [List.isPrefixOf, n1, Ne.symm n1, hs]
    · simp [n2]
theorem atoi_below (s : ByteArray) (v : Int) (w : World) (hmax : s.size ≤ 9223372036854775806) (h : Lib.atoiAll s.data.toList = .ok v) : Calls Tryd.prog 48 #[.string s] w fun e w' => e = .returned (.tuple #[.int .i64 v, .nilIface]) ∧ Below w.heap.size w w' :=
  (Tryd.strconv_Atoi_ok s hmax v h w).mono fun e w' ⟨p, q⟩ => ⟨p, by rcases q with rfl | ⟨t, rfl⟩; exact Below.refl _ _; exact Lib.bytesWorld_below _ _ _⟩
theorem toL (l : List UInt8) : (⟨l.toArray⟩ : ByteArray).toList = l := by rw [ByteArray.toList_eq]
theorem str_ob (l : List UInt8) : ∃ s : ByteArray, ⟨l.toArray⟩ = s ∧ s.size = l.length ∧ s.toList = l ∧ s.data.toList = l := ⟨_, rfl, size_of_list l, toL l, by simp⟩
theorem posinf_sum (sg : Bool) : (9218868437227405312 : Int) % 9223372036854775808 + (if sg then (9223372036854775808 : Int) else 0) / 9223372036854775808 * 9223372036854775808 = if sg then 18442240474082181120 else 9218868437227405312 := by cases sg <;> rfl
set_option maxRecDepth 100000 in
set_option maxHeartbeats 4000000 in
theorem hRead (b : Int) (w : World) (h0 : 0 ≤ b) (h1 : b < 18446744073709551616) (k5 : wKind b ≠ 5) :
    Calls Tryd.prog 25 #[.string ⟨(txt b).toArray⟩] w fun e w' => e = .returned (.tuple #[.int .u64 b, .bool true]) ∧ Below w.heap.size w w' := by
  obtain ⟨c1, c2, c3⟩ := pre_cut b k5
  obtain ⟨S, eS, zS, lS, dS⟩ := str_ob (txt b)
  obtain ⟨Z, eZ, zZ, lZ, dZ⟩ := str_ob (sizeT b)
  obtain ⟨sg, hsg⟩ : ∃ s, decide (9223372036854775808 ≤ b) = s := ⟨_, rfl⟩
  rw [hsg] at c2
  rw [← dS] at c1 c2
  have C1 := Lib.hid c1
  have C2 := Lib.hid c2
  have EZ := Lib.hid eZ
  have HSG := Lib.hid hsg
  have DZ := Lib.hid dZ
  have N1 : (S.toList == [110, 97, 110]) = false := by rw [lS, beq_eq_false_iff_ne]; exact c3
  have sl := size_len b h0
  rw [eS]
  have KF := kind_facts b h0 h1
  clear c1 c2 c3 eS zS lS dS eZ dZ hsg
  by_cases k4 : wKind b = 4
  · have N2 : (Z.toList == [105, 110, 102]) = true := by rw [lZ]; unfold sizeT; rw [if_pos k4]; rfl
    have R : Hid ((if sg then (18442240474082181120 : Int) else 9218868437227405312) = b) := by
      show _ = _
      have := HSG.out
      cases sg <;> simp at this ⊢ <;> omega
    have V0 : ∀ s : Bool, 0 ≤ (if s then (9223372036854775808 : Int) else 0) ∧ (if s then (9223372036854775808 : Int) else 0) < 18446744073709551616 := by intro s; cases s <;> decide
    have HV := Lib.hid (V0 sg)
    have HS := Lib.hid (hSignOf sg)
    have PI := Lib.hid (posinf_sum sg)
    obtain ⟨vv, hvv⟩ : ∃ v : Int, (if sg then (9223372036854775808 : Int) else 0) = v := ⟨_, rfl⟩
    rw [hvv] at HV HS PI
    rw [R.out] at PI
    clear KF lZ V0 hvv R HSG
    go_enter Tryd.func25, Tryd.ntmps25
    go_wp2_with (first | (go_at_call 44; refine (cut_same _ _ _).mono ?_; rintro e w' ⟨rfl, rfl⟩; rw [show (⟨#[45]⟩ : ByteArray).data.toList = [45] from rfl, C1.out, C2.out, EZ.out]) | (go_at_call 46; refine (HS.out _).mono ?_; rintro e w' ⟨rfl, rfl⟩) | (go_at_call 45; refine (sign_same _ _ _ (by decide) (by decide) HV.out.1 HV.out.2).mono ?_; rintro e w' ⟨rfl, rfl⟩; rw [PI.out]))
    go_ret2
    exact ⟨rfl, Below.refl _ _⟩
  · by_cases k1 : wKind b = 1
    · have N2 : (Z.toList == [105, 110, 102]) = false := by rw [lZ]; unfold sizeT; rw [if_neg k4, if_pos k1]; decide
      have N3 : (Z.toList == [48]) = true := by rw [lZ]; unfold sizeT; rw [if_neg k4, if_pos k1]; rfl
      have R : Hid ((if sg then (9223372036854775808 : Int) else 0) = b) := by
        show _ = _
        have := HSG.out
        cases sg <;> simp at this ⊢ <;> omega
      have HS := Lib.hid (hSignOf sg)
      rw [R.out] at HS
      clear KF lZ R HSG
      go_enter Tryd.func25, Tryd.ntmps25
      go_wp2_with (first | (go_at_call 44; refine (cut_same _ _ _).mono ?_; rintro e w' ⟨rfl, rfl⟩; rw [show (⟨#[45]⟩ : ByteArray).data.toList = [45] from rfl, C1.out, C2.out, EZ.out]) | (go_at_call 46; refine (HS.out _).mono ?_; rintro e w' ⟨rfl, rfl⟩))
      go_ret2
      exact ⟨rfl, Below.refl _ _⟩
    · have hk : wKind b = 2 ∨ wKind b = 3 := by have := kind_cases b; omega
      obtain ⟨m0, mN⟩ := mant_pos b hk
      obtain ⟨_, m1, p0, p1⟩ := mant_bd b
      obtain ⟨M, hM⟩ : ∃ M : Nat, wMant b = (M : Int) := ⟨(wMant b).toNat, by omega⟩
      have hMn : (wMant b).toNat = M := by omega
      obtain ⟨z, hz⟩ : ∃ z, Lib.ctz 64 M = z := ⟨_, rfl⟩
      have hzl : z ≤ 64 := by rw [← hz]; exact ctz_le M (by omega)
      obtain ⟨A, hA⟩ : ∃ A, M / 2 ^ z = A := ⟨_, rfl⟩
      have hMA : M = 2 ^ z * A := by have := ctz_split M (by omega) (by omega); rw [hz, hA] at this; exact this
      have A0 : 0 < A := by
        rcases Nat.eq_zero_or_pos A with h | h
        · rw [h, Nat.mul_zero] at hMA; omega
        · exact h
      have A1 : A ≤ M := by rw [← hA]; exact Nat.div_le_self _ _
      obtain ⟨P, hP⟩ : ∃ P, wPow b = P := ⟨_, rfl⟩
      have eT : sizeT b = hxD A ++ [112] ++ Lib.itoa (P + (z : Int)) := by
        unfold sizeT zB
        rw [if_neg k4, if_neg k1, hMn, hz, hA, hP]
      have p112 : (112 : UInt8) ∈ sizeT b := by rw [eT]; simp
      have N2 : (Z.toList == [105, 110, 102]) = false := by rw [lZ, beq_eq_false_iff_ne]; intro e; rw [e] at p112; exact absurd p112 (by decide)
      have N3 : (Z.toList == [48]) = false := by rw [lZ, beq_eq_false_iff_ne]; intro e; rw [e] at p112; exact absurd p112 (by decide)
      have B := Lib.hid (fun W => hBuild b M z A P W h0 h1 hk hM hP A0 hMA)
      rw [HSG.out] at B
      have l1 := hxD_len64 A (by omega)
      have l2 := itoa_len (P + (z : Int)) (by omega) (by omega)
      have CU := Lib.hid (fun W => hCut (hxD A) (Lib.itoa (P + (z : Int))) W (fun m => (hxD_mem _ _ m).1 rfl) (by omega) (by omega))
      rw [← eT, EZ.out] at CU
      have WH := Lib.hid (fun W => hWhole (hxD A) W (hxD_hex A) l1)
      rw [hval_hxD] at WH
      obtain ⟨F, eF, zF, lF, dF⟩ := str_ob (hxD A)
      obtain ⟨G, eG, zG, lG, dG⟩ := str_ob (Lib.itoa (P + (z : Int)))
      rw [eF, eG] at CU
      rw [eF] at WH
      obtain ⟨X, hX⟩ : ∃ X, P + (z : Int) = X := ⟨_, rfl⟩
      have AT : Hid (Lib.atoiAll G.data.toList = .ok X) := by show _ = _; rw [dG, hX]; exact atoi_itoa X (by omega) (by omega)
      rw [hX] at B
      clear KF lZ eT p112 hX eF zF lF dF eG lG dG l1 hMA hA hz hM hMn hP m0 mN k1 k4 hk k5 HSG
      go_enter Tryd.func25, Tryd.ntmps25
      go_wp2_with (first | (go_at_call 44; refine (cut_same _ _ _).mono ?_; rintro e w' ⟨rfl, rfl⟩; rw [show (⟨#[45]⟩ : ByteArray).data.toList = [45] from rfl, C1.out, C2.out, EZ.out]) | (go_at_call 47; refine (CU.out _).mono ?_; rintro e w1 ⟨rfl, hb1⟩) | (go_at_call 48; refine (atoi_below G X _ (by omega) AT.out).mono ?_; rintro e w2 ⟨rfl, hb2⟩) | (go_at_call 49; refine (WH.out _).mono ?_; rintro e w3 ⟨rfl, hb3⟩) | (go_at_call 50; refine (B.out _).mono ?_; rintro e w' ⟨rfl, rfl⟩))
      go_ret2
      exact ⟨rfl, bstep (bstep hb1 hb2) hb3⟩
end Go.Proofs.YtaamonmkfgonmaaDoor
