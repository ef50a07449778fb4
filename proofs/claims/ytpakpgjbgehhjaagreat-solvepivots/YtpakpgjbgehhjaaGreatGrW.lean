/-
  Texts put together: SolA.
-/
import Derived.Test.YtpakpgjbgehhjaaGreatProg
import Derived.Test.YtpakpgjbgehhjaaGreatGrS
import Derived.Laws.EntriesVeiled
/-
  What solve's fits, triangleOf and gather return, with any Calc. Conditions: a square matrix that is right; the list lies beside the Calc.
-/
namespace Go.Proofs.YtpakpgjbgehhjaaGreat
open Go.RowKit
set_option linter.unusedVariables false
set_option linter.unusedSimpArgs false

theorem sFitsOk (C S : Nat) (a : Option Addr) (len cap : Nat) (ax : Option Addr) (cx : Nat) (w : World) (h : Rgt (C : Int) (C : Int) (S : Int) len) (hl : (len : Int) ≤ 9223372036854775807) :
    Calls Tryz.prog 28 #[.agg #[.int .i64 (C : Int), .int .i64 (C : Int), .int .i64 (S : Int), .slice a len cap], .slice ax C cx] w fun e w' => e = .returned (.bool true) ∧ Below w.heap.size w w' := by
  have HH : Hid (Rgt (C : Int) (C : Int) (S : Int) len) := h
  clear h
  go_enter Tryz.func28, Tryz.ntmps28
  go_wp2_with fail
  have mM := MBox.made w (C : Int) (C : Int) (S : Int) (.slice a len cap)
  have b0 : Below w.heap.size w (w.alloc (.cells #[.int .i64 (C : Int), .int .i64 (C : Int), .int .i64 (S : Int), .slice a len cap] 25)) := (Below.refl _ _).alloc (Nat.le_refl _) _
  generalize (w.alloc (.cells #[.int .i64 (C : Int), .int .i64 (C : Int), .int .i64 (S : Int), .slice a len cap] 25)) = W0 at mM b0 ⊢
  refine (mCheckOk C C S _ _ _ W0 HH.out hl).mono ?_
  rintro e w1 ⟨rfl, hb1⟩
  have M1 : Hid (MBox _ _ _ _ _ _) := mM.below hb1
  have B1 : Hid (Below w.heap.size w w1) := bstep b0 hb1
  obtain ⟨q0, q1, q2, q3, q4⟩ := M1.out
  clear hb1 b0 mM
  go_wp2
  go_ret
  exact ⟨ret_eq rfl, B1.out⟩
/-- A matrix variable and two functions behind it: a triangle's six cells. -/
def TBox (w : World) (b : Nat) (C S : Int) (s u v : Value) : Prop := w.cell? ⟨b, 0, none⟩ = some (.int .i64 C) ∧ w.cell? ⟨b, 1, none⟩ = some (.int .i64 C) ∧ w.cell? ⟨b, 2, none⟩ = some (.int .i64 S) ∧ w.cell? ⟨b, 3, none⟩ = some s ∧ w.cell? ⟨b, 4, none⟩ = some u ∧ w.cell? ⟨b, 5, none⟩ = some v ∧ b < w.heap.size
theorem TBox.below {w w' : World} {b : Nat} {C S : Int} {s u v : Value} (h : TBox w b C S s u v) (hb : Below w.heap.size w w') : TBox w' b C S s u v := by
  obtain ⟨h0, h1, h2, h3, h4, h5, h6⟩ := h
  exact ⟨(hb.cell (p := ⟨b, 0, none⟩) h6).trans h0, (hb.cell (p := ⟨b, 1, none⟩) h6).trans h1, (hb.cell (p := ⟨b, 2, none⟩) h6).trans h2, (hb.cell (p := ⟨b, 3, none⟩) h6).trans h3, (hb.cell (p := ⟨b, 4, none⟩) h6).trans h4, (hb.cell (p := ⟨b, 5, none⟩) h6).trans h5, Nat.lt_of_lt_of_le h6 hb.size⟩
theorem TBox.bes {w w' : World} {c : Option Nat} {b : Nat} {C S : Int} {s u v : Value} (h : TBox w b C S s u v) (hb : Bes c w w') (hc : c ≠ some b) : TBox w' b C S s u v := by
  obtain ⟨h0, h1, h2, h3, h4, h5, h6⟩ := h
  exact ⟨(hb.cell (p := ⟨b, 0, none⟩) h6 hc).trans h0, (hb.cell (p := ⟨b, 1, none⟩) h6 hc).trans h1, (hb.cell (p := ⟨b, 2, none⟩) h6 hc).trans h2, (hb.cell (p := ⟨b, 3, none⟩) h6 hc).trans h3, (hb.cell (p := ⟨b, 4, none⟩) h6 hc).trans h4, (hb.cell (p := ⟨b, 5, none⟩) h6 hc).trans h5, Nat.lt_of_lt_of_le h6 hb.size⟩
theorem TBox.made (w : World) (C S : Int) (s u v : Value) : TBox (w.alloc (.cells #[.int .i64 C, .int .i64 C, .int .i64 S, s, u, v] 62)) w.heap.size C S s u v := by
  refine ⟨?_, ?_, ?_, ?_, ?_, ?_, by simp⟩ <;> simp [go_sem]
theorem sBesideL (i : Nat) (w : World) : Calls Tryz.prog 59 #[.int .i64 (i : Int)] w fun e w' => e = .returned (.tuple #[.int .i64 0, .int .i64 (i : Int)]) ∧ w' = w := by
  go_enter Tryz.func59, Tryz.ntmps59
  go_wp2
  go_ret2
  exact ⟨rfl, rfl⟩
theorem sRowL (i : Nat) (w : World) : Calls Tryz.prog 60 #[.int .i64 (i : Int)] w fun e w' => e = .returned (.int .i64 (i : Int)) ∧ w' = w := by
  go_enter Tryz.func60, Tryz.ntmps60
  go_wp2
  go_ret
  exact ⟨ret_eq rfl, rfl⟩
theorem sRowU (i C j : Nat) (kb : Nat) (w : World) (hC : w.cell? ⟨kb, 0, none⟩ = some (.int .i64 (C : Int))) (hC4 : C ≤ 4096) (hi : i + j + 1 = C) : Calls Tryz.prog 58 #[.int .i64 (i : Int), .pointer (some ⟨kb, 0, none⟩)] w fun e w' => e = .returned (.int .i64 (j : Int)) ∧ w' = w := by
  have hw1 : IntKind.i64.wrap ((C : Int) - 1) = (C : Int) - 1 := by rw [IntKind.wrap_i64]; omega
  have hw2 : (C : Int) - 1 - (i : Int) = (j : Int) := by omega
  have hw3 : IntKind.i64.wrap (j : Int) = (j : Int) := by rw [IntKind.wrap_i64]; omega
  go_enter Tryz.func58, Tryz.ntmps58
  go_wp2
  go_ret
  exact ⟨ret_eq rfl, rfl⟩
theorem sBesideU (i C : Nat) (kb : Nat) (w : World) (hC : w.cell? ⟨kb, 1, none⟩ = some (.int .i64 (C : Int))) (hC4 : C ≤ 4096) (hi : i < C) : Calls Tryz.prog 57 #[.int .i64 (i : Int), .pointer (some ⟨kb, 0, none⟩)] w fun e w' => e = .returned (.tuple #[.int .i64 ((i + 1 : Nat) : Int), .int .i64 (C : Int)]) ∧ Below w.heap.size w w' := by
  have hw1 : IntKind.i64.wrap ((i : Int) + 1) = ((i + 1 : Nat) : Int) := by rw [IntKind.wrap_i64]; omega
  obtain ⟨I, hI⟩ : ∃ I, I = i + 1 := ⟨_, rfl⟩
  rw [← hI] at hw1 ⊢
  have hw2 : (i : Int) + 1 = (I : Int) := by omega
  have hw3 : IntKind.i64.wrap (I : Int) = (I : Int) := by rw [IntKind.wrap_i64]; omega
  clear hI
  go_enter Tryz.func57, Tryz.ntmps57
  go_wp2_with fail
  go_region_held3 (fun w' => w'.cell? ⟨kb, 1, none⟩ = some (.int .i64 (C : Int))) (simp [go_sem, *]) (fail)
  go_wp2
  go_ret2
  exact ⟨rfl, (Below.refl _ _).drew⟩
/-- From a number on, n products from column b on are joined to it; and the flags. -/
def gatV (J : Int → Int → Int × Int) (f : Int) (A X : Nat → Int) (b : Nat) : Nat → Int
  | 0 => f
  | n + 1 => (J (gatV J f A X b n) (mulS (A (b + n)) (X (b + n))).1).1
def gatF (J : Int → Int → Int × Int) (F f : Int) (A X : Nat → Int) (b : Nat) : Nat → Int
  | 0 => F
  | n + 1 => bits .or .u8 (bits .or .u8 (gatF J F f A X b n) (mulS (A (b + n)) (X (b + n))).2) (J (gatV J f A X b n) (mulS (A (b + n)) (X (b + n))).1).2
set_option maxHeartbeats 2000000 in
theorem sTriL (C S : Nat) (a : Option Addr) (len cap : Nat) (w : World) :
    Calls Tryz.prog 30 #[.agg #[.int .i64 (C : Int), .int .i64 (C : Int), .int .i64 (S : Int), .slice a len cap], .bool false] w fun e w' => ∃ kb, e = .returned (.agg #[.int .i64 (C : Int), .int .i64 (C : Int), .int .i64 (S : Int), .slice a len cap, .func (.func 59) #[] #[], .func (.func 60) #[] #[]]) ∧ MBox w' kb (C : Int) (C : Int) (S : Int) (.slice a len cap) ∧ w.heap.size ≤ kb ∧ Below w.heap.size w w' := by
  go_enter Tryz.func30, Tryz.ntmps30
  go_wp2
  refine bodyPost_ret (v := .agg #[.int .i64 (C : Int), .int .i64 (C : Int), .int .i64 (S : Int), .slice a len cap, .func (.func 59) #[] #[], .func (.func 60) #[] #[]]) (by simp [results, Tryz.results30, go_sem]) rfl ?_
  have h1 := (MBox.made w (C : Int) (C : Int) (S : Int) (.slice a len cap)).below ((Below.refl _ _).alloc (Nat.le_refl _) (.cells #[.int .i64 (C : Int), .int .i64 (C : Int), .int .i64 (S : Int), .slice a len cap, .func (.func 59) #[] #[], .func (.func 60) #[] #[]] 62))
  first | exact ⟨w.heap.size, rfl, h1, Nat.le_refl _, bmore (bmore (Below.refl _ _) _) _⟩ | exact ⟨rfl, w.heap.size, h1, Nat.le_refl _, bmore (bmore (Below.refl _ _) _) _⟩
set_option maxHeartbeats 2000000 in
theorem sTriU (C S : Nat) (a : Option Addr) (len cap : Nat) (w : World) :
    Calls Tryz.prog 30 #[.agg #[.int .i64 (C : Int), .int .i64 (C : Int), .int .i64 (S : Int), .slice a len cap], .bool true] w fun e w' => ∃ kb, e = .returned (.agg #[.int .i64 (C : Int), .int .i64 (C : Int), .int .i64 (S : Int), .slice a len cap, .func (.func 57) #[] #[.pointer (some ⟨kb, 0, none⟩)], .func (.func 58) #[] #[.pointer (some ⟨kb, 0, none⟩)]]) ∧ MBox w' kb (C : Int) (C : Int) (S : Int) (.slice a len cap) ∧ w.heap.size ≤ kb ∧ Below w.heap.size w w' := by
  go_enter Tryz.func30, Tryz.ntmps30
  go_wp2
  refine bodyPost_ret (v := .agg #[.int .i64 (C : Int), .int .i64 (C : Int), .int .i64 (S : Int), .slice a len cap, .func (.func 57) #[] #[.pointer (some ⟨w.heap.size, 0, none⟩)], .func (.func 58) #[] #[.pointer (some ⟨w.heap.size, 0, none⟩)]]) (by simp [results, Tryz.results30, go_sem]) rfl ?_
  have h1 := (MBox.made w (C : Int) (C : Int) (S : Int) (.slice a len cap)).below ((Below.refl _ _).alloc (Nat.le_refl _) (.cells #[.int .i64 (C : Int), .int .i64 (C : Int), .int .i64 (S : Int), .slice a len cap, .func (.func 57) #[] #[.pointer (some ⟨w.heap.size, 0, none⟩)], .func (.func 58) #[] #[.pointer (some ⟨w.heap.size, 0, none⟩)]] 62))
  first | exact ⟨w.heap.size, rfl, h1, Nat.le_refl _, bmore (bmore (Below.refl _ _) _) _⟩ | exact ⟨rfl, w.heap.size, h1, Nat.le_refl _, bmore (bmore (Below.refl _ _) _) _⟩
theorem flip_rng (b : Int) (h0 : 0 ≤ b) (h1 : b < 18446744073709551616) : 0 ≤ wFlip b ∧ wFlip b < 18446744073709551616 := by unfold wFlip; omega
def subS (a b : Int) : Int × Int := addS a (wFlip b)
theorem gatV_rngS (f : Int) (A X : Nat → Int) (b n : Nat) (f0 : 0 ≤ f) (f1 : f < 18446744073709551616) : 0 ≤ gatV subS f A X b n ∧ gatV subS f A X b n < 18446744073709551616 := by
  induction n with
  | zero => exact ⟨f0, f1⟩
  | succ k ih =>
    have m := mulS_rng (A (b + k)) (X (b + k))
    have g := flip_rng _ m.1 m.2
    have := addS_bd _ _ ih.1 ih.2 g.1 g.2
    exact ⟨this.1, this.2.1⟩
set_option maxHeartbeats 4000000 in
set_option maxRecDepth 100000 in
theorem sGatLS (p : Value) (c : Option Nat) (F : Int) (C S : Nat) (a : Option Addr) (len cap : Nat) (Z : Nat → Int) (i : Nat) (f : Int) (ax : Option Addr) (n2 cx : Nat) (X : Nat → Int) (w : World) (hc : IsCalc w p c F) (h : Rgt (C : Int) (C : Int) (S : Int) len) (hz : URow w a len cap Z) (az : Apt c a len) (hx : URow w ax n2 cx X) (axx : Apt c ax n2) (hi : i < C) (hn2 : C ≤ n2) (f0 : 0 ≤ f) (f1 : f < 18446744073709551616) :
    Calls Tryz.prog 31 #[.agg #[.int .i64 (C : Int), .int .i64 (C : Int), .int .i64 (S : Int), .slice a len cap, .func (.func 59) #[] #[], .func (.func 60) #[] #[]], p, .int .i64 (i : Int), .int .u64 f, .slice ax n2 cx, .func (.func 32) #[p] #[]] w fun e w' => e = .returned (.int .u64 (gatV subS f (fun k => Z (i * S + k)) X 0 i)) ∧ IsCalc w' p c (gatF subS F f (fun k => Z (i * S + k)) X 0 i) ∧ Bes c w w' := by
  have HC : Hid (IsCalc w p c F) := hc
  have HZ : Hid (URow w a len cap Z) := hz
  have AZ : Hid (Apt c a len) := az
  have HX : Hid (URow w ax n2 cx X) := hx
  have AX : Hid (Apt c ax n2) := axx
  have HH : Hid (Rgt (C : Int) (C : Int) (S : Int) len) := h
  obtain ⟨lb, cb⟩ := hz.lenB
  obtain ⟨lbx, cbx⟩ := hx.lenB
  have c1 : (C : Int) ≤ 4096 := h.2.2.2.1
  have hci : (i : Int) < (C : Int) := by omega
  clear hc hz hx h az axx
  obtain ⟨A, hA⟩ : ∃ A : Nat → Int, A = fun k => Z (i * S + k) := ⟨_, rfl⟩
  have HA : Hid (∀ k, Z (i * S + k) = A k) := by rw [hA]; exact fun _ => rfl
  rw [← hA]
  clear hA
  have HBN : Hid (0 + i = i) := Nat.zero_add i
  go_enter Tryz.func31, Tryz.ntmps31
  go_wp2_with fail
  have mT := TBox.made w (C : Int) (S : Int) (.slice a len cap) (.func (.func 59) #[] #[]) (.func (.func 60) #[] #[])
  have b0 : Below w.heap.size w (w.alloc (.cells #[.int .i64 (C : Int), .int .i64 (C : Int), .int .i64 (S : Int), .slice a len cap, .func (.func 59) #[] #[], .func (.func 60) #[] #[]] 62)) := bmore (Below.refl _ _) _
  generalize (w.alloc (.cells #[.int .i64 (C : Int), .int .i64 (C : Int), .int .i64 (S : Int), .slice a len cap, .func (.func 59) #[] #[], .func (.func 60) #[] #[]] 62)) = W0 at mT b0 ⊢
  obtain ⟨kt, hkt⟩ : ∃ k, k = w.heap.size := ⟨_, rfl⟩
  rw [← hkt] at mT ⊢
  have NKT : Hid (c ≠ some kt) := fun e => by have := HC.out.lt _ e; omega
  clear hkt
  refine (sBesideL i W0).mono ?_
  rintro e w1 ⟨rfl, hw1⟩
  have hb1 : Below W0.heap.size W0 w1 := by rw [hw1]; exact Below.refl _ _
  clear hw1
  have T1 : Hid (TBox w1 kt (C : Int) (S : Int) (.slice a len cap) (.func (.func 59) #[] #[]) (.func (.func 60) #[] #[])) := mT.below hb1
  have B1 : Hid (Bes c w w1) := Bes.of (bstep b0 hb1)
  have C1 : Hid (IsCalc w1 p c F) := HC.out.later (bstep b0 hb1)
  clear mT b0 hb1
  go_wp2
  go_loopw [13, 16] (fun s j wr => ∃ n K : Nat, s = .int .u64 (gatV subS f A X 0 n) ∧ j = .int .i64 (K : Int) ∧ n ≤ i ∧ K = 0 + n ∧ Hid (IsCalc wr p c (gatF subS F f A X 0 n)) ∧ Hid (Bes c w wr) ∧ Hid (TBox wr kt (C : Int) (S : Int) (.slice a len cap) (.func (.func 59) #[] #[]) (.func (.func 60) #[] #[]))) (fun _ j _ => i - (intOf j).toNat)
  case atStart => exact ⟨0, 0, rfl, rfl, Nat.zero_le _, rfl, C1, B1, T1⟩
  case round =>
    clear C1 B1 T1
    obtain ⟨n, K, rfl, rfl, hn, hK, Cc, B, T⟩ := hrel
    have HK : Hid (K = 0 + n) := hK
    by_cases hlt : (K : Int) < (i : Int)
    · have hKC : (K : Int) < (C : Int) := by have := HBN.out; omega
      have hKn : K < n2 := by omega
      have hnN : n + 1 ≤ i := by have := HBN.out; omega
      obtain ⟨_, _, zx, fx⟩ := HX.out.bes B.out AX.out
      obtain ⟨b2, o2, rfl, l2, e2⟩ := fx (by omega)
      have q2 := e2 K hKn
      obtain ⟨x0, x1⟩ := zx K
      have A2c : Hid (c ≠ some b2) := AX.out (by omega) b2 o2 none rfl
      clear zx fx e2
      obtain ⟨y0, y1⟩ := HZ.out.2.2.1 (i * S + K)
      have hzA := HA.out K
      obtain ⟨g0, g1⟩ := gatV_rngS f A X 0 n f0 f1
      have SV : Hid ((addS (gatV subS f A X 0 n) (wFlip (mulS (A K) (X K)).1)).1 = gatV subS f A X 0 (n + 1)) := by rw [hK]; rfl
      have SF : Hid (bits .or .u8 (bits .or .u8 (gatF subS F f A X 0 n) (mulS (A K) (X K)).2) (addS (gatV subS f A X 0 n) (wFlip (mulS (A K) (X K)).1)).2 = gatF subS F f A X 0 (n + 1)) := by rw [hK]; rfl
      obtain ⟨m0, m1⟩ := mulS_rng (A K) (X K)
      obtain ⟨x, hx⟩ : ∃ x, X K = x := ⟨_, rfl⟩
      obtain ⟨y, hy⟩ : ∃ y, Z (i * S + K) = y := ⟨_, rfl⟩
      obtain ⟨d, hd⟩ : ∃ d, gatV subS f A X 0 n = d := ⟨_, rfl⟩
      obtain ⟨F1, hF⟩ : ∃ d, gatF subS F f A X 0 n = d := ⟨_, rfl⟩
      rw [hy] at hzA y0 y1
      rw [← hzA] at SV SF m0 m1
      rw [hx] at q2 x0 x1 SV SF m0 m1
      rw [hd] at g0 g1 SV SF ⊢
      rw [hF] at Cc SF
      obtain ⟨M, hM⟩ : ∃ M, mulS y x = M := ⟨_, rfl⟩
      rw [hM] at SV SF m0 m1
      have HM : Hid (_ = _) := hM
      have HY : Hid (_ = _) := hy
      clear hx hy hd hF hM hzA hK
      obtain ⟨m, fm⟩ := M
      simp only at SV SF m0 m1
      obtain ⟨k0, k1, k2, k3, k4, k5, k6⟩ := T.out
      have ct : Cnt 1 := Cnt.mk _
      go_wp2_with fail
      go_region_held3 (fun w' => (w'.cell? ⟨kt, 0, none⟩ = some (.int .i64 (C : Int)) ∧ w'.cell? ⟨kt, 1, none⟩ = some (.int .i64 (C : Int)) ∧ w'.cell? ⟨kt, 2, none⟩ = some (.int .i64 (S : Int)) ∧ w'.cell? ⟨kt, 3, none⟩ = some (.slice a len cap)) ∧ w'.cell? ⟨b2, o2 + K, none⟩ = some (.int .u64 x)) (simp [go_sem, *]) (first | (have ck : Cnt 1 := ct; go_at_call 13; refine (mAtN C C S a len cap Z i K _ HH.out (by first | exact HZ.out.bes B.out AZ.out | exact HZ.out.bes B.out.drew AZ.out) hi (by omega)).mono ?_; rintro e wa ⟨rfl, hB⟩; rw [HY.out]; have hB1 : Below wr.heap.size wr wa := (by first | exact hB | exact ((Below.refl _ _).drew).trans hB); have C2 : Hid (IsCalc wa p c F1) := Cc.out.later hB1; have B2 : Hid (Bes c w wa) := B.out.step hB1; have T2 : Hid (TBox wa _ _ _ _ _ _) := T.out.below hB1; obtain ⟨k0a, k1a, k2a, k3a, k4a, k5a, k6a⟩ := T2.out; replace q2 := (hB1.cell (p := ⟨b2, o2 + K, none⟩) l2).trans q2; replace l2 := Nat.lt_of_lt_of_le l2 hB1.size; replace ct : Cnt 2 := Cnt.mk _; clear hB hB1 ck) | (have ck : Cnt 2 := ct; go_at_call 61; refine (uMul p c y x F1 _ (by first | exact C2.out | exact C2.out.drew) y0 y1 x0 x1).mono ?_; rintro e wb ⟨rfl, hC_, hB⟩; rw [HM.out] at hC_ ⊢; have hB1 : Bes c wa wb := (by first | exact hB | exact ((Bes.refl _ _).drew).trans hB); have C3 : Hid (IsCalc wb p c _) := hC_; have B3 : Hid (Bes c w wb) := B2.out.trans hB1; have T3 : Hid (TBox wb _ _ _ _ _ _) := T2.out.bes hB1 NKT.out; obtain ⟨k0b, k1b, k2b, k3b, k4b, k5b, k6b⟩ := T3.out; replace q2 := (hB1.cell (p := ⟨b2, o2 + K, none⟩) l2 A2c.out).trans q2; replace l2 := Nat.lt_of_lt_of_le l2 hB1.size; replace ct : Cnt 3 := Cnt.mk _; clear hB hB1 hC_ ck) | (have ck : Cnt 3 := ct; go_at_call 32; refine (uSub p c d m _ _ (by first | exact C3.out | exact C3.out.drew) g0 g1 m0 m1).mono ?_; rintro e wc ⟨rfl, hC_, hB⟩; rw [SV.out]; rw [SF.out] at hC_; have hB1 : Bes c wb wc := (by first | exact hB | exact ((Bes.refl _ _).drew).trans hB); have C4 : Hid (IsCalc wc p c _) := hC_; have B4 : Hid (Bes c w wc) := B3.out.trans hB1; have T4 : Hid (TBox wc _ _ _ _ _ _) := T3.out.bes hB1 NKT.out; obtain ⟨k0c, k1c, k2c, k3c, k4c, k5c, k6c⟩ := T4.out; replace q2 := (hB1.cell (p := ⟨b2, o2 + K, none⟩) l2 A2c.out).trans q2; replace ct : Cnt 4 := Cnt.mk _; clear hB hB1 hC_ ck))
      clear ct q2
      go_wp2
      go_roundw
      case rel => exact ⟨n + 1, K + 1, rfl, by go_num, hnN, by have := HK.out; omega, C4, B4, T4⟩
      case measure => simp [intOf]; omega
    · obtain rfl : n = i := by have := HBN.out; omega
      go_wp2
      go_ret
      exact ⟨ret_eq rfl, Cc.out, B.out⟩
set_option maxHeartbeats 4000000 in
set_option maxRecDepth 100000 in
theorem sGatUS (p : Value) (c : Option Nat) (F : Int) (C S : Nat) (a : Option Addr) (len cap : Nat) (Z : Nat → Int) (i : Nat) (f : Int) (ax : Option Addr) (n2 cx : Nat) (X : Nat → Int) (kb : Nat) (w : World) (hc : IsCalc w p c F) (hk : MBox w kb (C : Int) (C : Int) (S : Int) (.slice a len cap)) (h : Rgt (C : Int) (C : Int) (S : Int) len) (hz : URow w a len cap Z) (az : Apt c a len) (hx : URow w ax n2 cx X) (axx : Apt c ax n2) (hi : i < C) (hn2 : C ≤ n2) (f0 : 0 ≤ f) (f1 : f < 18446744073709551616) :
    Calls Tryz.prog 31 #[.agg #[.int .i64 (C : Int), .int .i64 (C : Int), .int .i64 (S : Int), .slice a len cap, .func (.func 57) #[] #[.pointer (some ⟨kb, 0, none⟩)], .func (.func 58) #[] #[.pointer (some ⟨kb, 0, none⟩)]], p, .int .i64 (i : Int), .int .u64 f, .slice ax n2 cx, .func (.func 32) #[p] #[]] w fun e w' => e = .returned (.int .u64 (gatV subS f (fun k => Z (i * S + k)) X (i + 1) (C - (i + 1)))) ∧ IsCalc w' p c (gatF subS F f (fun k => Z (i * S + k)) X (i + 1) (C - (i + 1))) ∧ Bes c w w' := by
  have HC : Hid (IsCalc w p c F) := hc
  have HZ : Hid (URow w a len cap Z) := hz
  have AZ : Hid (Apt c a len) := az
  have HX : Hid (URow w ax n2 cx X) := hx
  have AX : Hid (Apt c ax n2) := axx
  have HH : Hid (Rgt (C : Int) (C : Int) (S : Int) len) := h
  obtain ⟨lb, cb⟩ := hz.lenB
  obtain ⟨lbx, cbx⟩ := hx.lenB
  have c1 : (C : Int) ≤ 4096 := h.2.2.2.1
  have hci : (i : Int) < (C : Int) := by omega
  clear hc hz hx h az axx
  have HK2 : Hid (MBox w kb (C : Int) (C : Int) (S : Int) (.slice a len cap)) := hk
  clear hk
  obtain ⟨A, hA⟩ : ∃ A : Nat → Int, A = fun k => Z (i * S + k) := ⟨_, rfl⟩
  have HA : Hid (∀ k, Z (i * S + k) = A k) := by rw [hA]; exact fun _ => rfl
  rw [← hA]
  clear hA
  obtain ⟨b, hb⟩ : ∃ b, b = i + 1 := ⟨_, rfl⟩
  obtain ⟨N, hN⟩ : ∃ N, N = C - (i + 1) := ⟨_, rfl⟩
  have HBN : Hid (b + N = C) := by show _ = _; omega
  rw [← hN, ← hb]
  have HBB : Hid (_ = _) := hb
  clear hN hb
  go_enter Tryz.func31, Tryz.ntmps31
  go_wp2_with fail
  have mT := TBox.made w (C : Int) (S : Int) (.slice a len cap) (.func (.func 57) #[] #[.pointer (some ⟨kb, 0, none⟩)]) (.func (.func 58) #[] #[.pointer (some ⟨kb, 0, none⟩)])
  have b0 : Below w.heap.size w (w.alloc (.cells #[.int .i64 (C : Int), .int .i64 (C : Int), .int .i64 (S : Int), .slice a len cap, .func (.func 57) #[] #[.pointer (some ⟨kb, 0, none⟩)], .func (.func 58) #[] #[.pointer (some ⟨kb, 0, none⟩)]] 62)) := bmore (Below.refl _ _) _
  generalize (w.alloc (.cells #[.int .i64 (C : Int), .int .i64 (C : Int), .int .i64 (S : Int), .slice a len cap, .func (.func 57) #[] #[.pointer (some ⟨kb, 0, none⟩)], .func (.func 58) #[] #[.pointer (some ⟨kb, 0, none⟩)]] 62)) = W0 at mT b0 ⊢
  obtain ⟨kt, hkt⟩ : ∃ k, k = w.heap.size := ⟨_, rfl⟩
  rw [← hkt] at mT ⊢
  have NKT : Hid (c ≠ some kt) := fun e => by have := HC.out.lt _ e; omega
  clear hkt
  refine (sBesideU i C kb W0 ((b0.cell (p := ⟨kb, 1, none⟩) HK2.out.2.2.2.2).trans HK2.out.2.1) (by omega) hi).mono ?_
  rintro e w1 ⟨rfl, hb1⟩
  have T1 : Hid (TBox w1 kt (C : Int) (S : Int) (.slice a len cap) (.func (.func 57) #[] #[.pointer (some ⟨kb, 0, none⟩)]) (.func (.func 58) #[] #[.pointer (some ⟨kb, 0, none⟩)])) := mT.below hb1
  have B1 : Hid (Bes c w w1) := Bes.of (bstep b0 hb1)
  have C1 : Hid (IsCalc w1 p c F) := HC.out.later (bstep b0 hb1)
  clear mT b0 hb1
  rw [← HBB.out]
  go_wp2
  go_loopw [13, 16] (fun s j wr => ∃ n K : Nat, s = .int .u64 (gatV subS f A X b n) ∧ j = .int .i64 (K : Int) ∧ n ≤ N ∧ K = b + n ∧ Hid (IsCalc wr p c (gatF subS F f A X b n)) ∧ Hid (Bes c w wr) ∧ Hid (TBox wr kt (C : Int) (S : Int) (.slice a len cap) (.func (.func 57) #[] #[.pointer (some ⟨kb, 0, none⟩)]) (.func (.func 58) #[] #[.pointer (some ⟨kb, 0, none⟩)]))) (fun _ j _ => C - (intOf j).toNat)
  case atStart => exact ⟨0, b, rfl, rfl, Nat.zero_le _, rfl, C1, B1, T1⟩
  case round =>
    clear C1 B1 T1
    obtain ⟨n, K, rfl, rfl, hn, hK, Cc, B, T⟩ := hrel
    have HK : Hid (K = b + n) := hK
    by_cases hlt : (K : Int) < (C : Int)
    · have hKC : (K : Int) < (C : Int) := by have := HBN.out; omega
      have hKn : K < n2 := by omega
      have hnN : n + 1 ≤ N := by have := HBN.out; omega
      obtain ⟨_, _, zx, fx⟩ := HX.out.bes B.out AX.out
      obtain ⟨b2, o2, rfl, l2, e2⟩ := fx (by omega)
      have q2 := e2 K hKn
      obtain ⟨x0, x1⟩ := zx K
      have A2c : Hid (c ≠ some b2) := AX.out (by omega) b2 o2 none rfl
      clear zx fx e2
      obtain ⟨y0, y1⟩ := HZ.out.2.2.1 (i * S + K)
      have hzA := HA.out K
      obtain ⟨g0, g1⟩ := gatV_rngS f A X b n f0 f1
      have SV : Hid ((addS (gatV subS f A X b n) (wFlip (mulS (A K) (X K)).1)).1 = gatV subS f A X b (n + 1)) := by rw [hK]; rfl
      have SF : Hid (bits .or .u8 (bits .or .u8 (gatF subS F f A X b n) (mulS (A K) (X K)).2) (addS (gatV subS f A X b n) (wFlip (mulS (A K) (X K)).1)).2 = gatF subS F f A X b (n + 1)) := by rw [hK]; rfl
      obtain ⟨m0, m1⟩ := mulS_rng (A K) (X K)
      obtain ⟨x, hx⟩ : ∃ x, X K = x := ⟨_, rfl⟩
      obtain ⟨y, hy⟩ : ∃ y, Z (i * S + K) = y := ⟨_, rfl⟩
      obtain ⟨d, hd⟩ : ∃ d, gatV subS f A X b n = d := ⟨_, rfl⟩
      obtain ⟨F1, hF⟩ : ∃ d, gatF subS F f A X b n = d := ⟨_, rfl⟩
      rw [hy] at hzA y0 y1
      rw [← hzA] at SV SF m0 m1
      rw [hx] at q2 x0 x1 SV SF m0 m1
      rw [hd] at g0 g1 SV SF ⊢
      rw [hF] at Cc SF
      obtain ⟨M, hM⟩ : ∃ M, mulS y x = M := ⟨_, rfl⟩
      rw [hM] at SV SF m0 m1
      have HM : Hid (_ = _) := hM
      have HY : Hid (_ = _) := hy
      clear hx hy hd hF hM hzA hK
      obtain ⟨m, fm⟩ := M
      simp only at SV SF m0 m1
      obtain ⟨k0, k1, k2, k3, k4, k5, k6⟩ := T.out
      have ct : Cnt 1 := Cnt.mk _
      go_wp2_with fail
      go_region_held3 (fun w' => (w'.cell? ⟨kt, 0, none⟩ = some (.int .i64 (C : Int)) ∧ w'.cell? ⟨kt, 1, none⟩ = some (.int .i64 (C : Int)) ∧ w'.cell? ⟨kt, 2, none⟩ = some (.int .i64 (S : Int)) ∧ w'.cell? ⟨kt, 3, none⟩ = some (.slice a len cap)) ∧ w'.cell? ⟨b2, o2 + K, none⟩ = some (.int .u64 x)) (simp [go_sem, *]) (first | (have ck : Cnt 1 := ct; go_at_call 13; refine (mAtN C C S a len cap Z i K _ HH.out (by first | exact HZ.out.bes B.out AZ.out | exact HZ.out.bes B.out.drew AZ.out) hi (by omega)).mono ?_; rintro e wa ⟨rfl, hB⟩; rw [HY.out]; have hB1 : Below wr.heap.size wr wa := (by first | exact hB | exact ((Below.refl _ _).drew).trans hB); have C2 : Hid (IsCalc wa p c F1) := Cc.out.later hB1; have B2 : Hid (Bes c w wa) := B.out.step hB1; have T2 : Hid (TBox wa _ _ _ _ _ _) := T.out.below hB1; obtain ⟨k0a, k1a, k2a, k3a, k4a, k5a, k6a⟩ := T2.out; replace q2 := (hB1.cell (p := ⟨b2, o2 + K, none⟩) l2).trans q2; replace l2 := Nat.lt_of_lt_of_le l2 hB1.size; replace ct : Cnt 2 := Cnt.mk _; clear hB hB1 ck) | (have ck : Cnt 2 := ct; go_at_call 61; refine (uMul p c y x F1 _ (by first | exact C2.out | exact C2.out.drew) y0 y1 x0 x1).mono ?_; rintro e wb ⟨rfl, hC_, hB⟩; rw [HM.out] at hC_ ⊢; have hB1 : Bes c wa wb := (by first | exact hB | exact ((Bes.refl _ _).drew).trans hB); have C3 : Hid (IsCalc wb p c _) := hC_; have B3 : Hid (Bes c w wb) := B2.out.trans hB1; have T3 : Hid (TBox wb _ _ _ _ _ _) := T2.out.bes hB1 NKT.out; obtain ⟨k0b, k1b, k2b, k3b, k4b, k5b, k6b⟩ := T3.out; replace q2 := (hB1.cell (p := ⟨b2, o2 + K, none⟩) l2 A2c.out).trans q2; replace l2 := Nat.lt_of_lt_of_le l2 hB1.size; replace ct : Cnt 3 := Cnt.mk _; clear hB hB1 hC_ ck) | (have ck : Cnt 3 := ct; go_at_call 32; refine (uSub p c d m _ _ (by first | exact C3.out | exact C3.out.drew) g0 g1 m0 m1).mono ?_; rintro e wc ⟨rfl, hC_, hB⟩; rw [SV.out]; rw [SF.out] at hC_; have hB1 : Bes c wb wc := (by first | exact hB | exact ((Bes.refl _ _).drew).trans hB); have C4 : Hid (IsCalc wc p c _) := hC_; have B4 : Hid (Bes c w wc) := B3.out.trans hB1; have T4 : Hid (TBox wc _ _ _ _ _ _) := T3.out.bes hB1 NKT.out; obtain ⟨k0c, k1c, k2c, k3c, k4c, k5c, k6c⟩ := T4.out; replace q2 := (hB1.cell (p := ⟨b2, o2 + K, none⟩) l2 A2c.out).trans q2; replace ct : Cnt 4 := Cnt.mk _; clear hB hB1 hC_ ck))
      clear ct q2
      go_wp2
      go_roundw
      case rel => exact ⟨n + 1, K + 1, rfl, by go_num, hnN, by have := HK.out; omega, C4, B4, T4⟩
      case measure => simp [intOf]; omega
    · obtain rfl : n = N := by have := HBN.out; omega
      go_wp2
      go_ret
      exact ⟨ret_eq rfl, Cc.out, B.out⟩
end Go.Proofs.YtpakpgjbgehhjaaGreat
