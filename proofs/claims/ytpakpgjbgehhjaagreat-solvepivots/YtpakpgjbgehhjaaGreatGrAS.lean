/-
  Texts put together: SysV.
-/
import Derived.Test.YtpakpgjbgehhjaaGreatProg
import Derived.Test.YtpakpgjbgehhjaaGreatGrAR
import Derived.Test.YtpakpgjbgehhjaaGreatGrAQ
import Derived.Test.YtpakpgjbgehhjaaGreatGrAO
import Derived.Test.YtpakpgjbgehhjaaGreatGrAP
import Derived.Test.YtpakpgjbgehhjaaGreatGrZ
import Derived.Test.YtpakpgjbgehhjaaGreatGrR
/-
  What Pivot returns: of more than four equations ErrShape; of what isn't Finite, or a least that is no number above zero, ErrPlain; else an answer that is near, row by row, where none of Over, Under, Invalid has come. Conditions: a square matrix that is right, with as many rows as the list has numbers.
-/
namespace Go.Proofs.YtpakpgjbgehhjaaGreat
open Go.RowKit
set_option linter.unusedVariables false
set_option linter.unusedSimpArgs false

set_option maxHeartbeats 4000000 in
set_option maxRecDepth 100000 in
theorem sPivotMany (p : Value) (C S : Nat) (a : Option Addr) (len cap : Nat) (ax : Option Addr) (cx : Nat) (l : Int) (w : World) (h : Rgt (C : Int) (C : Int) (S : Int) len) (lb : (len : Int) ≤ 9223372036854775807) (hC : 4 < C) :
    Calls Tryz.prog 22 #[p, .agg #[.int .i64 (C : Int), .int .i64 (C : Int), .int .i64 (S : Int), .slice a len cap], .slice ax C cx, .int .u64 l] w fun e w' => e = .returned (.tuple #[.slice none 0 0, .bool false, .int .i64 4]) ∧ Below w.heap.size w w' := by
  have HH : Hid (Rgt (C : Int) (C : Int) (S : Int) len) := h
  have hC2 : (4 : Int) < (C : Int) := by omega
  clear h
  go_enter Tryz.func22, Tryz.ntmps22
  go_wp2_with fail
  have mM := MBox.made w (C : Int) (C : Int) (S : Int) (.slice a len cap)
  have b0 : Below w.heap.size w (w.alloc (.cells #[.int .i64 (C : Int), .int .i64 (C : Int), .int .i64 (S : Int), .slice a len cap] 25)) := (Below.refl _ _).alloc (Nat.le_refl _) _
  obtain ⟨ka, hka⟩ : ∃ k, k = w.heap.size := ⟨_, rfl⟩
  rw [← hka] at mM ⊢
  have HKA : Hid (w.heap.size ≤ ka) := by show _ ≤ _; omega
  clear hka
  generalize (w.alloc (.cells #[.int .i64 (C : Int), .int .i64 (C : Int), .int .i64 (S : Int), .slice a len cap] 25)) = W0 at mM b0 ⊢
  refine (sFitsOk C S a len cap ax cx W0 HH.out lb).mono ?_
  rintro e w1 ⟨rfl, hb1⟩
  have M1 : Hid (MBox _ _ _ _ _ _) := mM.below hb1
  have B1 : Hid (Below w.heap.size w w1) := bstep b0 hb1
  clear hb1 b0 mM
  obtain ⟨q0, q1, q2, q3, q4⟩ := M1.out
  go_wp2
  go_ret3
  exact ⟨rfl, B1.out⟩
set_option maxHeartbeats 4000000 in
set_option maxRecDepth 100000 in
theorem sPivotPlain (p : Value) (C S : Nat) (a : Option Addr) (len cap : Nat) (Z : Nat → Int) (ax : Option Addr) (cx : Nat) (l : Int) (w : World) (h : Rgt (C : Int) (C : Int) (S : Int) len) (hz : URow w a len cap Z) (hC : C ≤ 4) (h0 : 0 ≤ l) (h1 : l < 18446744073709551616) (hn : ¬ (AllF Z C C S ∧ 0 < l ∧ l < 9218868437227405312)) :
    Calls Tryz.prog 22 #[p, .agg #[.int .i64 (C : Int), .int .i64 (C : Int), .int .i64 (S : Int), .slice a len cap], .slice ax C cx, .int .u64 l] w fun e w' => e = .returned (.tuple #[.slice none 0 0, .bool false, .int .i64 6]) ∧ Below w.heap.size w w' := by
  have HH : Hid (Rgt (C : Int) (C : Int) (S : Int) len) := h
  have HZ : Hid (URow w a len cap Z) := hz
  obtain ⟨lb, cb⟩ := hz.lenB
  have hC2 : ¬ (4 : Int) < (C : Int) := by omega
  have hC3 : decide ((4 : Int) < (C : Int)) = false := decide_eq_false hC2
  clear h hz
  go_enter Tryz.func22, Tryz.ntmps22
  go_wp2_with fail
  have mM := MBox.made w (C : Int) (C : Int) (S : Int) (.slice a len cap)
  have b0 : Below w.heap.size w (w.alloc (.cells #[.int .i64 (C : Int), .int .i64 (C : Int), .int .i64 (S : Int), .slice a len cap] 25)) := (Below.refl _ _).alloc (Nat.le_refl _) _
  obtain ⟨ka, hka⟩ : ∃ k, k = w.heap.size := ⟨_, rfl⟩
  rw [← hka] at mM ⊢
  have HKA : Hid (w.heap.size ≤ ka) := by show _ ≤ _; omega
  clear hka
  generalize (w.alloc (.cells #[.int .i64 (C : Int), .int .i64 (C : Int), .int .i64 (S : Int), .slice a len cap] 25)) = W0 at mM b0 ⊢
  refine (sFitsOk C S a len cap ax cx W0 HH.out lb).mono ?_
  rintro e w1 ⟨rfl, hb1⟩
  have M1 : Hid (MBox _ _ _ _ _ _) := mM.below hb1
  have B1 : Hid (Below w.heap.size w w1) := bstep b0 hb1
  clear hb1 b0 mM
  obtain ⟨q0, q1, q2, q3, q4⟩ := M1.out
  go_wp2_with fail
  by_cases hf : AllF Z C C S
  · refine (mFinOk C C S a len cap Z w1 HH.out (HZ.out.below B1.out) hf).mono ?_
    rintro e w2 ⟨rfl, hb2⟩
    have B2 : Hid (Below w.heap.size w w2) := bstep B1.out hb2
    have HD : Hid (decide (0 < l ∧ l < 9218868437227405312) = false) := decide_eq_false (fun g => hn ⟨hf, g⟩)
    clear hb2 q0 q1 q2 q3 q4 hf hn
    go_wp2_with fail
    refine (uAbove l w2 h0 h1).mono ?_
    rintro e w3 ⟨rfl, hw⟩
    rw [HD.out]
    have hw2 := hw.symm
    clear hw
    subst hw2
    go_wp2
    go_ret3
    exact ⟨rfl, B2.out⟩
  · refine (mFinNo C C S a len cap Z w1 HH.out (HZ.out.below B1.out) hf).mono ?_
    rintro e w2 ⟨rfl, hb2⟩
    have B2 : Hid (Below w.heap.size w w2) := bstep B1.out hb2
    clear hb2 q0 q1 q2 q3 q4 hf hn
    go_wp2
    go_ret3
    exact ⟨rfl, B2.out⟩
/-- What is told of the answer: flags G at the end, Y the answer. -/
structure PvI (Z X Y : Nat → Int) (C S M : Nat) (tl : Bool) (l G : Int) : Prop where
  rng : 0 ≤ G ∧ G ≤ 31
  near : bits .and .u8 G 22 = 0 → (∀ i, i < C → mag (X i) < 9218868437227405312) → (∀ i, i < C → mag (Y i) < 9218868437227405312) ∧ ∀ i, i < C → (fsum (fun k => sv (Z (i * S + k)) * sv (Y k)) C - sv (X i) * ((2 ^ uu : Nat) : Int)).natAbs * 9007199254740992 ≤ (1000 * M + 4 * (if tl = true then V (mag l) else 0) * 9007199254740992) * fabs (fun k => sv (Y k)) C
theorem PvI.of {C S M : Nat} (hC : C ≤ 4) {Z X Y : Nat → Int} {x0 xs zs : List Int} {rs cs : Nat → Nat} {tl : Bool} {l F G H : Int} (hx : CutI x0 Z S 0 0 C C C) (h : RdI C (C * C) x0 xs rs cs C M tl l F G) (ho : OrI zs (vw xs rs cs C) C C 0) (hX : ∀ i, 0 ≤ X i ∧ X i < 18446744073709551616)
    (hY : ∀ k, k < C → Y (cs k) = svX true false (fun j => zs[j]?.getD 0) C C (svX false true (fun j => zs[j]?.getD 0) C C (fun i => X (rs i)) C) C k)
    (yr : ∀ i, 0 ≤ svX false true (fun j => zs[j]?.getD 0) C C (fun i => X (rs i)) C i ∧ svX false true (fun j => zs[j]?.getD 0) C C (fun i => X (rs i)) C i < 18446744073709551616)
    (hH : H = svF true false (svF false true G (fun j => zs[j]?.getD 0) C C (fun i => X (rs i)) C) (fun j => zs[j]?.getD 0) C C (svX false true (fun j => zs[j]?.getD 0) C C (fun i => X (rs i)) C) C) : PvI Z X Y C S M tl l H := by
  obtain ⟨g0, g1⟩ := h.rng
  obtain ⟨f0, f1⟩ := svF_rng false true G (fun j => zs[j]?.getD 0) C C (fun i => X (rs i)) g0 g1 (fun i => hX (rs i)) C
  refine ⟨by rw [hH]; exact svF_rng true false _ _ C C _ f0 f1 yr C, fun hm fX => ?_⟩
  rw [hH] at hm
  obtain ⟨p1, p2⟩ := piv_near C (C * C) M hC x0 xs rs cs tl l F G h (fun j => zs[j]?.getD 0) (fun i k hi hk => ho.2.2 i k hi hk (.inl hi)) X hX fX Y hY yr hm
  refine ⟨p1, fun i hi => ?_⟩
  have q := p2 i hi
  rw [fsum_eq _ (fun k => sv (Z (i * S + k)) * sv (Y k)) C (fun k hk => by
    have e := hx.2.2 i k hi hk
    rw [Nat.zero_add, Nat.zero_add] at e
    show sv (x0[i * C + k]?.getD 0) * _ = _
    rw [e])] at q
  exact q
set_option maxHeartbeats 8000000 in
set_option maxRecDepth 100000 in
theorem sPivotOk (p : Value) (c : Option Nat) (F : Int) (C S M : Nat) (a : Option Addr) (len cap : Nat) (Z : Nat → Int) (ax : Option Addr) (cx : Nat) (X : Nat → Int) (l : Int) (w : World) (hc : IsCalc w p c F) (F0 : 0 ≤ F) (F1 : F ≤ 31) (h : Rgt (C : Int) (C : Int) (S : Int) len) (hz : URow w a len cap Z) (hx : URow w ax C cx X) (axx : Apt c ax C) (hC : C ≤ 4) (hf : AllF Z C C S) (l0 : 0 < l) (l1 : l < 9218868437227405312) (hM : ∀ i k, i < C → k < C → (sv (Z (i * S + k))).natAbs ≤ M) :
    Calls Tryz.prog 22 #[p, .agg #[.int .i64 (C : Int), .int .i64 (C : Int), .int .i64 (S : Int), .slice a len cap], .slice ax C cx, .int .u64 l] w fun e w' => ∃ g tl, e = .returned (.tuple #[.slice (some ⟨g, 0, none⟩) C C, .bool tl, .int .i64 0]) ∧ w.heap.size ≤ g ∧ (∃ Y G, URow w' (some ⟨g, 0, none⟩) C C Y ∧ IsCalc w' p c G ∧ PvI Z X Y C S M tl l G) ∧ Bes c w w' := by
  have HH : Hid (Rgt (C : Int) (C : Int) (S : Int) len) := h
  have HZ : Hid (URow w a len cap Z) := hz
  have HX : Hid (URow w ax C cx X) := hx
  have AX : Hid (Apt c ax C) := axx
  have HC : Hid (IsCalc w p c F) := hc
  have HF : Hid (AllF Z C C S) := hf
  have HM : Hid (∀ i k, i < C → k < C → (sv (Z (i * S + k))).natAbs ≤ M) := hM
  obtain ⟨lb, cb⟩ := hz.lenB
  have hC2 : ¬ (4 : Int) < (C : Int) := by omega
  have hC3 : decide ((4 : Int) < (C : Int)) = false := decide_eq_false hC2
  have HD : Hid (decide (0 < l ∧ l < 9218868437227405312) = true) := decide_eq_true ⟨l0, l1⟩
  have L0 : Hid (0 < l) := l0
  have L1 : Hid (l < 9218868437227405312) := l1
  have h0 : 0 ≤ l := by omega
  have h1 : l < 18446744073709551616 := by omega
  clear h hz hx axx hc hf hM l0 l1
  go_enter Tryz.func22, Tryz.ntmps22
  go_wp2_with fail
  have mM := MBox.made w (C : Int) (C : Int) (S : Int) (.slice a len cap)
  have b0 : Below w.heap.size w (w.alloc (.cells #[.int .i64 (C : Int), .int .i64 (C : Int), .int .i64 (S : Int), .slice a len cap] 25)) := (Below.refl _ _).alloc (Nat.le_refl _) _
  obtain ⟨ka, hka⟩ : ∃ k, k = w.heap.size := ⟨_, rfl⟩
  rw [← hka] at mM ⊢
  have HKA : Hid (w.heap.size ≤ ka) := by show _ ≤ _; omega
  clear hka
  generalize (w.alloc (.cells #[.int .i64 (C : Int), .int .i64 (C : Int), .int .i64 (S : Int), .slice a len cap] 25)) = W0 at mM b0 ⊢
  refine (sFitsOk C S a len cap ax cx W0 HH.out lb).mono ?_
  rintro e w1 ⟨rfl, hb1⟩
  have M1 : Hid (MBox _ _ _ _ _ _) := mM.below hb1
  have B1 : Hid (Below w.heap.size w w1) := bstep b0 hb1
  clear hb1 b0 mM
  obtain ⟨q0, q1, q2, q3, q4⟩ := M1.out
  go_wp2_with fail
  refine (mFinOk C C S a len cap Z w1 HH.out (HZ.out.below B1.out) HF.out).mono ?_
  rintro e w2 ⟨rfl, hb2⟩
  replace B1 : Hid (Below w.heap.size w w2) := bstep B1.out hb2
  replace M1 : Hid (MBox _ _ _ _ _ _) := M1.out.below hb2
  clear hb2 q0 q1 q2 q3 q4
  go_wp2_with fail
  refine (uAbove l w2 h0 h1).mono ?_
  rintro e w3 ⟨rfl, hw⟩
  rw [HD.out]
  have hw2 := hw.symm
  clear hw
  subst hw2
  obtain ⟨q0, q1, q2, q3, q4⟩ := M1.out
  go_wp2_with fail
  refine (ySystem C S a len cap Z w2 HH.out (by omega) (HZ.out.below B1.out)).mono ?_
  rintro e w3 ⟨gm, gr, gc, rfl, hn_, ⟨x0, hS_, hI_⟩, hb_⟩
  obtain ⟨m1, m2, m3, m4, m5, m6⟩ := hn_
  have G1 : Hid (w.heap.size ≤ gm ∧ w.heap.size ≤ gr ∧ w.heap.size ≤ gc) := by have := B1.out.size; exact ⟨by omega, by omega, by omega⟩
  have G2 : Hid (gm ≠ gr ∧ gm ≠ gc ∧ gr ≠ gc) := ⟨m4, m5, m6⟩
  have hc2 : IsCalc w2 p c F := HC.out.later B1.out
  have NC : Hid (c ≠ some gm ∧ c ≠ some gr ∧ c ≠ some gc) := ⟨fun e => by have := hc2.lt _ e; omega, fun e => by have := hc2.lt _ e; omega, fun e => by have := hc2.lt _ e; omega⟩
  have CU : Hid (CutI x0 Z S 0 0 C C C) := hI_
  have BS : Hid (Bes c w w3) := Bes.of (bstep B1.out hb_)
  have CC : Hid (IsCalc w3 p c F) := hc2.later hb_
  have SS : Hid (Sy w3 C gm gr gc x0 (fun k => k) (fun k => k)) := hS_
  have UX : Hid (URow w3 ax C cx X) := (HX.out.below B1.out).below hb_
  have XM : Hid (Apt (some gm) ax C ∧ Apt (some gr) ax C ∧ Apt (some gc) ax C) := by
    obtain ⟨g1, g2, g3⟩ := G1.out
    exact ⟨HX.out.apt (fun k e => by injection e with e; omega), HX.out.apt (fun k e => by injection e with e; omega), HX.out.apt (fun k e => by injection e with e; omega)⟩
  clear hb_ hS_ hI_ hc2 m1 m2 m3 m4 m5 m6 q0 q1 q2 q3 q4 M1 B1 HX HC HZ
  go_upto_region 6 with fail
  have mT := TBox.madeS w3 (C : Int) (C : Int) (.slice (some ⟨gm, 0, none⟩) (C * C) (C * C)) (.slice (some ⟨gr, 0, none⟩) C C) (.slice (some ⟨gc, 0, none⟩) C C)
  have b0 : Below w3.heap.size w3 (w3.alloc (.cells #[.int .i64 (C : Int), .int .i64 (C : Int), .int .i64 (C : Int), .slice (some ⟨gm, 0, none⟩) (C * C) (C * C), .slice (some ⟨gr, 0, none⟩) C C, .slice (some ⟨gc, 0, none⟩) C C] 82)) := bmore (Below.refl _ _) _
  generalize (w3.alloc (.cells #[.int .i64 (C : Int), .int .i64 (C : Int), .int .i64 (C : Int), .slice (some ⟨gm, 0, none⟩) (C * C) (C * C), .slice (some ⟨gr, 0, none⟩) C C, .slice (some ⟨gc, 0, none⟩) C C] 82)) = W1 at mT b0 ⊢
  obtain ⟨kS, hkS⟩ : ∃ k, k = w3.heap.size := ⟨_, rfl⟩
  rw [← hkS] at mT ⊢
  have K1 : Hid (kS ≠ gm ∧ kS ≠ gr ∧ kS ≠ gc) := by
    have a1 := SS.out.mat.lt
    have a2 := SS.out.rows.lt
    have a3 := SS.out.cols.lt
    exact ⟨by omega, by omega, by omega⟩
  have K2 : Hid (c ≠ some kS) := fun e => by have := CC.out.lt _ e; omega
  have MT : Hid (TBox W1 kS (C : Int) (C : Int) (.slice (some ⟨gm, 0, none⟩) (C * C) (C * C)) (.slice (some ⟨gr, 0, none⟩) C C) (.slice (some ⟨gc, 0, none⟩) C C)) := mT
  replace BS : Hid (Bes _ _ _) := BS.out.step b0
  replace CC : Hid (IsCalc _ _ _ _) := CC.out.later b0
  replace SS : Hid (Sy _ _ _ _ _ _ _ _) := SS.out.below b0
  replace UX : Hid (URow _ _ _ _ _) := UX.out.below b0
  clear mT b0 hkS
  have HG : Hid (Rgt (C : Int) (C : Int) (C : Int) (C * C)) := tight C C (by omega) (by omega)
  have R0 : Hid (RdI C (C * C) x0 x0 (fun k => k) (fun k => k) 0 M false l F F) := RdI.start C (C * C) x0 M l F CU.out.1 rfl CU.out.2.1 F0 F1
    (fun i k hi hk => by
      have e := CU.out.2.2 i k hi hk
      rw [Nat.zero_add, Nat.zero_add] at e
      rw [e]
      exact HF.out i k hi hk)
    (fun i k hi hk => by
      have e := CU.out.2.2 i k hi hk
      rw [Nat.zero_add, Nat.zero_add] at e
      rw [e]
      exact HM.out i k hi hk)
  obtain ⟨t0, t1, t2, t3, t4, t5⟩ := MT.out.cells
  go_wp2_with fail
  refine (yReduce p c F l C (C * C) M gm gr gc x0 W1 CC.out F0 F1 HG.out (by omega) R0.out SS.out L0.out L1.out NC.out.1 NC.out.2.1 NC.out.2.2 G2.out.2.2 G2.out.1 G2.out.2.1).mono ?_
  rintro e w4 ⟨tl, rfl, ⟨xs, rs, cs, G, hS_, hC_, hR_⟩, hb_⟩
  have RD : Hid (RdI C (C * C) x0 xs rs cs C M tl l F G) := hR_
  replace MT : Hid (TBox _ _ _ _ _ _ _) := MT.out.besM hb_ K2.out K1.out.1 K1.out.2.1 K1.out.2.2
  replace UX : Hid (URow _ _ _ _ _) := UX.out.besM hb_ AX.out XM.out.1 XM.out.2.1 XM.out.2.2
  replace BS : Hid (Bes _ _ _) := hb_.old BS.out G1.out.1 G1.out.2.1 G1.out.2.2
  clear SS CC
  have SS : Hid (Sy w4 C gm gr gc xs rs cs) := hS_
  have CC : Hid (IsCalc w4 p c G) := hC_
  clear hb_ hS_ hC_ hR_ t0 t1 t2 t3 t4 t5 R0
  obtain ⟨t0, t1, t2, t3, t4, t5⟩ := MT.out.cells
  go_wp2_with fail
  refine (yOrdered C (C * C) gm gr gc xs rs cs w4 HG.out (by omega) RD.out.idx SS.out).mono ?_
  rintro e w5 ⟨gz, rfl, hg_, ⟨zs, hz_, ho_⟩, hb_⟩
  have OI : Hid (OrI zs (vw xs rs cs C) C C 0) := ho_
  have NZ : Hid (c ≠ some gz) := fun e => by have := CC.out.lt _ e; omega
  replace MT : Hid (TBox _ _ _ _ _ _ _) := MT.out.below hb_
  replace UX : Hid (URow _ _ _ _ _) := UX.out.below hb_
  replace BS : Hid (Bes _ _ _) := BS.out.step hb_
  replace SS : Hid (Sy _ _ _ _ _ _ _ _) := SS.out.below hb_
  replace CC : Hid (IsCalc _ _ _ _) := CC.out.later hb_
  have UZ : Hid (URow w5 (some ⟨gz, 0, none⟩) (C * C) (C * C) (fun j => zs[j]?.getD 0)) := hz_.rowZ ho_.1 (Nat.le_trans (Nat.mul_le_mul hC hC) (by decide)) ho_.2.1
  clear hb_ hg_ hz_ ho_ t0 t1 t2 t3 t4 t5
  go_upto_region 8 with fail
  have mM := MBox.made w5 (C : Int) (C : Int) (C : Int) (.slice (some ⟨gz, 0, none⟩) (C * C) (C * C))
  have b0 : Below w5.heap.size w5 (w5.alloc (.cells #[.int .i64 (C : Int), .int .i64 (C : Int), .int .i64 (C : Int), .slice (some ⟨gz, 0, none⟩) (C * C) (C * C)] 25)) := bmore (Below.refl _ _) _
  generalize (w5.alloc (.cells #[.int .i64 (C : Int), .int .i64 (C : Int), .int .i64 (C : Int), .slice (some ⟨gz, 0, none⟩) (C * C) (C * C)] 25)) = W2 at mM b0 ⊢
  obtain ⟨kb, hkb⟩ : ∃ k, k = w5.heap.size := ⟨_, rfl⟩
  rw [← hkb] at mM ⊢
  have K3 : Hid (c ≠ some kb) := fun e => by have := CC.out.lt _ e; omega
  have MM : Hid (MBox W2 kb (C : Int) (C : Int) (C : Int) (.slice (some ⟨gz, 0, none⟩) (C * C) (C * C))) := mM
  replace MT : Hid (TBox _ _ _ _ _ _ _) := MT.out.below b0
  replace UX : Hid (URow _ _ _ _ _) := UX.out.below b0
  replace UZ : Hid (URow _ _ _ _ _) := UZ.out.below b0
  replace BS : Hid (Bes _ _ _) := BS.out.step b0
  replace SS : Hid (Sy _ _ _ _ _ _ _ _) := SS.out.below b0
  replace CC : Hid (IsCalc _ _ _ _) := CC.out.later b0
  clear mM b0 hkb
  obtain ⟨zb, hzb⟩ : ∃ f : Nat → Int, f = fun j => zs[j]?.getD 0 := ⟨_, rfl⟩
  rw [← hzb] at UZ
  obtain ⟨bv, hbv⟩ : ∃ f : Nat → Int, f = fun i => X (rs i) := ⟨_, rfl⟩
  have HZB : Hid (zb = fun j => zs[j]?.getD 0) := hzb
  have HBV : Hid (bv = fun i => X (rs i)) := hbv
  have AZ : Hid (Apt c (some ⟨gz, 0, none⟩) (C * C)) := fun _ b o s e g => NZ.out (by rw [g]; injection e with e; injection e with e1 e2 e3; rw [e1])
  have RL : Hid (∀ i, i < C → rs i < C) := RD.out.idx.rl
  clear hzb hbv
  obtain ⟨t0, t1, t2, t3, t4, t5⟩ := MT.out.cells
  obtain ⟨q0, q1, q2, q3, q4⟩ := MM.out
  go_wp2_with fail
  have ct : Cnt 1 := Cnt.mk _
  go_region_held3 (fun w' => (w'.cell? ⟨kS, 0, none⟩ = some (.int .i64 (C : Int)) ∧ w'.cell? ⟨kS, 1, none⟩ = some (.int .i64 (C : Int)) ∧ w'.cell? ⟨kS, 2, none⟩ = some (.int .i64 (C : Int)) ∧ w'.cell? ⟨kS, 3, none⟩ = some (.slice (some ⟨gm, 0, none⟩) (C * C) (C * C)) ∧ w'.cell? ⟨kS, 4, none⟩ = some (.slice (some ⟨gr, 0, none⟩) C C) ∧ w'.cell? ⟨kS, 5, none⟩ = some (.slice (some ⟨gc, 0, none⟩) C C)) ∧ (w'.cell? ⟨kb, 0, none⟩ = some (.int .i64 (C : Int)) ∧ w'.cell? ⟨kb, 1, none⟩ = some (.int .i64 (C : Int)) ∧ w'.cell? ⟨kb, 2, none⟩ = some (.int .i64 (C : Int)) ∧ w'.cell? ⟨kb, 3, none⟩ = some (.slice (some ⟨gz, 0, none⟩) (C * C) (C * C)))) (exact (by first | exact ⟨MT.out.cells, MM.out.cells⟩ | exact ⟨(MT.out.below (Below.refl _ _).drew).cells, (MM.out.below (Below.refl _ _).drew).cells⟩)) (first | (have ck : Cnt 1 := ct; go_at_call 53; refine (yLaid C (C * C) gm gr gc rs ax cx X _ (by omega) (SS.out.rows.below (by first | exact Below.refl _ _ | exact (Below.refl _ _).drew)) RL.out (UX.out.below (by first | exact Below.refl _ _ | exact (Below.refl _ _).drew))).mono ?_; rintro e w6 ⟨g1, rfl, hg_, hU_, hb_⟩; rw [← HBV.out] at hU_; replace hb_ : Below W2.heap.size W2 w6 := (by first | exact hb_ | exact ((Below.refl _ _).drew).trans hb_); have hg2_ : W2.heap.size ≤ g1 := (by first | exact hg_ | (simp at hg_; exact hg_)); have A1 : Hid (Apt c (some ⟨g1, 0, none⟩) C) := (fun _ b o s e g => by have q := CC.out.lt _ g; injection e with e; injection e with e1 e2 e3; omega); replace MT : Hid (TBox _ _ _ _ _ _ _) := MT.out.below hb_; replace MM : Hid (MBox _ _ _ _ _ _) := MM.out.below hb_; replace UX : Hid (URow _ _ _ _ _) := UX.out.below hb_; replace UZ : Hid (URow _ _ _ _ _) := UZ.out.below hb_; replace BS : Hid (Bes _ _ _) := BS.out.step hb_; replace SS : Hid (Sy _ _ _ _ _ _ _ _) := SS.out.below hb_; replace CC : Hid (IsCalc _ _ _ _) := CC.out.later hb_; have U1 : Hid (URow w6 (some ⟨g1, 0, none⟩) C C bv) := hU_; replace ct : Cnt 2 := Cnt.mk _; clear ck hb_ hg_ hg2_ hU_) | (have ck : Cnt 2 := ct; go_at_call 8; refine (sTrsvLT p c G C C (some ⟨gz, 0, none⟩) (C * C) (C * C) zb (some ⟨g1, 0, none⟩) C bv _ CC.out HG.out UZ.out AZ.out U1.out A1.out).mono ?_; rintro e w7 ⟨g2, rfl, hg_, hU_, hC_, hb_⟩; have A2 : Hid (Apt c (some ⟨g2, 0, none⟩) C) := (fun _ b o s e g => by have q := CC.out.lt _ g; injection e with e; injection e with e1 e2 e3; omega); replace MT : Hid (TBox _ _ _ _ _ _ _) := MT.out.bes hb_ K2.out; replace MM : Hid (MBox _ _ _ _ _ _) := MM.out.bes hb_ K3.out; replace UX : Hid (URow _ _ _ _ _) := UX.out.bes hb_ AX.out; replace UZ : Hid (URow _ _ _ _ _) := UZ.out.bes hb_ AZ.out; replace BS : Hid (Bes _ _ _) := BS.out.trans hb_; replace SS : Hid (Sy _ _ _ _ _ _ _ _) := SS.out.bes hb_ NC.out.1 NC.out.2.1 NC.out.2.2; clear CC U1 A1; have CC : Hid (IsCalc w7 p c (svF false true G zb C C bv C)) := hC_; have U2 : Hid (URow w7 (some ⟨g2, 0, none⟩) C C (svX false true zb C C bv C)) := hU_; replace ct : Cnt 3 := Cnt.mk _; clear ck hb_ hg_ hU_ hC_))
  clear t0 t1 t2 t3 t4 t5 q0 q1 q2 q3 q4 ct
  obtain ⟨yv, hyv⟩ : ∃ f, f = svX false true zb C C bv C := ⟨_, rfl⟩
  obtain ⟨H1, hH1⟩ : ∃ f, f = svF false true G zb C C bv C := ⟨_, rfl⟩
  rw [← hyv] at U2
  rw [← hH1] at CC
  have HYV : Hid (yv = svX false true zb C C bv C) := hyv
  have HH1 : Hid (H1 = svF false true G zb C C bv C) := hH1
  clear hyv hH1
  have DZ : Hid (∀ i, i < C → zb (i * C + i) % 9223372036854775808 ≠ 0) := fun i hi => by
    rw [HZB.out]
    show zs[i * C + i]?.getD 0 % _ ≠ 0
    rw [OI.out.2.2 i i hi hi (.inl hi)]
    exact RD.out.dg i hi
  obtain ⟨q0, q1, q2, q3, q4⟩ := MM.out
  go_wp2_with fail
  refine (sTrsvUF p c H1 C C (some ⟨gz, 0, none⟩) (C * C) (C * C) zb (some ⟨g2, 0, none⟩) C yv _ CC.out HG.out UZ.out AZ.out U2.out A2.out DZ.out).mono ?_
  rintro e w8 ⟨g3, rfl, hg_, hU_, hC_, hb_⟩
  have YR : Hid (∀ i, 0 ≤ yv i ∧ yv i < 18446744073709551616) := U2.out.2.2.1
  replace MT : Hid (TBox _ _ _ _ _ _ _) := MT.out.bes hb_ K2.out; replace MM : Hid (MBox _ _ _ _ _ _) := MM.out.bes hb_ K3.out; replace UX : Hid (URow _ _ _ _ _) := UX.out.bes hb_ AX.out; replace UZ : Hid (URow _ _ _ _ _) := UZ.out.bes hb_ AZ.out; replace BS : Hid (Bes _ _ _) := BS.out.trans hb_; replace SS : Hid (Sy _ _ _ _ _ _ _ _) := SS.out.bes hb_ NC.out.1 NC.out.2.1 NC.out.2.2
  clear CC U2 A2
  have CC : Hid (IsCalc w8 p c (svF true false H1 zb C C yv C)) := hC_
  have U3 : Hid (URow w8 (some ⟨g3, 0, none⟩) C C (svX true false zb C C yv C)) := hU_
  clear hb_ hg_ hU_ hC_ q0 q1 q2 q3 q4
  obtain ⟨t0, t1, t2, t3, t4, t5⟩ := MT.out.cells
  go_wp2_with fail
  refine (yBack C (C * C) gm gr gc cs (some ⟨g3, 0, none⟩) C _ w8 (by omega) SS.out.cols RD.out.idx.cl RD.out.idx.ci U3.out).mono ?_
  rintro e w9 ⟨g, rfl, hg_, ⟨Y, hY_, hy_⟩, hb_⟩
  have P : Hid (PvI Z X Y C S M tl l (svF true false H1 zb C C yv C)) := PvI.of hC CU.out RD.out OI.out UX.out.2.2.1
    (fun k hk => by rw [hy_ k hk, HYV.out, HZB.out, HBV.out])
    (fun i => by
      have := YR.out i
      rw [HYV.out, HZB.out, HBV.out] at this
      exact this)
    (by rw [HH1.out, HYV.out, HZB.out, HBV.out])
  have GG : Hid (w.heap.size ≤ g) := Nat.le_trans BS.out.size hg_
  replace BS : Hid (Bes _ _ _) := BS.out.step hb_
  replace CC : Hid (IsCalc _ _ _ _) := CC.out.later hb_
  have UY : Hid (URow w9 (some ⟨g, 0, none⟩) C C Y) := hY_
  clear hb_ hg_ hY_ hy_ t0 t1 t2 t3 t4 t5
  go_wp2
  go_ret3
  first | exact ⟨g, tl, rfl, GG.out, ⟨Y, _, UY.out, CC.out, P.out⟩, BS.out⟩ | exact ⟨g, rfl, GG.out, ⟨Y, _, UY.out, CC.out, P.out⟩, BS.out⟩
end Go.Proofs.YtpakpgjbgehhjaaGreat
