/-
  Texts put together: SolB.
-/
import Derived.Test.YtpakpgjbgehhjaaProg
import Derived.Test.YtpakpgjbgehhjaaGrW
import Derived.Test.YtpakpgjbgehhjaaGrT
/-
  What solve's Trmv returns, with any Calc: step by step, and all flags. Conditions: a square matrix that is right; the list lies beside the Calc.
-/
namespace Go.Proofs.Ytpakpgjbgehhjaa
open Go.RowKit
set_option linter.unusedVariables false
set_option linter.unusedSimpArgs false

/-- The columns beside the diagonal: the first, and how many. -/
def tb (up : Bool) (i : Nat) : Nat := if up then i + 1 else 0
def tn (up : Bool) (C i : Nat) : Nat := if up then C - (i + 1) else i
def tmf (unit : Bool) (Z : Nat → Int) (S : Nat) (X : Nat → Int) (i : Nat) : Int := if unit then X i else (mulS (Z (i * S + i)) (X i)).1
def tmV (up unit : Bool) (Z : Nat → Int) (S C : Nat) (X : Nat → Int) (i : Nat) : Int := gatV addS (tmf unit Z S X i) (fun k => Z (i * S + k)) X (tb up i) (tn up C i)
def tmF (up unit : Bool) (F : Int) (Z : Nat → Int) (S C : Nat) (X : Nat → Int) : Nat → Int
  | 0 => F
  | i + 1 => gatF addS (if unit then tmF up unit F Z S C X i else bits .or .u8 (tmF up unit F Z S C X i) (mulS (Z (i * S + i)) (X i)).2) (tmf unit Z S X i) (fun k => Z (i * S + k)) X (tb up i) (tn up C i)
set_option maxHeartbeats 4000000 in
set_option maxRecDepth 100000 in
theorem sTrmvLT (p : Value) (c : Option Nat) (F : Int) (C S : Nat) (a : Option Addr) (len cap : Nat) (Z : Nat → Int) (ax : Option Addr) (cx : Nat) (X : Nat → Int) (w : World) (hc : IsCalc w p c F) (h : Rgt (C : Int) (C : Int) (S : Int) len) (hz : URow w a len cap Z) (az : Apt c a len) (hx : URow w ax C cx X) (axx : Apt c ax C) :
    Calls Try.prog 40 #[p, .agg #[.int .i64 (C : Int), .int .i64 (C : Int), .int .i64 (S : Int), .slice a len cap], .bool false, .bool true, .slice ax C cx] w fun e w' => ∃ g, e = .returned (.tuple #[.slice (some ⟨g, 0, none⟩) C C, .int .i64 0]) ∧ w.heap.size ≤ g ∧ URow w' (some ⟨g, 0, none⟩) C C (tmV false true Z S C X) ∧ IsCalc w' p c (tmF false true F Z S C X C) ∧ Bes c w w' := by
  have HC : Hid (IsCalc w p c F) := hc
  have HZ : Hid (URow w a len cap Z) := hz
  have AZ : Hid (Apt c a len) := az
  have HX : Hid (URow w ax C cx X) := hx
  have AX : Hid (Apt c ax C) := axx
  have HH : Hid (Rgt (C : Int) (C : Int) (S : Int) len) := h
  obtain ⟨lb, cb⟩ := hz.lenB
  obtain ⟨lbx, cbx⟩ := hx.lenB
  have c1 : (C : Int) ≤ 4096 := h.2.2.2.1
  have VR : Hid (∀ i, 0 ≤ tmV false true Z S C X i ∧ tmV false true Z S C X i < 18446744073709551616) := fun i => by
    have hf : 0 ≤ tmf true Z S X i ∧ tmf true Z S X i < 18446744073709551616 := hx.2.2.1 i
    exact gatV_rngA _ _ _ _ _ hf.1 hf.2
  have mk := mk_run C (by omega)
  obtain ⟨O, hO⟩ : ∃ O, O = ((List.replicate C (0 : Int)).map (Value.int .u64)).toArray := ⟨_, rfl⟩
  have HO : Hid (∀ (W : World) (Z : Nat → Int), Row1 (W.alloc (.cells O 23)) W.heap.size C 0 Z) := by rw [hO]; exact fun W Z => Row1.new W C Z
  rw [← hO] at mk
  clear hc hz hx h az axx hO
  go_enter Try.func40, Try.ntmps40
  go_wp2_with fail
  have mM := MBox.made w (C : Int) (C : Int) (S : Int) (.slice a len cap)
  have b0 : Below w.heap.size w (w.alloc (.cells #[.int .i64 (C : Int), .int .i64 (C : Int), .int .i64 (S : Int), .slice a len cap] 26)) := bmore (Below.refl _ _) _
  generalize (w.alloc (.cells #[.int .i64 (C : Int), .int .i64 (C : Int), .int .i64 (S : Int), .slice a len cap] 26)) = W0 at mM b0 ⊢
  obtain ⟨k6, hk6⟩ : ∃ k, k = w.heap.size := ⟨_, rfl⟩
  rw [← hk6] at mM ⊢
  have N6 : Hid (c ≠ some k6) := fun e => by have := HC.out.lt _ e; omega
  clear hk6
  refine (sFitsOk C S a len cap ax cx W0 HH.out lb).mono ?_
  rintro e w1 ⟨rfl, hb1⟩
  have M6 : Hid (MBox _ _ _ _ _ _) := mM.below hb1
  have BW : Hid (Below w.heap.size w w1) := bstep b0 hb1
  clear mM b0 hb1
  obtain ⟨q0, q1, q2, q3, q4⟩ := M6.out
  go_wp2_with fail
  refine (sTriL C S a len cap w1).mono ?_
  rintro e w2 ⟨kb, rfl, hkb, hkg, hb1⟩
  have NB : Hid (c ≠ some kb) := fun e => by have := HC.out.lt _ e; have := Below.size BW.out; omega
  replace M6 : Hid (MBox _ _ _ _ _ _) := M6.out.below hb1
  replace BW : Hid (Below w.heap.size w w2) := bstep BW.out hb1
  have MB : Hid (MBox w2 kb (C : Int) (C : Int) (S : Int) (.slice a len cap)) := hkb
  clear hb1 hkb hkg q0 q1 q2 q3 q4
  go_upto_region 4 with fail
  have mT := TBox.made w2 (C : Int) (S : Int) (.slice a len cap) (.func (.func 120) #[] #[]) (.func (.func 121) #[] #[])
  have b0 : Below w2.heap.size w2 (w2.alloc (.cells #[.int .i64 (C : Int), .int .i64 (C : Int), .int .i64 (S : Int), .slice a len cap, .func (.func 120) #[] #[], .func (.func 121) #[] #[]] 108)) := bmore (Below.refl _ _) _
  generalize (w2.alloc (.cells #[.int .i64 (C : Int), .int .i64 (C : Int), .int .i64 (S : Int), .slice a len cap, .func (.func 120) #[] #[], .func (.func 121) #[] #[]] 108)) = W3 at mT b0 ⊢
  obtain ⟨kt, hkt⟩ : ∃ k, k = w2.heap.size := ⟨_, rfl⟩
  rw [← hkt] at mT ⊢
  have NT : Hid (c ≠ some kt) := fun e => by have := HC.out.lt _ e; have := Below.size BW.out; omega
  replace M6 : Hid (MBox _ _ _ _ _ _) := M6.out.below b0
  replace MB : Hid (MBox _ _ _ _ _ _) := MB.out.below b0
  replace BW : Hid (Below _ _ _) := bstep BW.out b0
  have TB : Hid (TBox _ _ _ _ _ _ _) := mT
  clear mT b0 hkt
  go_wp2
  have bA : Below W3.heap.size W3 (W3.alloc (.cells O 23)) := bmore (Below.refl _ _) _
  have RW := HO.out W3 (tmV false true Z S C X)
  obtain ⟨g1, hg1⟩ : ∃ g, g = W3.heap.size := ⟨_, rfl⟩
  have G6 : Hid (g1 ≠ k6) := by have := M6.out.2.2.2.2; show _ ≠ _; omega
  have GB : Hid (g1 ≠ kb) := by have := MB.out.2.2.2.2; show _ ≠ _; omega
  have GT : Hid (g1 ≠ kt) := by have := TB.out.2.2.2.2.2.2; show _ ≠ _; omega
  have HG1 : Hid (w.heap.size ≤ g1) := by show _ ≤ _; have := Below.size BW.out; omega
  have NG : Hid (c ≠ some g1) := fun e => by have := HC.out.lt _ e; have := HG1.out; omega
  have AGX : Hid (Apt (some g1) ax C) := HX.out.apt (fun k e => by injection e with e; have := HG1.out; omega)
  have AGZ : Hid (Apt (some g1) a len) := HZ.out.apt (fun k e => by injection e with e; have := HG1.out; omega)
  rw [← hg1] at RW ⊢
  generalize (W3.alloc (.cells O 23)) = V at RW bA ⊢
  replace M6 : Hid (MBox _ _ _ _ _ _) := M6.out.below bA
  replace MB : Hid (MBox _ _ _ _ _ _) := MB.out.below bA
  replace TB : Hid (TBox _ _ _ _ _ _ _) := TB.out.below bA
  replace BW : Hid (Below _ _ _) := bstep BW.out bA
  have R0 : Hid (Row1 V g1 C 0 (tmV false true Z S C X)) := RW
  have C0 : Hid (IsCalc V p c F) := HC.out.later BW.out
  have Z0 : Hid (URow V a len cap Z) := HZ.out.below BW.out
  have X0 : Hid (URow V ax C cx X) := HX.out.below BW.out
  have B0 : Hid (Bes c w V) := Bes.of BW.out
  clear bA RW hg1 HO mk BW
  go_loopw [28] (fun j wr => ∃ n : Nat, j = .int .i64 (n : Int) ∧ n ≤ C ∧ Hid (Row1 wr g1 C n (tmV false true Z S C X)) ∧ Hid (IsCalc wr p c (tmF false true F Z S C X n)) ∧ Hid (MBox wr k6 (C : Int) (C : Int) (S : Int) (.slice a len cap)) ∧ Hid (MBox wr kb (C : Int) (C : Int) (S : Int) (.slice a len cap)) ∧ Hid (TBox wr kt (C : Int) (S : Int) (.slice a len cap) (.func (.func 120) #[] #[]) (.func (.func 121) #[] #[])) ∧ Hid (URow wr a len cap Z) ∧ Hid (URow wr ax C cx X) ∧ Hid (Bes c w wr)) (fun j _ => C - (intOf j).toNat)
  case atStart => exact ⟨0, rfl, Nat.zero_le _, R0, C0, M6, MB, TB, Z0, X0, B0⟩
  case round =>
    clear R0 C0 M6 MB TB Z0 X0 B0
    obtain ⟨n, rfl, hn, Rr, Cc, M6, MB, TB, ZZ, XX, B⟩ := hrel
    by_cases hlt : (n : Int) < (C : Int)
    · obtain ⟨_, _, zx, fx⟩ := XX.out
      obtain ⟨b2, o2, rfl, l2, e2⟩ := fx (by omega)
      have q2 := e2 n (by omega)
      obtain ⟨x0, x1⟩ := zx n
      clear zx fx e2
      have TV : Hid (gatV addS (tmf true Z S X n) (fun k => Z (n * S + k)) X 0 n = tmV false true Z S C X n) := rfl
      have TV2 : Hid (_ = _) := TV.out
      have TF : Hid (gatF addS (tmF false true F Z S C X n) (tmf true Z S X n) (fun k => Z (n * S + k)) X 0 n = tmF false true F Z S C X (n + 1)) := rfl
      have hfx : tmf true Z S X n = X n := rfl
      rw [hfx] at TF TV2
      obtain ⟨f0, f1⟩ := XX.out.2.2.1 n
      obtain ⟨x, hx⟩ : ∃ x, X n = x := ⟨_, rfl⟩
      rw [hx] at TF TV2 q2 f0 f1 x0 x1
      clear hx hfx TV
      have HV := VR.out n
      obtain ⟨t0, t1, t2, t3, t4, t5, t6⟩ := TB.out
      go_wp2_with fail
      refine (sGatLA p c _ C S a len cap Z n _ (some ⟨b2, o2, none⟩) C cx X _ Cc.out  HH.out ZZ.out AZ.out XX.out AX.out (by omega) (Nat.le_refl _) f0 f1).mono ?_
      rintro e w5 ⟨rfl, hC_, hB⟩
      rw [TF.out] at hC_
      rw [TV2.out]
      have C5 : Hid (IsCalc w5 p c _) := hC_
      have R5 : Hid (Row1 w5 g1 C n (tmV false true Z S C X)) := Rr.out.bes hB NG.out
      have M65 : Hid (MBox _ _ _ _ _ _) := M6.out.bes hB N6.out
      have MB5 : Hid (MBox _ _ _ _ _ _) := MB.out.bes hB NB.out
      have TB5 : Hid (TBox _ _ _ _ _ _ _) := TB.out.bes hB NT.out
      have Z5 : Hid (URow w5 a len cap Z) := ZZ.out.bes hB AZ.out
      have X5 : Hid (URow w5 _ C cx X) := XX.out.bes hB AX.out
      have B5 : Hid (Bes c w w5) := B.out.trans hB
      obtain ⟨z, y1, y2⟩ := R5.out.at n (by omega)
      clear hC_ hB Cc Rr M6 MB TB ZZ XX B q2 l2 t0 t1 t2 t3 t4 t5 t6
      go_wp2
      go_roundw
      case rel =>
        have hP : Bes (some g1) w5 (w5.setCell ⟨g1, n, none⟩ (.int .u64 (tmV false true Z S C X n))) := Bes.put w5 g1 n _
        exact ⟨n + 1, by go_num, by omega, R5.out.set (by omega) rfl, C5.out.bes hP (fun k e e2 => NG.out (e.trans e2.symm)), M65.out.bes hP (ne_some G6.out), MB5.out.bes hP (ne_some GB.out), TB5.out.bes hP (ne_some GT.out), Z5.out.bes hP AGZ.out, X5.out.bes hP AGX.out, B5.out.young hP HG1.out⟩
      case measure => simp [intOf]; omega
    · obtain rfl : n = C := by omega
      go_wp2
      go_ret2
      exact ⟨g1, rfl, HG1.out, Rr.out.row (by omega) VR.out, Cc.out, B.out⟩
set_option maxHeartbeats 4000000 in
set_option maxRecDepth 100000 in
theorem sTrmvLF (p : Value) (c : Option Nat) (F : Int) (C S : Nat) (a : Option Addr) (len cap : Nat) (Z : Nat → Int) (ax : Option Addr) (cx : Nat) (X : Nat → Int) (w : World) (hc : IsCalc w p c F) (h : Rgt (C : Int) (C : Int) (S : Int) len) (hz : URow w a len cap Z) (az : Apt c a len) (hx : URow w ax C cx X) (axx : Apt c ax C) :
    Calls Try.prog 40 #[p, .agg #[.int .i64 (C : Int), .int .i64 (C : Int), .int .i64 (S : Int), .slice a len cap], .bool false, .bool false, .slice ax C cx] w fun e w' => ∃ g, e = .returned (.tuple #[.slice (some ⟨g, 0, none⟩) C C, .int .i64 0]) ∧ w.heap.size ≤ g ∧ URow w' (some ⟨g, 0, none⟩) C C (tmV false false Z S C X) ∧ IsCalc w' p c (tmF false false F Z S C X C) ∧ Bes c w w' := by
  have HC : Hid (IsCalc w p c F) := hc
  have HZ : Hid (URow w a len cap Z) := hz
  have AZ : Hid (Apt c a len) := az
  have HX : Hid (URow w ax C cx X) := hx
  have AX : Hid (Apt c ax C) := axx
  have HH : Hid (Rgt (C : Int) (C : Int) (S : Int) len) := h
  obtain ⟨lb, cb⟩ := hz.lenB
  obtain ⟨lbx, cbx⟩ := hx.lenB
  have c1 : (C : Int) ≤ 4096 := h.2.2.2.1
  have VR : Hid (∀ i, 0 ≤ tmV false false Z S C X i ∧ tmV false false Z S C X i < 18446744073709551616) := fun i => by
    have hf : 0 ≤ tmf false Z S X i ∧ tmf false Z S X i < 18446744073709551616 := mulS_rng _ _
    exact gatV_rngA _ _ _ _ _ hf.1 hf.2
  have mk := mk_run C (by omega)
  obtain ⟨O, hO⟩ : ∃ O, O = ((List.replicate C (0 : Int)).map (Value.int .u64)).toArray := ⟨_, rfl⟩
  have HO : Hid (∀ (W : World) (Z : Nat → Int), Row1 (W.alloc (.cells O 23)) W.heap.size C 0 Z) := by rw [hO]; exact fun W Z => Row1.new W C Z
  rw [← hO] at mk
  clear hc hz hx h az axx hO
  go_enter Try.func40, Try.ntmps40
  go_wp2_with fail
  have mM := MBox.made w (C : Int) (C : Int) (S : Int) (.slice a len cap)
  have b0 : Below w.heap.size w (w.alloc (.cells #[.int .i64 (C : Int), .int .i64 (C : Int), .int .i64 (S : Int), .slice a len cap] 26)) := bmore (Below.refl _ _) _
  generalize (w.alloc (.cells #[.int .i64 (C : Int), .int .i64 (C : Int), .int .i64 (S : Int), .slice a len cap] 26)) = W0 at mM b0 ⊢
  obtain ⟨k6, hk6⟩ : ∃ k, k = w.heap.size := ⟨_, rfl⟩
  rw [← hk6] at mM ⊢
  have N6 : Hid (c ≠ some k6) := fun e => by have := HC.out.lt _ e; omega
  clear hk6
  refine (sFitsOk C S a len cap ax cx W0 HH.out lb).mono ?_
  rintro e w1 ⟨rfl, hb1⟩
  have M6 : Hid (MBox _ _ _ _ _ _) := mM.below hb1
  have BW : Hid (Below w.heap.size w w1) := bstep b0 hb1
  clear mM b0 hb1
  obtain ⟨q0, q1, q2, q3, q4⟩ := M6.out
  go_wp2_with fail
  refine (sTriL C S a len cap w1).mono ?_
  rintro e w2 ⟨kb, rfl, hkb, hkg, hb1⟩
  have NB : Hid (c ≠ some kb) := fun e => by have := HC.out.lt _ e; have := Below.size BW.out; omega
  replace M6 : Hid (MBox _ _ _ _ _ _) := M6.out.below hb1
  replace BW : Hid (Below w.heap.size w w2) := bstep BW.out hb1
  have MB : Hid (MBox w2 kb (C : Int) (C : Int) (S : Int) (.slice a len cap)) := hkb
  clear hb1 hkb hkg q0 q1 q2 q3 q4
  go_upto_region 4 with fail
  have mT := TBox.made w2 (C : Int) (S : Int) (.slice a len cap) (.func (.func 120) #[] #[]) (.func (.func 121) #[] #[])
  have b0 : Below w2.heap.size w2 (w2.alloc (.cells #[.int .i64 (C : Int), .int .i64 (C : Int), .int .i64 (S : Int), .slice a len cap, .func (.func 120) #[] #[], .func (.func 121) #[] #[]] 108)) := bmore (Below.refl _ _) _
  generalize (w2.alloc (.cells #[.int .i64 (C : Int), .int .i64 (C : Int), .int .i64 (S : Int), .slice a len cap, .func (.func 120) #[] #[], .func (.func 121) #[] #[]] 108)) = W3 at mT b0 ⊢
  obtain ⟨kt, hkt⟩ : ∃ k, k = w2.heap.size := ⟨_, rfl⟩
  rw [← hkt] at mT ⊢
  have NT : Hid (c ≠ some kt) := fun e => by have := HC.out.lt _ e; have := Below.size BW.out; omega
  replace M6 : Hid (MBox _ _ _ _ _ _) := M6.out.below b0
  replace MB : Hid (MBox _ _ _ _ _ _) := MB.out.below b0
  replace BW : Hid (Below _ _ _) := bstep BW.out b0
  have TB : Hid (TBox _ _ _ _ _ _ _) := mT
  clear mT b0 hkt
  go_wp2
  have bA : Below W3.heap.size W3 (W3.alloc (.cells O 23)) := bmore (Below.refl _ _) _
  have RW := HO.out W3 (tmV false false Z S C X)
  obtain ⟨g1, hg1⟩ : ∃ g, g = W3.heap.size := ⟨_, rfl⟩
  have G6 : Hid (g1 ≠ k6) := by have := M6.out.2.2.2.2; show _ ≠ _; omega
  have GB : Hid (g1 ≠ kb) := by have := MB.out.2.2.2.2; show _ ≠ _; omega
  have GT : Hid (g1 ≠ kt) := by have := TB.out.2.2.2.2.2.2; show _ ≠ _; omega
  have HG1 : Hid (w.heap.size ≤ g1) := by show _ ≤ _; have := Below.size BW.out; omega
  have NG : Hid (c ≠ some g1) := fun e => by have := HC.out.lt _ e; have := HG1.out; omega
  have AGX : Hid (Apt (some g1) ax C) := HX.out.apt (fun k e => by injection e with e; have := HG1.out; omega)
  have AGZ : Hid (Apt (some g1) a len) := HZ.out.apt (fun k e => by injection e with e; have := HG1.out; omega)
  rw [← hg1] at RW ⊢
  generalize (W3.alloc (.cells O 23)) = V at RW bA ⊢
  replace M6 : Hid (MBox _ _ _ _ _ _) := M6.out.below bA
  replace MB : Hid (MBox _ _ _ _ _ _) := MB.out.below bA
  replace TB : Hid (TBox _ _ _ _ _ _ _) := TB.out.below bA
  replace BW : Hid (Below _ _ _) := bstep BW.out bA
  have R0 : Hid (Row1 V g1 C 0 (tmV false false Z S C X)) := RW
  have C0 : Hid (IsCalc V p c F) := HC.out.later BW.out
  have Z0 : Hid (URow V a len cap Z) := HZ.out.below BW.out
  have X0 : Hid (URow V ax C cx X) := HX.out.below BW.out
  have B0 : Hid (Bes c w V) := Bes.of BW.out
  clear bA RW hg1 HO mk BW
  go_loopw [28] (fun j wr => ∃ n : Nat, j = .int .i64 (n : Int) ∧ n ≤ C ∧ Hid (Row1 wr g1 C n (tmV false false Z S C X)) ∧ Hid (IsCalc wr p c (tmF false false F Z S C X n)) ∧ Hid (MBox wr k6 (C : Int) (C : Int) (S : Int) (.slice a len cap)) ∧ Hid (MBox wr kb (C : Int) (C : Int) (S : Int) (.slice a len cap)) ∧ Hid (TBox wr kt (C : Int) (S : Int) (.slice a len cap) (.func (.func 120) #[] #[]) (.func (.func 121) #[] #[])) ∧ Hid (URow wr a len cap Z) ∧ Hid (URow wr ax C cx X) ∧ Hid (Bes c w wr)) (fun j _ => C - (intOf j).toNat)
  case atStart => exact ⟨0, rfl, Nat.zero_le _, R0, C0, M6, MB, TB, Z0, X0, B0⟩
  case round =>
    clear R0 C0 M6 MB TB Z0 X0 B0
    obtain ⟨n, rfl, hn, Rr, Cc, M6, MB, TB, ZZ, XX, B⟩ := hrel
    by_cases hlt : (n : Int) < (C : Int)
    · obtain ⟨_, _, zx, fx⟩ := XX.out
      obtain ⟨b2, o2, rfl, l2, e2⟩ := fx (by omega)
      have q2 := e2 n (by omega)
      obtain ⟨x0, x1⟩ := zx n
      clear zx fx e2
      have TV : Hid (gatV addS (tmf false Z S X n) (fun k => Z (n * S + k)) X 0 n = tmV false false Z S C X n) := rfl
      have TV2 : Hid (_ = _) := TV.out
      have TF : Hid (gatF addS (bits .or .u8 (tmF false false F Z S C X n) (mulS (Z (n * S + n)) (X n)).2) (tmf false Z S X n) (fun k => Z (n * S + k)) X 0 n = tmF false false F Z S C X (n + 1)) := rfl
      have hfx : tmf false Z S X n = (mulS (Z (n * S + n)) (X n)).1 := rfl
      rw [hfx] at TF TV2
      obtain ⟨f0, f1⟩ := mulS_rng (Z (n * S + n)) (X n)
      obtain ⟨d0, d1⟩ := ZZ.out.2.2.1 (n * S + n)
      obtain ⟨x, hx⟩ : ∃ x, X n = x := ⟨_, rfl⟩
      obtain ⟨d, hd⟩ : ∃ x, Z (n * S + n) = x := ⟨_, rfl⟩
      rw [hx, hd] at TF TV2 f0 f1
      rw [hx] at q2 x0 x1
      rw [hd] at d0 d1
      obtain ⟨M, hM⟩ : ∃ M, mulS d x = M := ⟨_, rfl⟩
      rw [hM] at TF TV2 f0 f1
      have HM : Hid (_ = _) := hM
      have HD : Hid (_ = _) := hd
      clear hx hfx hd hM TV
      obtain ⟨m, fm⟩ := M
      simp only at TF TV2 f0 f1
      obtain ⟨p0, p1, p2, p3, p4⟩ := M6.out
      go_wp2_with fail
      refine (mAtN C C S a len cap Z n n _ HH.out ZZ.out (by omega) (by omega)).mono ?_
      rintro e w3 ⟨rfl, hb1⟩
      rw [HD.out]
      replace Rr : Hid (Row1 _ _ _ _ _) := Rr.out.below hb1
      replace Cc : Hid (IsCalc _ _ _ _) := Cc.out.later hb1
      replace M6 : Hid (MBox _ _ _ _ _ _) := M6.out.below hb1
      replace MB : Hid (MBox _ _ _ _ _ _) := MB.out.below hb1
      replace TB : Hid (TBox _ _ _ _ _ _ _) := TB.out.below hb1
      replace ZZ : Hid (URow _ _ _ _ _) := ZZ.out.below hb1
      replace XX : Hid (URow _ _ _ _ _) := XX.out.below hb1
      replace B : Hid (Bes _ _ _) := B.out.step hb1
      clear hb1 p0 p1 p2 p3 p4 q2 l2
      go_wp2_with fail
      refine (uMul p c d x _ _ Cc.out d0 d1 x0 x1).mono ?_
      rintro e w4 ⟨rfl, hC_, hB⟩
      rw [HM.out] at hC_ ⊢
      replace Rr : Hid (Row1 _ _ _ _ _) := Rr.out.bes hB NG.out
      replace Cc : Hid (IsCalc _ _ _ _) := hC_
      replace M6 : Hid (MBox _ _ _ _ _ _) := M6.out.bes hB N6.out
      replace MB : Hid (MBox _ _ _ _ _ _) := MB.out.bes hB NB.out
      replace TB : Hid (TBox _ _ _ _ _ _ _) := TB.out.bes hB NT.out
      replace ZZ : Hid (URow _ _ _ _ _) := ZZ.out.bes hB AZ.out
      replace XX : Hid (URow _ _ _ _ _) := XX.out.bes hB AX.out
      replace B : Hid (Bes _ _ _) := B.out.trans hB
      clear hB hC_
      have q2 : True := trivial
      have l2 : True := trivial
      have HV := VR.out n
      obtain ⟨t0, t1, t2, t3, t4, t5, t6⟩ := TB.out
      go_wp2_with fail
      refine (sGatLA p c _ C S a len cap Z n _ (some ⟨b2, o2, none⟩) C cx X _ Cc.out  HH.out ZZ.out AZ.out XX.out AX.out (by omega) (Nat.le_refl _) f0 f1).mono ?_
      rintro e w5 ⟨rfl, hC_, hB⟩
      rw [TF.out] at hC_
      rw [TV2.out]
      have C5 : Hid (IsCalc w5 p c _) := hC_
      have R5 : Hid (Row1 w5 g1 C n (tmV false false Z S C X)) := Rr.out.bes hB NG.out
      have M65 : Hid (MBox _ _ _ _ _ _) := M6.out.bes hB N6.out
      have MB5 : Hid (MBox _ _ _ _ _ _) := MB.out.bes hB NB.out
      have TB5 : Hid (TBox _ _ _ _ _ _ _) := TB.out.bes hB NT.out
      have Z5 : Hid (URow w5 a len cap Z) := ZZ.out.bes hB AZ.out
      have X5 : Hid (URow w5 _ C cx X) := XX.out.bes hB AX.out
      have B5 : Hid (Bes c w w5) := B.out.trans hB
      obtain ⟨z, y1, y2⟩ := R5.out.at n (by omega)
      clear hC_ hB Cc Rr M6 MB TB ZZ XX B q2 l2 t0 t1 t2 t3 t4 t5 t6
      go_wp2
      go_roundw
      case rel =>
        have hP : Bes (some g1) w5 (w5.setCell ⟨g1, n, none⟩ (.int .u64 (tmV false false Z S C X n))) := Bes.put w5 g1 n _
        exact ⟨n + 1, by go_num, by omega, R5.out.set (by omega) rfl, C5.out.bes hP (fun k e e2 => NG.out (e.trans e2.symm)), M65.out.bes hP (ne_some G6.out), MB5.out.bes hP (ne_some GB.out), TB5.out.bes hP (ne_some GT.out), Z5.out.bes hP AGZ.out, X5.out.bes hP AGX.out, B5.out.young hP HG1.out⟩
      case measure => simp [intOf]; omega
    · obtain rfl : n = C := by omega
      go_wp2
      go_ret2
      exact ⟨g1, rfl, HG1.out, Rr.out.row (by omega) VR.out, Cc.out, B.out⟩
set_option maxHeartbeats 4000000 in
set_option maxRecDepth 100000 in
theorem sTrmvUT (p : Value) (c : Option Nat) (F : Int) (C S : Nat) (a : Option Addr) (len cap : Nat) (Z : Nat → Int) (ax : Option Addr) (cx : Nat) (X : Nat → Int) (w : World) (hc : IsCalc w p c F) (h : Rgt (C : Int) (C : Int) (S : Int) len) (hz : URow w a len cap Z) (az : Apt c a len) (hx : URow w ax C cx X) (axx : Apt c ax C) :
    Calls Try.prog 40 #[p, .agg #[.int .i64 (C : Int), .int .i64 (C : Int), .int .i64 (S : Int), .slice a len cap], .bool true, .bool true, .slice ax C cx] w fun e w' => ∃ g, e = .returned (.tuple #[.slice (some ⟨g, 0, none⟩) C C, .int .i64 0]) ∧ w.heap.size ≤ g ∧ URow w' (some ⟨g, 0, none⟩) C C (tmV true true Z S C X) ∧ IsCalc w' p c (tmF true true F Z S C X C) ∧ Bes c w w' := by
  have HC : Hid (IsCalc w p c F) := hc
  have HZ : Hid (URow w a len cap Z) := hz
  have AZ : Hid (Apt c a len) := az
  have HX : Hid (URow w ax C cx X) := hx
  have AX : Hid (Apt c ax C) := axx
  have HH : Hid (Rgt (C : Int) (C : Int) (S : Int) len) := h
  obtain ⟨lb, cb⟩ := hz.lenB
  obtain ⟨lbx, cbx⟩ := hx.lenB
  have c1 : (C : Int) ≤ 4096 := h.2.2.2.1
  have VR : Hid (∀ i, 0 ≤ tmV true true Z S C X i ∧ tmV true true Z S C X i < 18446744073709551616) := fun i => by
    have hf : 0 ≤ tmf true Z S X i ∧ tmf true Z S X i < 18446744073709551616 := hx.2.2.1 i
    exact gatV_rngA _ _ _ _ _ hf.1 hf.2
  have mk := mk_run C (by omega)
  obtain ⟨O, hO⟩ : ∃ O, O = ((List.replicate C (0 : Int)).map (Value.int .u64)).toArray := ⟨_, rfl⟩
  have HO : Hid (∀ (W : World) (Z : Nat → Int), Row1 (W.alloc (.cells O 23)) W.heap.size C 0 Z) := by rw [hO]; exact fun W Z => Row1.new W C Z
  rw [← hO] at mk
  clear hc hz hx h az axx hO
  go_enter Try.func40, Try.ntmps40
  go_wp2_with fail
  have mM := MBox.made w (C : Int) (C : Int) (S : Int) (.slice a len cap)
  have b0 : Below w.heap.size w (w.alloc (.cells #[.int .i64 (C : Int), .int .i64 (C : Int), .int .i64 (S : Int), .slice a len cap] 26)) := bmore (Below.refl _ _) _
  generalize (w.alloc (.cells #[.int .i64 (C : Int), .int .i64 (C : Int), .int .i64 (S : Int), .slice a len cap] 26)) = W0 at mM b0 ⊢
  obtain ⟨k6, hk6⟩ : ∃ k, k = w.heap.size := ⟨_, rfl⟩
  rw [← hk6] at mM ⊢
  have N6 : Hid (c ≠ some k6) := fun e => by have := HC.out.lt _ e; omega
  clear hk6
  refine (sFitsOk C S a len cap ax cx W0 HH.out lb).mono ?_
  rintro e w1 ⟨rfl, hb1⟩
  have M6 : Hid (MBox _ _ _ _ _ _) := mM.below hb1
  have BW : Hid (Below w.heap.size w w1) := bstep b0 hb1
  clear mM b0 hb1
  obtain ⟨q0, q1, q2, q3, q4⟩ := M6.out
  go_wp2_with fail
  refine (sTriU C S a len cap w1).mono ?_
  rintro e w2 ⟨kb, rfl, hkb, hkg, hb1⟩
  have NB : Hid (c ≠ some kb) := fun e => by have := HC.out.lt _ e; have := Below.size BW.out; omega
  replace M6 : Hid (MBox _ _ _ _ _ _) := M6.out.below hb1
  replace BW : Hid (Below w.heap.size w w2) := bstep BW.out hb1
  have MB : Hid (MBox w2 kb (C : Int) (C : Int) (S : Int) (.slice a len cap)) := hkb
  clear hb1 hkb hkg q0 q1 q2 q3 q4
  go_upto_region 4 with fail
  have mT := TBox.made w2 (C : Int) (S : Int) (.slice a len cap) (.func (.func 118) #[] #[.pointer (some ⟨kb, 0, none⟩)]) (.func (.func 119) #[] #[.pointer (some ⟨kb, 0, none⟩)])
  have b0 : Below w2.heap.size w2 (w2.alloc (.cells #[.int .i64 (C : Int), .int .i64 (C : Int), .int .i64 (S : Int), .slice a len cap, .func (.func 118) #[] #[.pointer (some ⟨kb, 0, none⟩)], .func (.func 119) #[] #[.pointer (some ⟨kb, 0, none⟩)]] 108)) := bmore (Below.refl _ _) _
  generalize (w2.alloc (.cells #[.int .i64 (C : Int), .int .i64 (C : Int), .int .i64 (S : Int), .slice a len cap, .func (.func 118) #[] #[.pointer (some ⟨kb, 0, none⟩)], .func (.func 119) #[] #[.pointer (some ⟨kb, 0, none⟩)]] 108)) = W3 at mT b0 ⊢
  obtain ⟨kt, hkt⟩ : ∃ k, k = w2.heap.size := ⟨_, rfl⟩
  rw [← hkt] at mT ⊢
  have NT : Hid (c ≠ some kt) := fun e => by have := HC.out.lt _ e; have := Below.size BW.out; omega
  replace M6 : Hid (MBox _ _ _ _ _ _) := M6.out.below b0
  replace MB : Hid (MBox _ _ _ _ _ _) := MB.out.below b0
  replace BW : Hid (Below _ _ _) := bstep BW.out b0
  have TB : Hid (TBox _ _ _ _ _ _ _) := mT
  clear mT b0 hkt
  go_wp2
  have bA : Below W3.heap.size W3 (W3.alloc (.cells O 23)) := bmore (Below.refl _ _) _
  have RW := HO.out W3 (tmV true true Z S C X)
  obtain ⟨g1, hg1⟩ : ∃ g, g = W3.heap.size := ⟨_, rfl⟩
  have G6 : Hid (g1 ≠ k6) := by have := M6.out.2.2.2.2; show _ ≠ _; omega
  have GB : Hid (g1 ≠ kb) := by have := MB.out.2.2.2.2; show _ ≠ _; omega
  have GT : Hid (g1 ≠ kt) := by have := TB.out.2.2.2.2.2.2; show _ ≠ _; omega
  have HG1 : Hid (w.heap.size ≤ g1) := by show _ ≤ _; have := Below.size BW.out; omega
  have NG : Hid (c ≠ some g1) := fun e => by have := HC.out.lt _ e; have := HG1.out; omega
  have AGX : Hid (Apt (some g1) ax C) := HX.out.apt (fun k e => by injection e with e; have := HG1.out; omega)
  have AGZ : Hid (Apt (some g1) a len) := HZ.out.apt (fun k e => by injection e with e; have := HG1.out; omega)
  rw [← hg1] at RW ⊢
  generalize (W3.alloc (.cells O 23)) = V at RW bA ⊢
  replace M6 : Hid (MBox _ _ _ _ _ _) := M6.out.below bA
  replace MB : Hid (MBox _ _ _ _ _ _) := MB.out.below bA
  replace TB : Hid (TBox _ _ _ _ _ _ _) := TB.out.below bA
  replace BW : Hid (Below _ _ _) := bstep BW.out bA
  have R0 : Hid (Row1 V g1 C 0 (tmV true true Z S C X)) := RW
  have C0 : Hid (IsCalc V p c F) := HC.out.later BW.out
  have Z0 : Hid (URow V a len cap Z) := HZ.out.below BW.out
  have X0 : Hid (URow V ax C cx X) := HX.out.below BW.out
  have B0 : Hid (Bes c w V) := Bes.of BW.out
  clear bA RW hg1 HO mk BW
  go_loopw [28] (fun j wr => ∃ n : Nat, j = .int .i64 (n : Int) ∧ n ≤ C ∧ Hid (Row1 wr g1 C n (tmV true true Z S C X)) ∧ Hid (IsCalc wr p c (tmF true true F Z S C X n)) ∧ Hid (MBox wr k6 (C : Int) (C : Int) (S : Int) (.slice a len cap)) ∧ Hid (MBox wr kb (C : Int) (C : Int) (S : Int) (.slice a len cap)) ∧ Hid (TBox wr kt (C : Int) (S : Int) (.slice a len cap) (.func (.func 118) #[] #[.pointer (some ⟨kb, 0, none⟩)]) (.func (.func 119) #[] #[.pointer (some ⟨kb, 0, none⟩)])) ∧ Hid (URow wr a len cap Z) ∧ Hid (URow wr ax C cx X) ∧ Hid (Bes c w wr)) (fun j _ => C - (intOf j).toNat)
  case atStart => exact ⟨0, rfl, Nat.zero_le _, R0, C0, M6, MB, TB, Z0, X0, B0⟩
  case round =>
    clear R0 C0 M6 MB TB Z0 X0 B0
    obtain ⟨n, rfl, hn, Rr, Cc, M6, MB, TB, ZZ, XX, B⟩ := hrel
    by_cases hlt : (n : Int) < (C : Int)
    · obtain ⟨_, _, zx, fx⟩ := XX.out
      obtain ⟨b2, o2, rfl, l2, e2⟩ := fx (by omega)
      have q2 := e2 n (by omega)
      obtain ⟨x0, x1⟩ := zx n
      clear zx fx e2
      have TV : Hid (gatV addS (tmf true Z S X n) (fun k => Z (n * S + k)) X (n + 1) (C - (n + 1)) = tmV true true Z S C X n) := rfl
      have TV2 : Hid (_ = _) := TV.out
      have TF : Hid (gatF addS (tmF true true F Z S C X n) (tmf true Z S X n) (fun k => Z (n * S + k)) X (n + 1) (C - (n + 1)) = tmF true true F Z S C X (n + 1)) := rfl
      have hfx : tmf true Z S X n = X n := rfl
      rw [hfx] at TF TV2
      obtain ⟨f0, f1⟩ := XX.out.2.2.1 n
      obtain ⟨x, hx⟩ : ∃ x, X n = x := ⟨_, rfl⟩
      rw [hx] at TF TV2 q2 f0 f1 x0 x1
      clear hx hfx TV
      have HV := VR.out n
      obtain ⟨t0, t1, t2, t3, t4, t5, t6⟩ := TB.out
      go_wp2_with fail
      refine (sGatUA p c _ C S a len cap Z n _ (some ⟨b2, o2, none⟩) C cx X kb _ Cc.out MB.out HH.out ZZ.out AZ.out XX.out AX.out (by omega) (Nat.le_refl _) f0 f1).mono ?_
      rintro e w5 ⟨rfl, hC_, hB⟩
      rw [TF.out] at hC_
      rw [TV2.out]
      have C5 : Hid (IsCalc w5 p c _) := hC_
      have R5 : Hid (Row1 w5 g1 C n (tmV true true Z S C X)) := Rr.out.bes hB NG.out
      have M65 : Hid (MBox _ _ _ _ _ _) := M6.out.bes hB N6.out
      have MB5 : Hid (MBox _ _ _ _ _ _) := MB.out.bes hB NB.out
      have TB5 : Hid (TBox _ _ _ _ _ _ _) := TB.out.bes hB NT.out
      have Z5 : Hid (URow w5 a len cap Z) := ZZ.out.bes hB AZ.out
      have X5 : Hid (URow w5 _ C cx X) := XX.out.bes hB AX.out
      have B5 : Hid (Bes c w w5) := B.out.trans hB
      obtain ⟨z, y1, y2⟩ := R5.out.at n (by omega)
      clear hC_ hB Cc Rr M6 MB TB ZZ XX B q2 l2 t0 t1 t2 t3 t4 t5 t6
      go_wp2
      go_roundw
      case rel =>
        have hP : Bes (some g1) w5 (w5.setCell ⟨g1, n, none⟩ (.int .u64 (tmV true true Z S C X n))) := Bes.put w5 g1 n _
        exact ⟨n + 1, by go_num, by omega, R5.out.set (by omega) rfl, C5.out.bes hP (fun k e e2 => NG.out (e.trans e2.symm)), M65.out.bes hP (ne_some G6.out), MB5.out.bes hP (ne_some GB.out), TB5.out.bes hP (ne_some GT.out), Z5.out.bes hP AGZ.out, X5.out.bes hP AGX.out, B5.out.young hP HG1.out⟩
      case measure => simp [intOf]; omega
    · obtain rfl : n = C := by omega
      go_wp2
      go_ret2
      exact ⟨g1, rfl, HG1.out, Rr.out.row (by omega) VR.out, Cc.out, B.out⟩
set_option maxHeartbeats 4000000 in
set_option maxRecDepth 100000 in
theorem sTrmvUF (p : Value) (c : Option Nat) (F : Int) (C S : Nat) (a : Option Addr) (len cap : Nat) (Z : Nat → Int) (ax : Option Addr) (cx : Nat) (X : Nat → Int) (w : World) (hc : IsCalc w p c F) (h : Rgt (C : Int) (C : Int) (S : Int) len) (hz : URow w a len cap Z) (az : Apt c a len) (hx : URow w ax C cx X) (axx : Apt c ax C) :
    Calls Try.prog 40 #[p, .agg #[.int .i64 (C : Int), .int .i64 (C : Int), .int .i64 (S : Int), .slice a len cap], .bool true, .bool false, .slice ax C cx] w fun e w' => ∃ g, e = .returned (.tuple #[.slice (some ⟨g, 0, none⟩) C C, .int .i64 0]) ∧ w.heap.size ≤ g ∧ URow w' (some ⟨g, 0, none⟩) C C (tmV true false Z S C X) ∧ IsCalc w' p c (tmF true false F Z S C X C) ∧ Bes c w w' := by
  have HC : Hid (IsCalc w p c F) := hc
  have HZ : Hid (URow w a len cap Z) := hz
  have AZ : Hid (Apt c a len) := az
  have HX : Hid (URow w ax C cx X) := hx
  have AX : Hid (Apt c ax C) := axx
  have HH : Hid (Rgt (C : Int) (C : Int) (S : Int) len) := h
  obtain ⟨lb, cb⟩ := hz.lenB
  obtain ⟨lbx, cbx⟩ := hx.lenB
  have c1 : (C : Int) ≤ 4096 := h.2.2.2.1
  have VR : Hid (∀ i, 0 ≤ tmV true false Z S C X i ∧ tmV true false Z S C X i < 18446744073709551616) := fun i => by
    have hf : 0 ≤ tmf false Z S X i ∧ tmf false Z S X i < 18446744073709551616 := mulS_rng _ _
    exact gatV_rngA _ _ _ _ _ hf.1 hf.2
  have mk := mk_run C (by omega)
  obtain ⟨O, hO⟩ : ∃ O, O = ((List.replicate C (0 : Int)).map (Value.int .u64)).toArray := ⟨_, rfl⟩
  have HO : Hid (∀ (W : World) (Z : Nat → Int), Row1 (W.alloc (.cells O 23)) W.heap.size C 0 Z) := by rw [hO]; exact fun W Z => Row1.new W C Z
  rw [← hO] at mk
  clear hc hz hx h az axx hO
  go_enter Try.func40, Try.ntmps40
  go_wp2_with fail
  have mM := MBox.made w (C : Int) (C : Int) (S : Int) (.slice a len cap)
  have b0 : Below w.heap.size w (w.alloc (.cells #[.int .i64 (C : Int), .int .i64 (C : Int), .int .i64 (S : Int), .slice a len cap] 26)) := bmore (Below.refl _ _) _
  generalize (w.alloc (.cells #[.int .i64 (C : Int), .int .i64 (C : Int), .int .i64 (S : Int), .slice a len cap] 26)) = W0 at mM b0 ⊢
  obtain ⟨k6, hk6⟩ : ∃ k, k = w.heap.size := ⟨_, rfl⟩
  rw [← hk6] at mM ⊢
  have N6 : Hid (c ≠ some k6) := fun e => by have := HC.out.lt _ e; omega
  clear hk6
  refine (sFitsOk C S a len cap ax cx W0 HH.out lb).mono ?_
  rintro e w1 ⟨rfl, hb1⟩
  have M6 : Hid (MBox _ _ _ _ _ _) := mM.below hb1
  have BW : Hid (Below w.heap.size w w1) := bstep b0 hb1
  clear mM b0 hb1
  obtain ⟨q0, q1, q2, q3, q4⟩ := M6.out
  go_wp2_with fail
  refine (sTriU C S a len cap w1).mono ?_
  rintro e w2 ⟨kb, rfl, hkb, hkg, hb1⟩
  have NB : Hid (c ≠ some kb) := fun e => by have := HC.out.lt _ e; have := Below.size BW.out; omega
  replace M6 : Hid (MBox _ _ _ _ _ _) := M6.out.below hb1
  replace BW : Hid (Below w.heap.size w w2) := bstep BW.out hb1
  have MB : Hid (MBox w2 kb (C : Int) (C : Int) (S : Int) (.slice a len cap)) := hkb
  clear hb1 hkb hkg q0 q1 q2 q3 q4
  go_upto_region 4 with fail
  have mT := TBox.made w2 (C : Int) (S : Int) (.slice a len cap) (.func (.func 118) #[] #[.pointer (some ⟨kb, 0, none⟩)]) (.func (.func 119) #[] #[.pointer (some ⟨kb, 0, none⟩)])
  have b0 : Below w2.heap.size w2 (w2.alloc (.cells #[.int .i64 (C : Int), .int .i64 (C : Int), .int .i64 (S : Int), .slice a len cap, .func (.func 118) #[] #[.pointer (some ⟨kb, 0, none⟩)], .func (.func 119) #[] #[.pointer (some ⟨kb, 0, none⟩)]] 108)) := bmore (Below.refl _ _) _
  generalize (w2.alloc (.cells #[.int .i64 (C : Int), .int .i64 (C : Int), .int .i64 (S : Int), .slice a len cap, .func (.func 118) #[] #[.pointer (some ⟨kb, 0, none⟩)], .func (.func 119) #[] #[.pointer (some ⟨kb, 0, none⟩)]] 108)) = W3 at mT b0 ⊢
  obtain ⟨kt, hkt⟩ : ∃ k, k = w2.heap.size := ⟨_, rfl⟩
  rw [← hkt] at mT ⊢
  have NT : Hid (c ≠ some kt) := fun e => by have := HC.out.lt _ e; have := Below.size BW.out; omega
  replace M6 : Hid (MBox _ _ _ _ _ _) := M6.out.below b0
  replace MB : Hid (MBox _ _ _ _ _ _) := MB.out.below b0
  replace BW : Hid (Below _ _ _) := bstep BW.out b0
  have TB : Hid (TBox _ _ _ _ _ _ _) := mT
  clear mT b0 hkt
  go_wp2
  have bA : Below W3.heap.size W3 (W3.alloc (.cells O 23)) := bmore (Below.refl _ _) _
  have RW := HO.out W3 (tmV true false Z S C X)
  obtain ⟨g1, hg1⟩ : ∃ g, g = W3.heap.size := ⟨_, rfl⟩
  have G6 : Hid (g1 ≠ k6) := by have := M6.out.2.2.2.2; show _ ≠ _; omega
  have GB : Hid (g1 ≠ kb) := by have := MB.out.2.2.2.2; show _ ≠ _; omega
  have GT : Hid (g1 ≠ kt) := by have := TB.out.2.2.2.2.2.2; show _ ≠ _; omega
  have HG1 : Hid (w.heap.size ≤ g1) := by show _ ≤ _; have := Below.size BW.out; omega
  have NG : Hid (c ≠ some g1) := fun e => by have := HC.out.lt _ e; have := HG1.out; omega
  have AGX : Hid (Apt (some g1) ax C) := HX.out.apt (fun k e => by injection e with e; have := HG1.out; omega)
  have AGZ : Hid (Apt (some g1) a len) := HZ.out.apt (fun k e => by injection e with e; have := HG1.out; omega)
  rw [← hg1] at RW ⊢
  generalize (W3.alloc (.cells O 23)) = V at RW bA ⊢
  replace M6 : Hid (MBox _ _ _ _ _ _) := M6.out.below bA
  replace MB : Hid (MBox _ _ _ _ _ _) := MB.out.below bA
  replace TB : Hid (TBox _ _ _ _ _ _ _) := TB.out.below bA
  replace BW : Hid (Below _ _ _) := bstep BW.out bA
  have R0 : Hid (Row1 V g1 C 0 (tmV true false Z S C X)) := RW
  have C0 : Hid (IsCalc V p c F) := HC.out.later BW.out
  have Z0 : Hid (URow V a len cap Z) := HZ.out.below BW.out
  have X0 : Hid (URow V ax C cx X) := HX.out.below BW.out
  have B0 : Hid (Bes c w V) := Bes.of BW.out
  clear bA RW hg1 HO mk BW
  go_loopw [28] (fun j wr => ∃ n : Nat, j = .int .i64 (n : Int) ∧ n ≤ C ∧ Hid (Row1 wr g1 C n (tmV true false Z S C X)) ∧ Hid (IsCalc wr p c (tmF true false F Z S C X n)) ∧ Hid (MBox wr k6 (C : Int) (C : Int) (S : Int) (.slice a len cap)) ∧ Hid (MBox wr kb (C : Int) (C : Int) (S : Int) (.slice a len cap)) ∧ Hid (TBox wr kt (C : Int) (S : Int) (.slice a len cap) (.func (.func 118) #[] #[.pointer (some ⟨kb, 0, none⟩)]) (.func (.func 119) #[] #[.pointer (some ⟨kb, 0, none⟩)])) ∧ Hid (URow wr a len cap Z) ∧ Hid (URow wr ax C cx X) ∧ Hid (Bes c w wr)) (fun j _ => C - (intOf j).toNat)
  case atStart => exact ⟨0, rfl, Nat.zero_le _, R0, C0, M6, MB, TB, Z0, X0, B0⟩
  case round =>
    clear R0 C0 M6 MB TB Z0 X0 B0
    obtain ⟨n, rfl, hn, Rr, Cc, M6, MB, TB, ZZ, XX, B⟩ := hrel
    by_cases hlt : (n : Int) < (C : Int)
    · obtain ⟨_, _, zx, fx⟩ := XX.out
      obtain ⟨b2, o2, rfl, l2, e2⟩ := fx (by omega)
      have q2 := e2 n (by omega)
      obtain ⟨x0, x1⟩ := zx n
      clear zx fx e2
      have TV : Hid (gatV addS (tmf false Z S X n) (fun k => Z (n * S + k)) X (n + 1) (C - (n + 1)) = tmV true false Z S C X n) := rfl
      have TV2 : Hid (_ = _) := TV.out
      have TF : Hid (gatF addS (bits .or .u8 (tmF true false F Z S C X n) (mulS (Z (n * S + n)) (X n)).2) (tmf false Z S X n) (fun k => Z (n * S + k)) X (n + 1) (C - (n + 1)) = tmF true false F Z S C X (n + 1)) := rfl
      have hfx : tmf false Z S X n = (mulS (Z (n * S + n)) (X n)).1 := rfl
      rw [hfx] at TF TV2
      obtain ⟨f0, f1⟩ := mulS_rng (Z (n * S + n)) (X n)
      obtain ⟨d0, d1⟩ := ZZ.out.2.2.1 (n * S + n)
      obtain ⟨x, hx⟩ : ∃ x, X n = x := ⟨_, rfl⟩
      obtain ⟨d, hd⟩ : ∃ x, Z (n * S + n) = x := ⟨_, rfl⟩
      rw [hx, hd] at TF TV2 f0 f1
      rw [hx] at q2 x0 x1
      rw [hd] at d0 d1
      obtain ⟨M, hM⟩ : ∃ M, mulS d x = M := ⟨_, rfl⟩
      rw [hM] at TF TV2 f0 f1
      have HM : Hid (_ = _) := hM
      have HD : Hid (_ = _) := hd
      clear hx hfx hd hM TV
      obtain ⟨m, fm⟩ := M
      simp only at TF TV2 f0 f1
      obtain ⟨p0, p1, p2, p3, p4⟩ := M6.out
      go_wp2_with fail
      refine (mAtN C C S a len cap Z n n _ HH.out ZZ.out (by omega) (by omega)).mono ?_
      rintro e w3 ⟨rfl, hb1⟩
      rw [HD.out]
      replace Rr : Hid (Row1 _ _ _ _ _) := Rr.out.below hb1
      replace Cc : Hid (IsCalc _ _ _ _) := Cc.out.later hb1
      replace M6 : Hid (MBox _ _ _ _ _ _) := M6.out.below hb1
      replace MB : Hid (MBox _ _ _ _ _ _) := MB.out.below hb1
      replace TB : Hid (TBox _ _ _ _ _ _ _) := TB.out.below hb1
      replace ZZ : Hid (URow _ _ _ _ _) := ZZ.out.below hb1
      replace XX : Hid (URow _ _ _ _ _) := XX.out.below hb1
      replace B : Hid (Bes _ _ _) := B.out.step hb1
      clear hb1 p0 p1 p2 p3 p4 q2 l2
      go_wp2_with fail
      refine (uMul p c d x _ _ Cc.out d0 d1 x0 x1).mono ?_
      rintro e w4 ⟨rfl, hC_, hB⟩
      rw [HM.out] at hC_ ⊢
      replace Rr : Hid (Row1 _ _ _ _ _) := Rr.out.bes hB NG.out
      replace Cc : Hid (IsCalc _ _ _ _) := hC_
      replace M6 : Hid (MBox _ _ _ _ _ _) := M6.out.bes hB N6.out
      replace MB : Hid (MBox _ _ _ _ _ _) := MB.out.bes hB NB.out
      replace TB : Hid (TBox _ _ _ _ _ _ _) := TB.out.bes hB NT.out
      replace ZZ : Hid (URow _ _ _ _ _) := ZZ.out.bes hB AZ.out
      replace XX : Hid (URow _ _ _ _ _) := XX.out.bes hB AX.out
      replace B : Hid (Bes _ _ _) := B.out.trans hB
      clear hB hC_
      have q2 : True := trivial
      have l2 : True := trivial
      have HV := VR.out n
      obtain ⟨t0, t1, t2, t3, t4, t5, t6⟩ := TB.out
      go_wp2_with fail
      refine (sGatUA p c _ C S a len cap Z n _ (some ⟨b2, o2, none⟩) C cx X kb _ Cc.out MB.out HH.out ZZ.out AZ.out XX.out AX.out (by omega) (Nat.le_refl _) f0 f1).mono ?_
      rintro e w5 ⟨rfl, hC_, hB⟩
      rw [TF.out] at hC_
      rw [TV2.out]
      have C5 : Hid (IsCalc w5 p c _) := hC_
      have R5 : Hid (Row1 w5 g1 C n (tmV true false Z S C X)) := Rr.out.bes hB NG.out
      have M65 : Hid (MBox _ _ _ _ _ _) := M6.out.bes hB N6.out
      have MB5 : Hid (MBox _ _ _ _ _ _) := MB.out.bes hB NB.out
      have TB5 : Hid (TBox _ _ _ _ _ _ _) := TB.out.bes hB NT.out
      have Z5 : Hid (URow w5 a len cap Z) := ZZ.out.bes hB AZ.out
      have X5 : Hid (URow w5 _ C cx X) := XX.out.bes hB AX.out
      have B5 : Hid (Bes c w w5) := B.out.trans hB
      obtain ⟨z, y1, y2⟩ := R5.out.at n (by omega)
      clear hC_ hB Cc Rr M6 MB TB ZZ XX B q2 l2 t0 t1 t2 t3 t4 t5 t6
      go_wp2
      go_roundw
      case rel =>
        have hP : Bes (some g1) w5 (w5.setCell ⟨g1, n, none⟩ (.int .u64 (tmV true false Z S C X n))) := Bes.put w5 g1 n _
        exact ⟨n + 1, by go_num, by omega, R5.out.set (by omega) rfl, C5.out.bes hP (fun k e e2 => NG.out (e.trans e2.symm)), M65.out.bes hP (ne_some G6.out), MB5.out.bes hP (ne_some GB.out), TB5.out.bes hP (ne_some GT.out), Z5.out.bes hP AGZ.out, X5.out.bes hP AGX.out, B5.out.young hP HG1.out⟩
      case measure => simp [intOf]; omega
    · obtain rfl : n = C := by omega
      go_wp2
      go_ret2
      exact ⟨g1, rfl, HG1.out, Rr.out.row (by omega) VR.out, Cc.out, B.out⟩
end Go.Proofs.Ytpakpgjbgehhjaa
