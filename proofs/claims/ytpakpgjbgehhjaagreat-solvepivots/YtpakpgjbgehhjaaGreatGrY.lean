/-
  Texts put together: SolC.
-/
import Derived.Test.YtpakpgjbgehhjaaGreatProg
import Derived.Test.YtpakpgjbgehhjaaGreatGrX
import Derived.Test.YtpakpgjbgehhjaaGreatGrT
/-
  What solve's hasZero and Trsv return, with any Calc: step by step, and all flags. Conditions: a square matrix that is right; the list lies beside the Calc.
-/
namespace Go.Proofs.YtpakpgjbgehhjaaGreat
open Go.RowKit
set_option linter.unusedVariables false
set_option linter.unusedSimpArgs false

theorem uDiv (p : Value) (c : Option Nat) (a b F : Int) (w : World) (hc : IsCalc w p c F) (h0 : 0 ≤ a) (h1 : a < 18446744073709551616) (g0 : 0 ≤ b) (g1 : b < 18446744073709551616) :
    Calls Tryz.prog 33 #[p, .int .u64 a, .int .u64 b] w fun e w' => e = .returned (.int .u64 (divS a b).1) ∧ IsCalc w' p c (bits .or .u8 F (divS a b).2) ∧ Bes c w w' := by
  rcases hc with ⟨rfl, rfl⟩ | ⟨k, rfl, rfl, h3, h4, h5⟩
  · refine (cDiv0 a b w h0 h1 g0 g1).mono ?_
    rintro e w' ⟨rfl, hb⟩
    exact ⟨rfl, IsCalc.nil _ _, Bes.of hb⟩
  · refine (cDiv k a b F w h0 h1 g0 g1 h3 h4 h5).mono ?_
    rintro e w' ⟨rfl, w1, hb, rfl⟩
    exact ⟨rfl, calc_set h3 hb h5 F h4⟩
set_option maxHeartbeats 2000000 in
theorem sHasZero (C S : Nat) (a : Option Addr) (len cap : Nat) (Z : Nat → Int) (w : World) (h : Rgt (C : Int) (C : Int) (S : Int) len) (hz : URow w a len cap Z) :
    Calls Tryz.prog 29 #[.agg #[.int .i64 (C : Int), .int .i64 (C : Int), .int .i64 (S : Int), .slice a len cap]] w fun e w' => (e = .returned (.bool true) ∧ (∃ i, i < C ∧ Z (i * S + i) % 9223372036854775808 = 0) ∨ e = .returned (.bool false) ∧ ∀ i, i < C → Z (i * S + i) % 9223372036854775808 ≠ 0) ∧ Below w.heap.size w w' := by
  have HZ : Hid (URow w a len cap Z) := hz
  have HH : Hid (Rgt (C : Int) (C : Int) (S : Int) len) := h
  have c1 : (C : Int) ≤ 4096 := h.2.2.2.1
  clear hz h
  go_enter Tryz.func29, Tryz.ntmps29
  go_upto_region 1 with fail
  have mM := MBox.made w (C : Int) (C : Int) (S : Int) (.slice a len cap)
  have b0 : Below w.heap.size w (w.alloc (.cells #[.int .i64 (C : Int), .int .i64 (C : Int), .int .i64 (S : Int), .slice a len cap] 25)) := bmore (Below.refl _ _) _
  generalize (w.alloc (.cells #[.int .i64 (C : Int), .int .i64 (C : Int), .int .i64 (S : Int), .slice a len cap] 25)) = W0 at mM b0 ⊢
  obtain ⟨k1, hk1⟩ : ∃ k, k = w.heap.size := ⟨_, rfl⟩
  rw [← hk1] at mM ⊢
  have M : Hid (MBox _ _ _ _ _ _) := mM
  have BW : Hid (Below w.heap.size w W0) := b0
  clear mM b0 hk1
  obtain ⟨q0, q1, q2, q3, q4⟩ := M.out
  go_wp2
  clear q0 q1 q2 q3 q4
  go_loopw [6] (fun j wr => ∃ n : Nat, j = .int .i64 (n : Int) ∧ n ≤ C ∧ Hid (∀ i, i < n → Z (i * S + i) % 9223372036854775808 ≠ 0) ∧ Hid (MBox wr k1 (C : Int) (C : Int) (S : Int) (.slice a len cap)) ∧ Hid (Below w.heap.size w wr)) (fun j _ => C - (intOf j).toNat)
  case atStart => exact ⟨0, rfl, Nat.zero_le _, fun i h => absurd h (Nat.not_lt_zero i), M, BW⟩
  case round =>
    clear M BW
    obtain ⟨n, rfl, hn, A, M, BW⟩ := hrel
    obtain ⟨q0, q1, q2, q3, q4⟩ := M.out
    by_cases hlt : (n : Int) < (C : Int)
    · obtain ⟨x0, x1⟩ := HZ.out.2.2.1 (n * S + n)
      obtain ⟨x, hx⟩ : ∃ x, Z (n * S + n) = x := ⟨_, rfl⟩
      have HX : Hid (_ = _) := hx
      rw [hx] at x0 x1
      clear hx
      go_wp2_with fail
      refine (mAtN C C S a len cap Z n n _ HH.out (HZ.out.below BW.out) (by omega) (by omega)).mono ?_
      rintro e w1 ⟨rfl, hb1⟩
      rw [HX.out]
      replace M : Hid (MBox _ _ _ _ _ _) := M.out.below hb1
      replace BW : Hid (Below _ _ _) := bstep BW.out hb1
      clear hb1 q0 q1 q2 q3 q4
      go_wp2_with fail
      refine (abs_any x _ x0 x1).mono ?_
      rintro e w2 ⟨rfl, hw⟩
      have hw2 := hw.symm
      clear hw
      subst hw2
      by_cases h0 : x % 9223372036854775808 = 0
      · have HE : Hid (∃ i, i < C ∧ Z (i * S + i) % 9223372036854775808 = 0) := ⟨n, by omega, by rw [HX.out]; exact h0⟩
        rw [h0]
        clear h0
        go_wp2
        go_ret
        exact ⟨.inl ⟨ret_eq rfl, HE.out⟩, BW.out⟩
      · have A2 : Hid (∀ i, i < n + 1 → Z (i * S + i) % 9223372036854775808 ≠ 0) := fun i hi => by
          rcases Nat.lt_or_ge i n with g | g
          · exact A.out i g
          · rw [show i = n by omega, HX.out]; exact h0
        have hb0 : (x % 9223372036854775808 == 0) = false := by rw [beq_eq_false_iff_ne]; exact h0
        obtain ⟨y, hy⟩ : ∃ y, x % 9223372036854775808 = y := ⟨_, rfl⟩
        rw [hy] at h0 hb0 ⊢
        clear hy
        go_wp2
        go_roundw
        case rel => exact ⟨n + 1, by go_num, by omega, A2, M, BW⟩
        case measure => simp [intOf]; omega
    · obtain rfl : n = C := by omega
      go_wp2
      go_ret
      exact ⟨.inr ⟨ret_eq rfl, A.out⟩, BW.out⟩
theorem divS_rng (a b : Int) (h0 : 0 ≤ a) (h1 : a < 18446744073709551616) (g0 : 0 ≤ b) (g1 : b < 18446744073709551616) : 0 ≤ (divS a b).1 ∧ (divS a b).1 < 18446744073709551616 := by
  have := divS_bd a b
  omega
/-- Which row a step is about. -/
def svI (up : Bool) (C s : Nat) : Nat := if up then C - 1 - s else s
/-- What a row leaves, ahead of the division. -/
def svR (up : Bool) (Z : Nat → Int) (S C : Nat) (Bv X : Nat → Int) (i : Nat) : Int := gatV subS (Bv i) (fun k => Z (i * S + k)) X (tb up i) (tn up C i)
def svQ (unit : Bool) (r d : Int) : Int := if unit then r else (divS r d).1
/-- The answer behind s steps, zeros where none has come. -/
def svX (up unit : Bool) (Z : Nat → Int) (S C : Nat) (Bv : Nat → Int) : Nat → Nat → Int
  | 0 => fun _ => 0
  | s + 1 => fun k => if k = svI up C s then svQ unit (svR up Z S C Bv (svX up unit Z S C Bv s) (svI up C s)) (Z (svI up C s * S + svI up C s)) else svX up unit Z S C Bv s k
/-- The flags. -/
def svF (up unit : Bool) (F : Int) (Z : Nat → Int) (S C : Nat) (Bv : Nat → Int) : Nat → Int
  | 0 => F
  | s + 1 => if unit then gatF subS (svF up unit F Z S C Bv s) (Bv (svI up C s)) (fun k => Z (svI up C s * S + k)) (svX up unit Z S C Bv s) (tb up (svI up C s)) (tn up C (svI up C s))
      else bits .or .u8 (gatF subS (svF up unit F Z S C Bv s) (Bv (svI up C s)) (fun k => Z (svI up C s * S + k)) (svX up unit Z S C Bv s) (tb up (svI up C s)) (tn up C (svI up C s))) (divS (svR up Z S C Bv (svX up unit Z S C Bv s) (svI up C s)) (Z (svI up C s * S + svI up C s))).2
theorem svR_rng (up : Bool) (Z : Nat → Int) (S C : Nat) (Bv X : Nat → Int) (i : Nat) (hB : ∀ i, 0 ≤ Bv i ∧ Bv i < 18446744073709551616) : 0 ≤ svR up Z S C Bv X i ∧ svR up Z S C Bv X i < 18446744073709551616 := gatV_rngS _ _ _ _ _ (hB i).1 (hB i).2
theorem list_upd {xs : List Int} {X Y : Nat → Int} {C i : Nat} {v : Int} (hl : xs.length = C) (hi : i < C) (hx : ∀ j, xs[j]?.getD 0 = X j) (hy : ∀ k, Y k = if k = i then v else X k) : ∀ j, (xs.set i v)[j]?.getD 0 = Y j := by
  intro j
  rw [List.getElem?_set, hy j]
  by_cases e : i = j
  · subst e
    rw [if_pos rfl, if_pos (by omega), if_pos rfl]
    rfl
  · rw [if_neg e, if_neg (fun h => e h.symm)]
    exact hx j
set_option maxHeartbeats 4000000 in
set_option maxRecDepth 100000 in
theorem sTrsvLT (p : Value) (c : Option Nat) (F : Int) (C S : Nat) (a : Option Addr) (len cap : Nat) (Z : Nat → Int) (ax : Option Addr) (cx : Nat) (X : Nat → Int) (w : World) (hc : IsCalc w p c F) (h : Rgt (C : Int) (C : Int) (S : Int) len) (hz : URow w a len cap Z) (az : Apt c a len) (hx : URow w ax C cx X) (axx : Apt c ax C) :
    Calls Tryz.prog 8 #[p, .agg #[.int .i64 (C : Int), .int .i64 (C : Int), .int .i64 (S : Int), .slice a len cap], .bool false, .bool true, .slice ax C cx] w fun e w' => ∃ g, e = .returned (.tuple #[.slice (some ⟨g, 0, none⟩) C C, .int .i64 0]) ∧ w.heap.size ≤ g ∧ URow w' (some ⟨g, 0, none⟩) C C (svX false true Z S C X C) ∧ IsCalc w' p c (svF false true F Z S C X C) ∧ Bes c w w' := by
  have HC : Hid (IsCalc w p c F) := hc
  have HZ : Hid (URow w a len cap Z) := hz
  have AZ : Hid (Apt c a len) := az
  have HX : Hid (URow w ax C cx X) := hx
  have AX : Hid (Apt c ax C) := axx
  have HH : Hid (Rgt (C : Int) (C : Int) (S : Int) len) := h
  obtain ⟨lb, cb⟩ := hz.lenB
  obtain ⟨lbx, cbx⟩ := hx.lenB
  have c1 : (C : Int) ≤ 4096 := h.2.2.2.1
  have XR : Hid (∀ i, 0 ≤ X i ∧ X i < 18446744073709551616) := hx.2.2.1
  have ZR : Hid (∀ i, 0 ≤ Z i ∧ Z i < 18446744073709551616) := hz.2.2.1
  have mk := mk_run C (by omega)
  obtain ⟨O, hO⟩ : ∃ O, O = ((List.replicate C (0 : Int)).map (Value.int .u64)).toArray := ⟨_, rfl⟩
  have HO : Hid (∀ (W : World), RowU (W.alloc (.cells O 36)) W.heap.size (List.replicate C 0)) := by
    rw [hO]
    intro W
    unfold RowU
    exact heap_alloc_new W _
  rw [← hO] at mk
  clear hc hz hx h az axx hO
  go_enter Tryz.func8, Tryz.ntmps8
  go_wp2_with fail
  have mM := MBox.made w (C : Int) (C : Int) (S : Int) (.slice a len cap)
  have b0 : Below w.heap.size w (w.alloc (.cells #[.int .i64 (C : Int), .int .i64 (C : Int), .int .i64 (S : Int), .slice a len cap] 25)) := bmore (Below.refl _ _) _
  generalize (w.alloc (.cells #[.int .i64 (C : Int), .int .i64 (C : Int), .int .i64 (S : Int), .slice a len cap] 25)) = W0 at mM b0 ⊢
  obtain ⟨k6, hk6⟩ : ∃ k, k = w.heap.size := ⟨_, rfl⟩
  rw [← hk6] at mM ⊢
  have N6 : Hid (c ≠ some k6) := fun e => by have := HC.out.lt _ e; omega
  clear hk6
  refine (sFitsOk C S a len cap ax cx W0 HH.out lb).mono ?_
  rintro e w1 ⟨rfl, hb1⟩
  have M6 : Hid (MBox _ _ _ _ _ _) := mM.below hb1
  have BW : Hid (Below w.heap.size w w1) := bstep b0 hb1
  clear mM b0 hb1
  obtain ⟨q0, q1, q2, q3, q4⟩ := M6.out
  go_wp2_with fail
  refine (sTriL C S a len cap _).mono ?_
  rintro e w2 ⟨kb, rfl, hkb, hkg, hb1⟩
  have NB : Hid (c ≠ some kb) := fun e => by have := HC.out.lt _ e; have := Below.size BW.out; omega
  replace M6 : Hid (MBox _ _ _ _ _ _) := M6.out.below hb1
  replace BW : Hid (Below w.heap.size w w2) := bstep BW.out hb1
  have MB : Hid (MBox w2 kb (C : Int) (C : Int) (S : Int) (.slice a len cap)) := hkb
  clear hb1 hkb hkg q0 q1 q2 q3 q4
  go_upto_region 6 with fail
  have mT := TBox.made w2 (C : Int) (S : Int) (.slice a len cap) (.func (.func 59) #[] #[]) (.func (.func 60) #[] #[])
  have b0 : Below w2.heap.size w2 (w2.alloc (.cells #[.int .i64 (C : Int), .int .i64 (C : Int), .int .i64 (S : Int), .slice a len cap, .func (.func 59) #[] #[], .func (.func 60) #[] #[]] 62)) := bmore (Below.refl _ _) _
  generalize (w2.alloc (.cells #[.int .i64 (C : Int), .int .i64 (C : Int), .int .i64 (S : Int), .slice a len cap, .func (.func 59) #[] #[], .func (.func 60) #[] #[]] 62)) = W3 at mT b0 ⊢
  obtain ⟨kt, hkt⟩ : ∃ k, k = w2.heap.size := ⟨_, rfl⟩
  rw [← hkt] at mT ⊢
  have NT : Hid (c ≠ some kt) := fun e => by have := HC.out.lt _ e; have := Below.size BW.out; omega
  replace M6 : Hid (MBox _ _ _ _ _ _) := M6.out.below b0
  replace MB : Hid (MBox _ _ _ _ _ _) := MB.out.below b0
  replace BW : Hid (Below _ _ _) := bstep BW.out b0
  have TB : Hid (TBox _ _ _ _ _ _ _) := mT
  clear mT b0 hkt
  go_wp2
  have bA : Below W3.heap.size W3 (W3.alloc (.cells O 36)) := bmore (Below.refl _ _) _
  have RW := HO.out W3
  obtain ⟨g1, hg1⟩ : ∃ g, g = W3.heap.size := ⟨_, rfl⟩
  have G6 : Hid (g1 ≠ k6) := by have := M6.out.2.2.2.2; show _ ≠ _; omega
  have GB : Hid (g1 ≠ kb) := by have := MB.out.2.2.2.2; show _ ≠ _; omega
  have GT : Hid (g1 ≠ kt) := by have := TB.out.2.2.2.2.2.2; show _ ≠ _; omega
  have HG1 : Hid (w.heap.size ≤ g1) := by show _ ≤ _; have := Below.size BW.out; omega
  have NG : Hid (c ≠ some g1) := fun e => by have := HC.out.lt _ e; have := HG1.out; omega
  have AGX : Hid (Apt (some g1) ax C) := HX.out.apt (fun k e => by injection e with e; have := HG1.out; omega)
  have AGZ : Hid (Apt (some g1) a len) := HZ.out.apt (fun k e => by injection e with e; have := HG1.out; omega)
  rw [← hg1] at RW ⊢
  generalize (W3.alloc (.cells O 36)) = V at RW bA ⊢
  replace M6 : Hid (MBox _ _ _ _ _ _) := M6.out.below bA
  replace MB : Hid (MBox _ _ _ _ _ _) := MB.out.below bA
  replace TB : Hid (TBox _ _ _ _ _ _ _) := TB.out.below bA
  replace BW : Hid (Below _ _ _) := bstep BW.out bA
  have R0 : Hid (RowU V g1 (List.replicate C 0)) := RW
  have C0 : Hid (IsCalc V p c F) := HC.out.later BW.out
  have Z0 : Hid (URow V a len cap Z) := HZ.out.below BW.out
  have X0 : Hid (URow V ax C cx X) := HX.out.below BW.out
  have B0 : Hid (Bes c w V) := Bes.of BW.out
  have I0 : Hid ((List.replicate C (0 : Int)).length = C ∧ InW (List.replicate C 0) ∧ ∀ j, (List.replicate C (0 : Int))[j]?.getD 0 = svX false true Z S C X 0 j) := ⟨List.length_replicate, InW.zeros _, fun j => by
    show (List.replicate C (0 : Int))[j]?.getD 0 = 0
    rw [List.getElem?_replicate]
    split <;> rfl⟩
  clear bA RW hg1 HO mk BW
  go_loopw [37] (fun j wr => ∃ (s : Nat) (xs : List Int), j = .int .i64 (s : Int) ∧ s ≤ C ∧ Hid (xs.length = C ∧ InW xs ∧ ∀ j, xs[j]?.getD 0 = svX false true Z S C X s j) ∧ Hid (RowU wr g1 xs) ∧ Hid (IsCalc wr p c (svF false true F Z S C X s)) ∧ Hid (MBox wr k6 (C : Int) (C : Int) (S : Int) (.slice a len cap)) ∧ Hid (MBox wr kb (C : Int) (C : Int) (S : Int) (.slice a len cap)) ∧ Hid (TBox wr kt (C : Int) (S : Int) (.slice a len cap) (.func (.func 59) #[] #[]) (.func (.func 60) #[] #[])) ∧ Hid (URow wr a len cap Z) ∧ Hid (URow wr ax C cx X) ∧ Hid (Bes c w wr)) (fun j _ => C - (intOf j).toNat)
  case atStart => exact ⟨0, _, rfl, Nat.zero_le _, I0, R0, C0, M6, MB, TB, Z0, X0, B0⟩
  case round =>
    clear R0 C0 M6 MB TB Z0 X0 B0 I0
    obtain ⟨s, xs, rfl, hs, I, Rr, Cc, M6, MB, TB, ZZ, XX, B⟩ := hrel
    by_cases hlt : (s : Int) < (C : Int)
    · obtain ⟨n, hnI⟩ : ∃ n, n = svI false C s := ⟨_, rfl⟩
      have hnC : n < C := by rw [hnI]; show s < C; omega
      have HN : Hid (n = s) := hnI
      have YY : Hid (URow wr (some ⟨g1, 0, none⟩) C C (svX false true Z S C X s)) := Rr.out.rowF I.out.1 (by omega) I.out.2.1 (funext fun j => (I.out.2.2 j).symm)
      obtain ⟨Y, hY⟩ : ∃ Y, Y = svX false true Z S C X s := ⟨_, rfl⟩
      obtain ⟨FS, hFS⟩ : ∃ f, f = svF false true F Z S C X s := ⟨_, rfl⟩
      have HX2 : Hid (∀ k, svX false true Z S C X (s + 1) k = if k = n then svQ true (gatV subS (X n) (fun k => Z (n * S + k)) Y 0 n) (Z (n * S + n)) else svX false true Z S C X s k) := by rw [hY, hnI]; exact fun _ => rfl
      have HF2 : Hid (gatF subS FS (X n) (fun k => Z (n * S + k)) Y 0 n = svF false true F Z S C X (s + 1)) := by rw [hY, hFS, hnI]; rfl
      have HIs : Hid (∀ j, xs[j]?.getD 0 = svX false true Z S C X s j) := I.out.2.2
      have r0 := svR_rng false Z S C X Y n XR.out
      have hrr : svR false Z S C X Y n = gatV subS (X n) (fun k => Z (n * S + k)) Y 0 n := rfl
      rw [hrr] at r0
      rw [← hFS] at Cc
      rw [← hY] at YY
      obtain ⟨b2, o2, e2, l2, e3⟩ := XX.out.2.2.2 (by omega)
      have q2 := e3 n hnC
      obtain ⟨x0, x1⟩ := XR.out n
      have A2c : Hid (c ≠ some b2) := AX.out (by omega) b2 o2 none e2
      clear e3 hnI hY hFS hrr
      subst e2
      obtain ⟨x, hx⟩ : ∃ x, X n = x := ⟨_, rfl⟩
      rw [hx] at q2 x0 x1 HX2 HF2 r0
      obtain ⟨r, hr⟩ : ∃ r, gatV subS x (fun k => Z (n * S + k)) Y 0 n = r := ⟨_, rfl⟩
      rw [hr] at HX2 r0
      (try rw [hr] at HF2)
      have HR : Hid (_ = _) := hr
      clear hx hr
      obtain ⟨t0, t1, t2, t3, t4, t5, t6⟩ := TB.out
      go_wp2_with fail
      refine (sRowL s wr).mono ?_
      rintro e w4 ⟨rfl, hw⟩
      have hw2 := hw.symm
      clear hw
      subst hw2
      have hns := HN.out.symm
      rw [show (s : Int) = (n : Int) by omega]
      have ct : Cnt 1 := Cnt.mk _
      have hnl : (n : Int) < (C : Int) := by omega
      go_wp2_with fail
      go_region_held3 (fun w' => (w'.cell? ⟨kt, 0, none⟩ = some (.int .i64 (C : Int)) ∧ w'.cell? ⟨kt, 1, none⟩ = some (.int .i64 (C : Int)) ∧ w'.cell? ⟨kt, 2, none⟩ = some (.int .i64 (S : Int)) ∧ w'.cell? ⟨kt, 3, none⟩ = some (.slice a len cap) ∧ w'.cell? ⟨kt, 4, none⟩ = some (.func (.func 59) #[] #[]) ∧ w'.cell? ⟨kt, 5, none⟩ = some (.func (.func 60) #[] #[])) ∧ w'.cell? ⟨b2, o2 + n, none⟩ = some (.int .u64 x)) (simp [go_sem, *]) (first | (have ck : Cnt 1 := ct; go_at_call 31; refine (sGatLS p c FS C S a len cap Z n x (some ⟨g1, 0, none⟩) C C Y _ (by first | exact Cc.out | exact Cc.out.drew)  HH.out (by first | exact ZZ.out | exact ZZ.out.drew) AZ.out (by first | exact YY.out | exact YY.out.drew) (apt_one NG.out) hnC (Nat.le_refl _) x0 x1).mono ?_; rintro e w5 ⟨rfl, hC_, hB⟩; rw [HR.out]; replace hB : Bes c wr w5 := (by first | exact hB | exact ((Bes.refl _ _).drew).trans hB); replace Cc : Hid (IsCalc w5 p c _) := hC_; replace Rr : Hid (RowU w5 g1 xs) := Rr.out.bes hB NG.out; replace M6 : Hid (MBox _ _ _ _ _ _) := M6.out.bes hB N6.out; replace MB : Hid (MBox _ _ _ _ _ _) := MB.out.bes hB NB.out; replace TB : Hid (TBox _ _ _ _ _ _ _) := TB.out.bes hB NT.out; replace ZZ : Hid (URow w5 a len cap Z) := ZZ.out.bes hB AZ.out; replace XX : Hid (URow w5 _ C cx X) := XX.out.bes hB AX.out; replace B : Hid (Bes c w w5) := B.out.trans hB; replace q2 := (hB.cell (p := ⟨b2, o2 + n, none⟩) l2 A2c.out).trans q2; clear t0 t1 t2 t3 t4 t5 t6; obtain ⟨t0, t1, t2, t3, t4, t5, t6⟩ := TB.out; clear hC_ hB ck))
      clear t0 t1 t2 t3 t4 t5 t6 ct q2 l2 YY
      have HX3 : Hid (∀ k, svX false true Z S C X (s + 1) k = if k = n then r else svX false true Z S C X s k) := HX2.out
      clear HX2
      have HX2 := HX3
      rw [HF2.out] at Cc
      obtain ⟨v0, v1⟩ := r0
      have yx := Rr.out.cell n (by rw [I.out.1]; exact hnC)
      have yf := Rr.out.frozen n
      go_wp2
      go_roundw
      case rel =>
        have hP := fun v : Int => Bes.put w5 g1 n (.int .u64 v)
        exact ⟨s + 1, _, by go_num, by omega, ⟨by rw [List.length_set]; exact I.out.1, I.out.2.1.set _ _ v0 v1, list_upd I.out.1 hnC HIs.out HX2.out⟩, Rr.out.set n _, Cc.out.bes (hP _) (fun k e e2 => NG.out (e.trans e2.symm)), M6.out.bes (hP _) (ne_some G6.out), MB.out.bes (hP _) (ne_some GB.out), TB.out.bes (hP _) (ne_some GT.out), ZZ.out.bes (hP _) AGZ.out, XX.out.bes (hP _) AGX.out, B.out.young (hP _) HG1.out⟩
      case measure => simp [intOf]; omega
    · obtain rfl : s = C := by omega
      have YY : Hid (URow wr (some ⟨g1, 0, none⟩) s s (svX false true Z S s X s)) := Rr.out.rowF I.out.1 (by omega) I.out.2.1 (funext fun j => (I.out.2.2 j).symm)
      go_wp2
      go_ret2
      exact ⟨g1, rfl, HG1.out, YY.out, Cc.out, B.out⟩
set_option maxHeartbeats 4000000 in
set_option maxRecDepth 100000 in
theorem sTrsvUF (p : Value) (c : Option Nat) (F : Int) (C S : Nat) (a : Option Addr) (len cap : Nat) (Z : Nat → Int) (ax : Option Addr) (cx : Nat) (X : Nat → Int) (w : World) (hc : IsCalc w p c F) (h : Rgt (C : Int) (C : Int) (S : Int) len) (hz : URow w a len cap Z) (az : Apt c a len) (hx : URow w ax C cx X) (axx : Apt c ax C) (hdz : ∀ i, i < C → Z (i * S + i) % 9223372036854775808 ≠ 0) :
    Calls Tryz.prog 8 #[p, .agg #[.int .i64 (C : Int), .int .i64 (C : Int), .int .i64 (S : Int), .slice a len cap], .bool true, .bool false, .slice ax C cx] w fun e w' => ∃ g, e = .returned (.tuple #[.slice (some ⟨g, 0, none⟩) C C, .int .i64 0]) ∧ w.heap.size ≤ g ∧ URow w' (some ⟨g, 0, none⟩) C C (svX true false Z S C X C) ∧ IsCalc w' p c (svF true false F Z S C X C) ∧ Bes c w w' := by
  have HC : Hid (IsCalc w p c F) := hc
  have HZ : Hid (URow w a len cap Z) := hz
  have AZ : Hid (Apt c a len) := az
  have HX : Hid (URow w ax C cx X) := hx
  have AX : Hid (Apt c ax C) := axx
  have HH : Hid (Rgt (C : Int) (C : Int) (S : Int) len) := h
  obtain ⟨lb, cb⟩ := hz.lenB
  obtain ⟨lbx, cbx⟩ := hx.lenB
  have c1 : (C : Int) ≤ 4096 := h.2.2.2.1
  have XR : Hid (∀ i, 0 ≤ X i ∧ X i < 18446744073709551616) := hx.2.2.1
  have ZR : Hid (∀ i, 0 ≤ Z i ∧ Z i < 18446744073709551616) := hz.2.2.1
  have DZ : Hid (∀ i, i < C → Z (i * S + i) % 9223372036854775808 ≠ 0) := hdz
  clear hdz
  have mk := mk_run C (by omega)
  obtain ⟨O, hO⟩ : ∃ O, O = ((List.replicate C (0 : Int)).map (Value.int .u64)).toArray := ⟨_, rfl⟩
  have HO : Hid (∀ (W : World), RowU (W.alloc (.cells O 36)) W.heap.size (List.replicate C 0)) := by
    rw [hO]
    intro W
    unfold RowU
    exact heap_alloc_new W _
  rw [← hO] at mk
  clear hc hz hx h az axx hO
  go_enter Tryz.func8, Tryz.ntmps8
  go_wp2_with fail
  have mM := MBox.made w (C : Int) (C : Int) (S : Int) (.slice a len cap)
  have b0 : Below w.heap.size w (w.alloc (.cells #[.int .i64 (C : Int), .int .i64 (C : Int), .int .i64 (S : Int), .slice a len cap] 25)) := bmore (Below.refl _ _) _
  generalize (w.alloc (.cells #[.int .i64 (C : Int), .int .i64 (C : Int), .int .i64 (S : Int), .slice a len cap] 25)) = W0 at mM b0 ⊢
  obtain ⟨k6, hk6⟩ : ∃ k, k = w.heap.size := ⟨_, rfl⟩
  rw [← hk6] at mM ⊢
  have N6 : Hid (c ≠ some k6) := fun e => by have := HC.out.lt _ e; omega
  clear hk6
  refine (sFitsOk C S a len cap ax cx W0 HH.out lb).mono ?_
  rintro e w1 ⟨rfl, hb1⟩
  have M6 : Hid (MBox _ _ _ _ _ _) := mM.below hb1
  have BW : Hid (Below w.heap.size w w1) := bstep b0 hb1
  clear mM b0 hb1
  obtain ⟨q0, q1, q2, q3, q4⟩ := M6.out
  go_wp2_with fail
  refine (sHasZero C S a len cap Z w1 HH.out (HZ.out.below BW.out)).mono ?_
  rintro e wz ⟨⟨_, i, hi, h0⟩ | ⟨rfl, _⟩, hb1⟩
  · exact absurd h0 (DZ.out i hi)
  replace M6 : Hid (MBox _ _ _ _ _ _) := M6.out.below hb1
  replace BW : Hid (Below w.heap.size w wz) := bstep BW.out hb1
  clear hb1 q0 q1 q2 q3 q4
  obtain ⟨q0, q1, q2, q3, q4⟩ := M6.out
  go_wp2_with fail
  refine (sTriU C S a len cap _).mono ?_
  rintro e w2 ⟨kb, rfl, hkb, hkg, hb1⟩
  have NB : Hid (c ≠ some kb) := fun e => by have := HC.out.lt _ e; have := Below.size BW.out; omega
  replace M6 : Hid (MBox _ _ _ _ _ _) := M6.out.below hb1
  replace BW : Hid (Below w.heap.size w w2) := bstep BW.out hb1
  have MB : Hid (MBox w2 kb (C : Int) (C : Int) (S : Int) (.slice a len cap)) := hkb
  clear hb1 hkb hkg q0 q1 q2 q3 q4
  go_upto_region 6 with fail
  have mT := TBox.made w2 (C : Int) (S : Int) (.slice a len cap) (.func (.func 57) #[] #[.pointer (some ⟨kb, 0, none⟩)]) (.func (.func 58) #[] #[.pointer (some ⟨kb, 0, none⟩)])
  have b0 : Below w2.heap.size w2 (w2.alloc (.cells #[.int .i64 (C : Int), .int .i64 (C : Int), .int .i64 (S : Int), .slice a len cap, .func (.func 57) #[] #[.pointer (some ⟨kb, 0, none⟩)], .func (.func 58) #[] #[.pointer (some ⟨kb, 0, none⟩)]] 62)) := bmore (Below.refl _ _) _
  generalize (w2.alloc (.cells #[.int .i64 (C : Int), .int .i64 (C : Int), .int .i64 (S : Int), .slice a len cap, .func (.func 57) #[] #[.pointer (some ⟨kb, 0, none⟩)], .func (.func 58) #[] #[.pointer (some ⟨kb, 0, none⟩)]] 62)) = W3 at mT b0 ⊢
  obtain ⟨kt, hkt⟩ : ∃ k, k = w2.heap.size := ⟨_, rfl⟩
  rw [← hkt] at mT ⊢
  have NT : Hid (c ≠ some kt) := fun e => by have := HC.out.lt _ e; have := Below.size BW.out; omega
  replace M6 : Hid (MBox _ _ _ _ _ _) := M6.out.below b0
  replace MB : Hid (MBox _ _ _ _ _ _) := MB.out.below b0
  replace BW : Hid (Below _ _ _) := bstep BW.out b0
  have TB : Hid (TBox _ _ _ _ _ _ _) := mT
  clear mT b0 hkt
  go_wp2
  have bA : Below W3.heap.size W3 (W3.alloc (.cells O 36)) := bmore (Below.refl _ _) _
  have RW := HO.out W3
  obtain ⟨g1, hg1⟩ : ∃ g, g = W3.heap.size := ⟨_, rfl⟩
  have G6 : Hid (g1 ≠ k6) := by have := M6.out.2.2.2.2; show _ ≠ _; omega
  have GB : Hid (g1 ≠ kb) := by have := MB.out.2.2.2.2; show _ ≠ _; omega
  have GT : Hid (g1 ≠ kt) := by have := TB.out.2.2.2.2.2.2; show _ ≠ _; omega
  have HG1 : Hid (w.heap.size ≤ g1) := by show _ ≤ _; have := Below.size BW.out; omega
  have NG : Hid (c ≠ some g1) := fun e => by have := HC.out.lt _ e; have := HG1.out; omega
  have AGX : Hid (Apt (some g1) ax C) := HX.out.apt (fun k e => by injection e with e; have := HG1.out; omega)
  have AGZ : Hid (Apt (some g1) a len) := HZ.out.apt (fun k e => by injection e with e; have := HG1.out; omega)
  rw [← hg1] at RW ⊢
  generalize (W3.alloc (.cells O 36)) = V at RW bA ⊢
  replace M6 : Hid (MBox _ _ _ _ _ _) := M6.out.below bA
  replace MB : Hid (MBox _ _ _ _ _ _) := MB.out.below bA
  replace TB : Hid (TBox _ _ _ _ _ _ _) := TB.out.below bA
  replace BW : Hid (Below _ _ _) := bstep BW.out bA
  have R0 : Hid (RowU V g1 (List.replicate C 0)) := RW
  have C0 : Hid (IsCalc V p c F) := HC.out.later BW.out
  have Z0 : Hid (URow V a len cap Z) := HZ.out.below BW.out
  have X0 : Hid (URow V ax C cx X) := HX.out.below BW.out
  have B0 : Hid (Bes c w V) := Bes.of BW.out
  have I0 : Hid ((List.replicate C (0 : Int)).length = C ∧ InW (List.replicate C 0) ∧ ∀ j, (List.replicate C (0 : Int))[j]?.getD 0 = svX true false Z S C X 0 j) := ⟨List.length_replicate, InW.zeros _, fun j => by
    show (List.replicate C (0 : Int))[j]?.getD 0 = 0
    rw [List.getElem?_replicate]
    split <;> rfl⟩
  clear bA RW hg1 HO mk BW
  go_loopw [37] (fun j wr => ∃ (s : Nat) (xs : List Int), j = .int .i64 (s : Int) ∧ s ≤ C ∧ Hid (xs.length = C ∧ InW xs ∧ ∀ j, xs[j]?.getD 0 = svX true false Z S C X s j) ∧ Hid (RowU wr g1 xs) ∧ Hid (IsCalc wr p c (svF true false F Z S C X s)) ∧ Hid (MBox wr k6 (C : Int) (C : Int) (S : Int) (.slice a len cap)) ∧ Hid (MBox wr kb (C : Int) (C : Int) (S : Int) (.slice a len cap)) ∧ Hid (TBox wr kt (C : Int) (S : Int) (.slice a len cap) (.func (.func 57) #[] #[.pointer (some ⟨kb, 0, none⟩)]) (.func (.func 58) #[] #[.pointer (some ⟨kb, 0, none⟩)])) ∧ Hid (URow wr a len cap Z) ∧ Hid (URow wr ax C cx X) ∧ Hid (Bes c w wr)) (fun j _ => C - (intOf j).toNat)
  case atStart => exact ⟨0, _, rfl, Nat.zero_le _, I0, R0, C0, M6, MB, TB, Z0, X0, B0⟩
  case round =>
    clear R0 C0 M6 MB TB Z0 X0 B0 I0
    obtain ⟨s, xs, rfl, hs, I, Rr, Cc, M6, MB, TB, ZZ, XX, B⟩ := hrel
    by_cases hlt : (s : Int) < (C : Int)
    · obtain ⟨n, hnI⟩ : ∃ n, n = svI true C s := ⟨_, rfl⟩
      have hnC : n < C := by rw [hnI]; show C - 1 - s < C; omega
      have HN : Hid (n = C - 1 - s) := hnI
      have YY : Hid (URow wr (some ⟨g1, 0, none⟩) C C (svX true false Z S C X s)) := Rr.out.rowF I.out.1 (by omega) I.out.2.1 (funext fun j => (I.out.2.2 j).symm)
      obtain ⟨Y, hY⟩ : ∃ Y, Y = svX true false Z S C X s := ⟨_, rfl⟩
      obtain ⟨FS, hFS⟩ : ∃ f, f = svF true false F Z S C X s := ⟨_, rfl⟩
      have HX2 : Hid (∀ k, svX true false Z S C X (s + 1) k = if k = n then svQ false (gatV subS (X n) (fun k => Z (n * S + k)) Y (n + 1) (C - (n + 1))) (Z (n * S + n)) else svX true false Z S C X s k) := by rw [hY, hnI]; exact fun _ => rfl
      have HF2 : Hid (bits .or .u8 (gatF subS FS (X n) (fun k => Z (n * S + k)) Y (n + 1) (C - (n + 1))) (divS (gatV subS (X n) (fun k => Z (n * S + k)) Y (n + 1) (C - (n + 1))) (Z (n * S + n))).2 = svF true false F Z S C X (s + 1)) := by rw [hY, hFS, hnI]; rfl
      have HIs : Hid (∀ j, xs[j]?.getD 0 = svX true false Z S C X s j) := I.out.2.2
      have r0 := svR_rng true Z S C X Y n XR.out
      have hrr : svR true Z S C X Y n = gatV subS (X n) (fun k => Z (n * S + k)) Y (n + 1) (C - (n + 1)) := rfl
      rw [hrr] at r0
      rw [← hFS] at Cc
      rw [← hY] at YY
      obtain ⟨b2, o2, e2, l2, e3⟩ := XX.out.2.2.2 (by omega)
      have q2 := e3 n hnC
      obtain ⟨x0, x1⟩ := XR.out n
      have A2c : Hid (c ≠ some b2) := AX.out (by omega) b2 o2 none e2
      clear e3 hnI hY hFS hrr
      subst e2
      obtain ⟨x, hx⟩ : ∃ x, X n = x := ⟨_, rfl⟩
      rw [hx] at q2 x0 x1 HX2 HF2 r0
      obtain ⟨r, hr⟩ : ∃ r, gatV subS x (fun k => Z (n * S + k)) Y (n + 1) (C - (n + 1)) = r := ⟨_, rfl⟩
      rw [hr] at HX2 r0
      (try rw [hr] at HF2)
      have HR : Hid (_ = _) := hr
      clear hx hr
      obtain ⟨t0, t1, t2, t3, t4, t5, t6⟩ := TB.out
      go_wp2_with fail
      refine (sRowU s C n kb wr MB.out.1 (by omega) (by have := HN.out; omega)).mono ?_
      rintro e w4 ⟨rfl, hw⟩
      have hw2 := hw.symm
      clear hw
      subst hw2
      have ct : Cnt 1 := Cnt.mk _
      have hnl : (n : Int) < (C : Int) := by omega
      go_wp2_with fail
      go_region_held3 (fun w' => (w'.cell? ⟨kt, 0, none⟩ = some (.int .i64 (C : Int)) ∧ w'.cell? ⟨kt, 1, none⟩ = some (.int .i64 (C : Int)) ∧ w'.cell? ⟨kt, 2, none⟩ = some (.int .i64 (S : Int)) ∧ w'.cell? ⟨kt, 3, none⟩ = some (.slice a len cap) ∧ w'.cell? ⟨kt, 4, none⟩ = some (.func (.func 57) #[] #[.pointer (some ⟨kb, 0, none⟩)]) ∧ w'.cell? ⟨kt, 5, none⟩ = some (.func (.func 58) #[] #[.pointer (some ⟨kb, 0, none⟩)])) ∧ w'.cell? ⟨b2, o2 + n, none⟩ = some (.int .u64 x)) (simp [go_sem, *]) (first | (have ck : Cnt 1 := ct; go_at_call 31; refine (sGatUS p c FS C S a len cap Z n x (some ⟨g1, 0, none⟩) C C Y kb _ (by first | exact Cc.out | exact Cc.out.drew) (by first | exact MB.out | exact MB.out.below (Below.refl _ _).drew) HH.out (by first | exact ZZ.out | exact ZZ.out.drew) AZ.out (by first | exact YY.out | exact YY.out.drew) (apt_one NG.out) hnC (Nat.le_refl _) x0 x1).mono ?_; rintro e w5 ⟨rfl, hC_, hB⟩; rw [HR.out]; replace hB : Bes c wr w5 := (by first | exact hB | exact ((Bes.refl _ _).drew).trans hB); replace Cc : Hid (IsCalc w5 p c _) := hC_; replace Rr : Hid (RowU w5 g1 xs) := Rr.out.bes hB NG.out; replace M6 : Hid (MBox _ _ _ _ _ _) := M6.out.bes hB N6.out; replace MB : Hid (MBox _ _ _ _ _ _) := MB.out.bes hB NB.out; replace TB : Hid (TBox _ _ _ _ _ _ _) := TB.out.bes hB NT.out; replace ZZ : Hid (URow w5 a len cap Z) := ZZ.out.bes hB AZ.out; replace XX : Hid (URow w5 _ C cx X) := XX.out.bes hB AX.out; replace B : Hid (Bes c w w5) := B.out.trans hB; replace q2 := (hB.cell (p := ⟨b2, o2 + n, none⟩) l2 A2c.out).trans q2; clear t0 t1 t2 t3 t4 t5 t6; obtain ⟨t0, t1, t2, t3, t4, t5, t6⟩ := TB.out; clear hC_ hB ck))
      clear t0 t1 t2 t3 t4 t5 t6 ct q2 l2 YY
      obtain ⟨d0, d1⟩ := ZR.out (n * S + n)
      obtain ⟨d, hd⟩ : ∃ x, Z (n * S + n) = x := ⟨_, rfl⟩
      rw [hd] at d0 d1 HX2 HF2
      have HD : Hid (_ = _) := hd
      clear hd
      obtain ⟨v0, v1⟩ := divS_rng r d r0.1 r0.2 d0 d1
      obtain ⟨r00, r01⟩ := r0
      have HX3 : Hid (∀ k, svX true false Z S C X (s + 1) k = if k = n then (divS r d).1 else svX true false Z S C X s k) := HX2.out
      clear HX2
      obtain ⟨M, hM⟩ : ∃ M, divS r d = M := ⟨_, rfl⟩
      rw [hM] at HX3 HF2 v0 v1
      have HM : Hid (_ = _) := hM
      clear hM
      obtain ⟨m, fm⟩ := M
      simp only at HX3 HF2 v0 v1
      have HX2 := HX3
      obtain ⟨p0, p1, p2, p3, p4⟩ := M6.out
      go_wp2_with fail
      refine (mAtN C C S a len cap Z n n _ HH.out ZZ.out hnC hnC).mono ?_
      rintro e w6 ⟨rfl, hb1⟩
      rw [HD.out]
      replace Rr : Hid (RowU _ _ _) := Rr.out.below hb1
      replace Cc : Hid (IsCalc _ _ _ _) := Cc.out.later hb1
      replace M6 : Hid (MBox _ _ _ _ _ _) := M6.out.below hb1
      replace MB : Hid (MBox _ _ _ _ _ _) := MB.out.below hb1
      replace TB : Hid (TBox _ _ _ _ _ _ _) := TB.out.below hb1
      replace ZZ : Hid (URow _ _ _ _ _) := ZZ.out.below hb1
      replace XX : Hid (URow _ _ _ _ _) := XX.out.below hb1
      replace B : Hid (Bes _ _ _) := B.out.step hb1
      clear hb1 p0 p1 p2 p3 p4
      go_wp2_with fail
      refine (uDiv p c r d _ _ Cc.out r00 r01 d0 d1).mono ?_
      rintro e w7 ⟨rfl, hC_, hB⟩
      rw [HM.out] at hC_ ⊢
      rw [HF2.out] at hC_
      replace Rr : Hid (RowU _ _ _) := Rr.out.bes hB NG.out
      replace Cc : Hid (IsCalc _ _ _ _) := hC_
      replace M6 : Hid (MBox _ _ _ _ _ _) := M6.out.bes hB N6.out
      replace MB : Hid (MBox _ _ _ _ _ _) := MB.out.bes hB NB.out
      replace TB : Hid (TBox _ _ _ _ _ _ _) := TB.out.bes hB NT.out
      replace ZZ : Hid (URow _ _ _ _ _) := ZZ.out.bes hB AZ.out
      replace XX : Hid (URow _ _ _ _ _) := XX.out.bes hB AX.out
      replace B : Hid (Bes _ _ _) := B.out.trans hB
      clear hB hC_
      have yx := Rr.out.cell n (by rw [I.out.1]; exact hnC)
      have yf := Rr.out.frozen n
      go_wp2
      go_roundw
      case rel =>
        have hP := fun v : Int => Bes.put w7 g1 n (.int .u64 v)
        exact ⟨s + 1, _, by go_num, by omega, ⟨by rw [List.length_set]; exact I.out.1, I.out.2.1.set _ _ v0 v1, list_upd I.out.1 hnC HIs.out HX2.out⟩, Rr.out.set n _, Cc.out.bes (hP _) (fun k e e2 => NG.out (e.trans e2.symm)), M6.out.bes (hP _) (ne_some G6.out), MB.out.bes (hP _) (ne_some GB.out), TB.out.bes (hP _) (ne_some GT.out), ZZ.out.bes (hP _) AGZ.out, XX.out.bes (hP _) AGX.out, B.out.young (hP _) HG1.out⟩
      case measure => simp [intOf]; omega
    · obtain rfl : s = C := by omega
      have YY : Hid (URow wr (some ⟨g1, 0, none⟩) s s (svX true false Z S s X s)) := Rr.out.rowF I.out.1 (by omega) I.out.2.1 (funext fun j => (I.out.2.2 j).symm)
      go_wp2
      go_ret2
      exact ⟨g1, rfl, HG1.out, YY.out, Cc.out, B.out⟩
end Go.Proofs.YtpakpgjbgehhjaaGreat
