/-
  What package more's Fma returns: fmaS, at all patterns.
-/
import Derived.Test.YteohkpiecidicaaMoreF
import Derived.Test.YteohkpiecidicaaFmaM
namespace Go.Proofs.Yteohkpiecidicaa
open Go.RowKit
set_option linter.unusedVariables false

set_option maxRecDepth 100000 in
set_option maxHeartbeats 2000000 in
theorem mFma (a b c : Int) (w : World) (h0 : 0 ≤ a) (h1 : a < 18446744073709551616) (g0 : 0 ≤ b) (g1 : b < 18446744073709551616) (k0 : 0 ≤ c) (k1 : c < 18446744073709551616) :
    Calls Try.prog 18 #[.int .u64 a, .int .u64 b, .int .u64 c] w fun e w' => e = .returned (.tuple #[.int .u64 (fmaS a b c).1, .int .u8 (fmaS a b c).2]) ∧ Below w.heap.size w w' := by
  by_cases ha : mag a < 9218868437227405312
  · have FA : Hid (decide (a / 4503599627370496 % 2048 < 2047) = true) := by show _ = _; rw [fin_dec]; exact decide_eq_true ha
    by_cases hb : mag b < 9218868437227405312
    · have FB : Hid (decide (b / 4503599627370496 % 2048 < 2047) = true) := by show _ = _; rw [fin_dec]; exact decide_eq_true hb
      by_cases hc : mag c < 9218868437227405312
      · have FC : Hid (decide (c / 4503599627370496 % 2048 < 2047) = true) := by show _ = _; rw [fin_dec]; exact decide_eq_true hc
        by_cases za : mag a = 0
        · have ZA : Hid (isZ a = true) := (z_iff a).2 za
          have FS : Hid (_ = _) := fma_zero a b c k0 k1 ha hb hc (Or.inl za)
          obtain ⟨m0, m1, m2, m3⟩ := mulS_bd a b
          obtain ⟨M, hM⟩ : ∃ M, mulS a b = M := ⟨_, rfl⟩
          rw [hM] at m0 m1 m2 m3 FS
          obtain ⟨P, F⟩ := M
          simp only at m0 m1 m2 m3
          have HM : Hid (_ = _) := hM
          have FS2 : Hid (fmaS a b c = addS P c) := FS
          replace FS := FS2
          clear hM FS2
          go_enter Try.func18, Try.ntmps18
          go_wp2_with (first | (go_at_call_of 25 a; refine (finite_any _ _ h0 h1).mono ?_; rintro e w' ⟨rfl, rfl⟩; rw [FA.out]) | (go_at_call_of 25 b; refine (finite_any _ _ g0 g1).mono ?_; rintro e w' ⟨rfl, rfl⟩; rw [FB.out]) | (go_at_call_of 25 c; refine (finite_any _ _ k0 k1).mono ?_; rintro e w' ⟨rfl, rfl⟩; rw [FC.out]) | (go_at_call_of 55 a; refine (mZero _ _ h0 h1).mono ?_; rintro e w' ⟨rfl, rfl⟩; rw [ZA.out]) | (go_at_call_of 55 b; refine (mZero _ _ g0 g1).mono ?_; rintro e w' ⟨rfl, rfl⟩; rw [ZB.out]) | (go_at_call_of 55 c; refine (mZero _ _ k0 k1).mono ?_; rintro e w' ⟨rfl, rfl⟩; rw [ZC.out]) | fail)
          refine (pMul _ _ _ h0 h1 g0 g1).mono ?_
          rintro e w1 ⟨rfl, hb1⟩
          rw [HM.out]
          go_wp2_with fail
          refine (pAdd _ _ _ m0 m1 k0 k1).mono ?_
          rintro e w2 ⟨rfl, hb2⟩
          have hbx := bstep hb1 hb2
          go_wp2
          go_ret2
          refine ⟨?_, hbx⟩
          rw [FS.out]
          rfl
        · have ZA : Hid (isZ a = false) := (z_not a).2 za
          by_cases zb : mag b = 0
          · have ZB : Hid (isZ b = true) := (z_iff b).2 zb
            have FS : Hid (_ = _) := fma_zero a b c k0 k1 ha hb hc (Or.inr zb)
            obtain ⟨m0, m1, m2, m3⟩ := mulS_bd a b
            obtain ⟨M, hM⟩ : ∃ M, mulS a b = M := ⟨_, rfl⟩
            rw [hM] at m0 m1 m2 m3 FS
            obtain ⟨P, F⟩ := M
            simp only at m0 m1 m2 m3
            have HM : Hid (_ = _) := hM
            have FS2 : Hid (fmaS a b c = addS P c) := FS
            replace FS := FS2
            clear hM FS2
            go_enter Try.func18, Try.ntmps18
            go_wp2_with (first | (go_at_call_of 25 a; refine (finite_any _ _ h0 h1).mono ?_; rintro e w' ⟨rfl, rfl⟩; rw [FA.out]) | (go_at_call_of 25 b; refine (finite_any _ _ g0 g1).mono ?_; rintro e w' ⟨rfl, rfl⟩; rw [FB.out]) | (go_at_call_of 25 c; refine (finite_any _ _ k0 k1).mono ?_; rintro e w' ⟨rfl, rfl⟩; rw [FC.out]) | (go_at_call_of 55 a; refine (mZero _ _ h0 h1).mono ?_; rintro e w' ⟨rfl, rfl⟩; rw [ZA.out]) | (go_at_call_of 55 b; refine (mZero _ _ g0 g1).mono ?_; rintro e w' ⟨rfl, rfl⟩; rw [ZB.out]) | (go_at_call_of 55 c; refine (mZero _ _ k0 k1).mono ?_; rintro e w' ⟨rfl, rfl⟩; rw [ZC.out]) | fail)
            refine (pMul _ _ _ h0 h1 g0 g1).mono ?_
            rintro e w1 ⟨rfl, hb1⟩
            rw [HM.out]
            go_wp2_with fail
            refine (pAdd _ _ _ m0 m1 k0 k1).mono ?_
            rintro e w2 ⟨rfl, hb2⟩
            have hbx := bstep hb1 hb2
            go_wp2
            go_ret2
            refine ⟨?_, hbx⟩
            rw [FS.out]
            rfl
          · have ZB : Hid (isZ b = false) := (z_not b).2 zb
            by_cases zc : mag c = 0
            · have ZC : Hid (isZ c = true) := (z_iff c).2 zc
              have FS : Hid (_ = _) := fma_cz a b c ha hb zc za zb
              clear ha hb hc za zb zc
              go_enter Try.func18, Try.ntmps18
              go_wp2_with (first | (go_at_call_of 25 a; refine (finite_any _ _ h0 h1).mono ?_; rintro e w' ⟨rfl, rfl⟩; rw [FA.out]) | (go_at_call_of 25 b; refine (finite_any _ _ g0 g1).mono ?_; rintro e w' ⟨rfl, rfl⟩; rw [FB.out]) | (go_at_call_of 25 c; refine (finite_any _ _ k0 k1).mono ?_; rintro e w' ⟨rfl, rfl⟩; rw [FC.out]) | (go_at_call_of 55 a; refine (mZero _ _ h0 h1).mono ?_; rintro e w' ⟨rfl, rfl⟩; rw [ZA.out]) | (go_at_call_of 55 b; refine (mZero _ _ g0 g1).mono ?_; rintro e w' ⟨rfl, rfl⟩; rw [ZB.out]) | (go_at_call_of 55 c; refine (mZero _ _ k0 k1).mono ?_; rintro e w' ⟨rfl, rfl⟩; rw [ZC.out]) | fail)
              refine (pMul _ _ _ h0 h1 g0 g1).mono ?_
              rintro e w1 ⟨rfl, hb1⟩
              go_wp2
              go_ret2
              refine ⟨?_, hb1⟩
              rw [FS.out]
              rfl
            · have ZC : Hid (isZ c = false) := (z_not c).2 zc
              have FS : Hid (_ = _) := fma_terms a b c ha hb hc za zb
              have MA : Hid (_ ∧ _ ∧ _ ∧ _) := ⟨ha, za, hb, zb⟩
              have MC : Hid (_ ∧ _) := ⟨hc, zc⟩
              clear ha hb hc za zb zc
              go_enter Try.func18, Try.ntmps18
              go_wp2_with (first | (go_at_call_of 25 a; refine (finite_any _ _ h0 h1).mono ?_; rintro e w' ⟨rfl, rfl⟩; rw [FA.out]) | (go_at_call_of 25 b; refine (finite_any _ _ g0 g1).mono ?_; rintro e w' ⟨rfl, rfl⟩; rw [FB.out]) | (go_at_call_of 25 c; refine (finite_any _ _ k0 k1).mono ?_; rintro e w' ⟨rfl, rfl⟩; rw [FC.out]) | (go_at_call_of 55 a; refine (mZero _ _ h0 h1).mono ?_; rintro e w' ⟨rfl, rfl⟩; rw [ZA.out]) | (go_at_call_of 55 b; refine (mZero _ _ g0 g1).mono ?_; rintro e w' ⟨rfl, rfl⟩; rw [ZB.out]) | (go_at_call_of 55 c; refine (mZero _ _ k0 k1).mono ?_; rintro e w' ⟨rfl, rfl⟩; rw [ZC.out]) | fail)
              refine (mProd _ _ _ h0 h1 g0 g1 MA.out.1 MA.out.2.1 MA.out.2.2.1 MA.out.2.2.2).mono ?_
              rintro e w1 ⟨ph, pl, pe, PG, rfl, pT, pV, hb1⟩
              have PT : Hid (isT _ _ _ _) := pT
              have PV : Hid (_ = _) := pV
              obtain ⟨sp, hsp⟩ : ∃ s, (sgn a != sgn b) = s := ⟨_, rfl⟩
              rw [hsp] at PV
              rw [hsp]
              clear pT pV hsp
              go_wp2_with fail
              refine (mTerm _ _ k0 k1 MC.out.1 MC.out.2).mono ?_
              rintro e w2 ⟨qh, ql, qe, QG, rfl, qT, qV, hb2⟩
              have QT : Hid (isT _ _ _ _) := qT
              have QV : Hid (_ = _) := qV
              obtain ⟨sq, hsq⟩ : ∃ s, sgn c = s := ⟨_, rfl⟩
              rw [hsq] at QV
              rw [hsq]
              have hbx := bstep hb1 hb2
              clear qT qV hsq hb1 hb2
              go_wp2_with fail
              refine (mSum _ _ _ _ _ _ _ _ _ _ _ PT.out QT.out).mono ?_
              rintro e w3 ⟨rfl, hb3⟩
              rw [PV.out, QV.out, ← FS.out]
              have hby := bstep hbx hb3
              obtain ⟨T, hT⟩ : ∃ T, fmaS a b c = T := ⟨_, rfl⟩
              rw [hT]
              have HT : Hid (_ = _) := hT
              clear hb3 hbx hT
              go_wp2
              go_ret2
              refine ⟨?_, hby⟩
              rw [HT.out]
              rfl
      · have FC : Hid (decide (c / 4503599627370496 % 2048 < 2047) = false) := by show _ = _; rw [fin_dec]; exact decide_eq_false hc
        have FS : Hid (_ = _) := fma_c a b c k0 k1 ha hb hc
        clear ha hb hc
        go_enter Try.func18, Try.ntmps18
        go_wp2_with (first | (go_at_call_of 25 a; refine (finite_any _ _ h0 h1).mono ?_; rintro e w' ⟨rfl, rfl⟩; rw [FA.out]) | (go_at_call_of 25 b; refine (finite_any _ _ g0 g1).mono ?_; rintro e w' ⟨rfl, rfl⟩; rw [FB.out]) | (go_at_call_of 25 c; refine (finite_any _ _ k0 k1).mono ?_; rintro e w' ⟨rfl, rfl⟩; rw [FC.out]) | (go_at_call_of 55 a; refine (mZero _ _ h0 h1).mono ?_; rintro e w' ⟨rfl, rfl⟩; rw [ZA.out]) | (go_at_call_of 55 b; refine (mZero _ _ g0 g1).mono ?_; rintro e w' ⟨rfl, rfl⟩; rw [ZB.out]) | (go_at_call_of 55 c; refine (mZero _ _ k0 k1).mono ?_; rintro e w' ⟨rfl, rfl⟩; rw [ZC.out]) | fail)
        refine (mNot _ _ k0 k1).mono ?_
        rintro e w1 ⟨rfl, hb1⟩
        go_wp2
        go_ret2
        refine ⟨?_, hb1⟩
        rw [FS.out]
        rfl
    · have FB : Hid (decide (b / 4503599627370496 % 2048 < 2047) = false) := by show _ = _; rw [fin_dec]; exact decide_eq_false hb
      have hw : ¬ mag a < 9218868437227405312 ∨ ¬ mag b < 9218868437227405312 := Or.inr hb
      have FS : Hid (_ = _) := fma_wild a b c k0 k1 hw
      obtain ⟨m0, m1, m2, m3⟩ := mulS_bd a b
      obtain ⟨M, hM⟩ : ∃ M, mulS a b = M := ⟨_, rfl⟩
      rw [hM] at m0 m1 m2 m3 FS
      obtain ⟨P, F⟩ := M
      simp only at m0 m1 m2 m3
      obtain ⟨S, hS⟩ : ∃ S, addS P c = S := ⟨_, rfl⟩
      obtain ⟨X, G⟩ := S
      have HM : Hid (_ = _) := hM
      have HS : Hid (_ = _) := hS
      have FS2 : Hid (fmaS a b c = (X, bits .or .u8 F G)) := by show _ = _; rw [FS.out]; simp only; rw [hS]
      replace FS := FS2
      clear hM hS FS2
      clear ha hb hw
      go_enter Try.func18, Try.ntmps18
      go_wp2_with (first | (go_at_call_of 25 a; refine (finite_any _ _ h0 h1).mono ?_; rintro e w' ⟨rfl, rfl⟩; rw [FA.out]) | (go_at_call_of 25 b; refine (finite_any _ _ g0 g1).mono ?_; rintro e w' ⟨rfl, rfl⟩; rw [FB.out]) | (go_at_call_of 25 c; refine (finite_any _ _ k0 k1).mono ?_; rintro e w' ⟨rfl, rfl⟩; rw [FC.out]) | (go_at_call_of 55 a; refine (mZero _ _ h0 h1).mono ?_; rintro e w' ⟨rfl, rfl⟩; rw [ZA.out]) | (go_at_call_of 55 b; refine (mZero _ _ g0 g1).mono ?_; rintro e w' ⟨rfl, rfl⟩; rw [ZB.out]) | (go_at_call_of 55 c; refine (mZero _ _ k0 k1).mono ?_; rintro e w' ⟨rfl, rfl⟩; rw [ZC.out]) | fail)
      refine (pMul _ _ _ h0 h1 g0 g1).mono ?_
      rintro e w1 ⟨rfl, hb1⟩
      rw [HM.out]
      go_wp2_with fail
      refine (pAdd _ _ _ m0 m1 k0 k1).mono ?_
      rintro e w2 ⟨rfl, hb2⟩
      rw [HS.out]
      have hbx := bstep hb1 hb2
      go_wp2
      go_ret2
      refine ⟨?_, hbx⟩
      rw [FS.out]
      rfl
  · have FA : Hid (decide (a / 4503599627370496 % 2048 < 2047) = false) := by show _ = _; rw [fin_dec]; exact decide_eq_false ha
    have hw : ¬ mag a < 9218868437227405312 ∨ ¬ mag b < 9218868437227405312 := Or.inl ha
    have FS : Hid (_ = _) := fma_wild a b c k0 k1 hw
    obtain ⟨m0, m1, m2, m3⟩ := mulS_bd a b
    obtain ⟨M, hM⟩ : ∃ M, mulS a b = M := ⟨_, rfl⟩
    rw [hM] at m0 m1 m2 m3 FS
    obtain ⟨P, F⟩ := M
    simp only at m0 m1 m2 m3
    obtain ⟨S, hS⟩ : ∃ S, addS P c = S := ⟨_, rfl⟩
    obtain ⟨X, G⟩ := S
    have HM : Hid (_ = _) := hM
    have HS : Hid (_ = _) := hS
    have FS2 : Hid (fmaS a b c = (X, bits .or .u8 F G)) := by show _ = _; rw [FS.out]; simp only; rw [hS]
    replace FS := FS2
    clear hM hS FS2
    clear ha hw
    go_enter Try.func18, Try.ntmps18
    go_wp2_with (first | (go_at_call_of 25 a; refine (finite_any _ _ h0 h1).mono ?_; rintro e w' ⟨rfl, rfl⟩; rw [FA.out]) | (go_at_call_of 25 b; refine (finite_any _ _ g0 g1).mono ?_; rintro e w' ⟨rfl, rfl⟩; rw [FB.out]) | (go_at_call_of 25 c; refine (finite_any _ _ k0 k1).mono ?_; rintro e w' ⟨rfl, rfl⟩; rw [FC.out]) | (go_at_call_of 55 a; refine (mZero _ _ h0 h1).mono ?_; rintro e w' ⟨rfl, rfl⟩; rw [ZA.out]) | (go_at_call_of 55 b; refine (mZero _ _ g0 g1).mono ?_; rintro e w' ⟨rfl, rfl⟩; rw [ZB.out]) | (go_at_call_of 55 c; refine (mZero _ _ k0 k1).mono ?_; rintro e w' ⟨rfl, rfl⟩; rw [ZC.out]) | fail)
    refine (pMul _ _ _ h0 h1 g0 g1).mono ?_
    rintro e w1 ⟨rfl, hb1⟩
    rw [HM.out]
    go_wp2_with fail
    refine (pAdd _ _ _ m0 m1 k0 k1).mono ?_
    rintro e w2 ⟨rfl, hb2⟩
    rw [HS.out]
    have hbx := bstep hb1 hb2
    go_wp2
    go_ret2
    refine ⟨?_, hbx⟩
    rw [FS.out]
    rfl
end Go.Proofs.Yteohkpiecidicaa
