/-
  What Near and Up of package dyad return: the nearest pattern and its flags; the least one that isn't beneath. Conditions: places are small.
-/
import Derived.Test.YtgpgmnmifhkmbaaLeadC
import Derived.Test.YtgpgmnmifhkmbaaRoundC
import Derived.Test.YtgpgmnmifhkmbaaCmpD
import Derived.Test.YtgpgmnmifhkmbaaMakeD
import Derived.Test.YtgpgmnmifhkmbaaLawM
namespace Go.Proofs.Ytgpgmnmifhkmbaa
open Go.RowKit
set_option linter.unusedVariables false
set_option linter.unusedSimpArgs false

/-- The pattern nearest to X times 2^-64K, and the flags. -/
def rk (K : Nat) (X : Int) : Int × Int := (sgnB (decide (X < 0)) + ((numP X.natAbs (-(64 * (K : Int))) : Nat) : Int), ((flagP X.natAbs (-(64 * (K : Int))) : Nat) : Int))
theorem flagP_zero (e : Int) : flagP 0 e = 0 := by
  unfold flagP
  have : patP 0 e = 0 := by unfold patP; rw [if_pos rfl]
  rw [this]
  simp
theorem rk_zero (K : Nat) : rk K 0 = (0, 0) := by
  unfold rk
  show (sgnB (decide ((0 : Int) < 0)) + ((numP (0 : Int).natAbs _ : Nat) : Int), _) = _
  rw [Int.natAbs_zero, numP_zero, flagP_zero]
  rfl
theorem near_math (neg : Bool) (ws : List Int) (h : Norm ws) (hn : ws ≠ []) (p : Int) (K s : Nat) (hp : -(K : Int) ≤ p) (W : Nat) (more : Bool) (hW : W = (dv ws).toNat * 2 ^ (128 + s) / 2 ^ (64 * ws.length)) (hm : more = decide ((dv ws).toNat * 2 ^ (128 + s) % 2 ^ (64 * ws.length) ≠ 0)) (hb : 2 ^ 126 ≤ W) :
    sgnB neg + ((numR W (64 * (p + ws.length - 2) - s) more : Nat) : Int) = (rk K (sg neg * (dv ws * pw (p + K).toNat))).1 ∧ ((flagR W (64 * (p + ws.length - 2) - s) more : Nat) : Int) = (rk K (sg neg * (dv ws * pw (p + K).toNat))).2 := by
  have pos := (h.pos hn).2.2
  obtain ⟨N, hN⟩ := Int.eq_ofNat_of_zero_le (dv_nonneg h.1)
  have hx : (sg neg * (dv ws * pw (p + K).toNat)).natAbs = N * 2 ^ (64 * (p + K).toNat) := by
    rw [hN, pw_two, ← Int.natCast_mul]
    generalize N * 2 ^ (64 * (p + K).toNat) = Z
    cases neg <;> simp [sg]
  have hsg : decide (sg neg * (dv ws * pw (p + K).toNat) < 0) = neg := by
    have := Int.mul_pos pos (pw_pos (p + K).toNat)
    cases neg
    · rw [decide_eq_false_iff_not]; unfold sg; simp; omega
    · rw [decide_eq_true_eq]; unfold sg; simp; omega
  have st := shift_num (N * 2 ^ (128 + s)) (64 * ws.length) (64 * (p + ws.length - 2) - s) (fun _ => by
    rw [hN, Int.toNat_natCast] at hW
    rw [← hW]
    exact Nat.le_trans (by decide) hb)
  rw [hN, Int.toNat_natCast] at hW hm
  rw [← hW, ← hm] at st
  have e1 : (64 * (p + ws.length - 2) - s) - ((64 * ws.length : Nat) : Int) + ((128 + s : Nat) : Int) = 64 * p := by omega
  rw [numP_scale, flagP_scale, e1] at st
  have e2 : -(64 * (K : Int)) + ((64 * (p + K).toNat : Nat) : Int) = 64 * p := by omega
  unfold rk
  rw [hx, hsg, numP_scale, flagP_scale, e2, st.1, st.2]
  exact ⟨rfl, rfl⟩
set_option maxHeartbeats 2000000 in
theorem dNearN (v : Value) (w : World) (B K : Nat) (L X : Int) (h : Tell w B v K L X) (hk : K ≤ 1000) (hL : L ≤ 400) :
    Calls Try.prog 22 #[v] w fun e w' => e = .returned (.tuple #[.int .u64 (rk K X).1, .int .u8 (rk K X).2]) ∧ Below w.heap.size w w' := by
  have H : Hid (Tell w B v K L X) := h
  obtain ⟨na, ws, p, ⟨s, rfl, h1, h9⟩, h2, h3, h4, h5⟩ := h
  have S1 : Hid (SeesW w B s ws) := h1
  obtain ⟨A1, c1, rfl⟩ := h1.len
  have ts : cmpZ X 0 = if ws = [] then 0 else if na then -1 else 1 := by rw [h5]; exact tell_sign h2
  by_cases hn : ws = []
  · have hX : X = 0 := by rw [h5, hn, dv_nil, Int.zero_mul, Int.mul_zero]
    rw [if_pos hn] at ts
    have TS : Hid (_ = _) := ts
    have HR : Hid (rk K X = (0, 0)) := by rw [hX]; exact rk_zero K
    subst hn
    rw [List.length_nil] at H ⊢
    clear hX ts h5 h1 h2 h3 h4 h9 S1
    go_enter Try.func22, Try.ntmps22
    go_wp2_with (first | (go_at_call 21; refine (dSign _ _ B K L X (H.out.below (by repeat (first | (refine Below.drew ?_) | (refine Below.alloc ?_ (by first | omega | (simp <;> omega)) _) | (refine Below.setCell ?_ (by first | omega | (simp <;> omega)) _) | exact Below.refl _ _)))).mono ?_; rintro e w1 ⟨rfl, hb1⟩; rw [TS.out]; have hx1 : Below w.heap.size w w1 := (Below.trans (by repeat (first | (refine Below.drew ?_) | (refine Below.alloc ?_ (by first | omega | (simp <;> omega)) _) | (refine Below.setCell ?_ (by first | omega | (simp <;> omega)) _) | exact Below.refl _ _)) (hb1.mono (by first | omega | (simp <;> omega)))); clear hb1))
    go_ret2
    exact ⟨by rw [HR.out]; rfl, hx1⟩
  · have NM : Hid (∀ (s W : Nat) (more : Bool), W = (dv ws).toNat * 2 ^ (128 + s) / 2 ^ (64 * ws.length) → more = decide ((dv ws).toNat * 2 ^ (128 + s) % 2 ^ (64 * ws.length) ≠ 0) → 2 ^ 126 ≤ W → sgnB na + ((numR W (64 * (p + ws.length - 2) - s) more : Nat) : Int) = (rk K X).1 ∧ ((flagR W (64 * (p + ws.length - 2) - s) more : Nat) : Int) = (rk K X).2) := by
      intro s W more a b c
      rw [h5]
      exact near_math na ws h2 hn p K s h3 W more a b c
    have hl := tell_len h3 h4 (by omega) (by omega)
    have hlen : ws.length ≤ 1400 := by omega
    obtain ⟨z, hz⟩ : ∃ z, z = cmpZ X 0 := ⟨_, rfl⟩
    have hz0 : z ≠ 0 := by rw [hz, ts, if_neg hn]; split <;> omega
    have HZ : Hid (_ = _) := hz
    have HN : Hid (Norm ws) := h2
    have HNE : Hid (ws ≠ []) := hn
    have HLE : Hid (_ ≤ _) := hlen
    have p0 : -1000 ≤ p := by omega
    have p1 : p ≤ 400 := by omega
    have pn : p + ws.length ≤ 400 := by omega
    obtain ⟨n, hnn⟩ : ∃ n, n = ws.length := ⟨_, rfl⟩
    have N1 : Hid (_ = _) := hnn
    rw [← hnn] at H S1 NM hlen pn ⊢
    clear hz ts h5 h1 h2 h3 h4 h9 hn hl hnn
    go_enter Try.func22, Try.ntmps22
    go_wp2_with (first | (go_at_call 21; refine (dSign _ _ B K L X (H.out.below (by repeat (first | (refine Below.drew ?_) | (refine Below.alloc ?_ (by first | omega | (simp <;> omega)) _) | (refine Below.setCell ?_ (by first | omega | (simp <;> omega)) _) | exact Below.refl _ _)))).mono ?_; rintro e w1 ⟨rfl, hb1⟩; rw [← HZ.out]; obtain ⟨hc1, hf1⟩ := bcell hb1; have hv1 : w.heap.size < w1.heap.size := (by have := hb1.size; simp at this; omega); have hx1 : Below w.heap.size w w1 := (Below.trans (by repeat (first | (refine Below.drew ?_) | (refine Below.alloc ?_ (by first | omega | (simp <;> omega)) _) | (refine Below.setCell ?_ (by first | omega | (simp <;> omega)) _) | exact Below.refl _ _)) (hb1.mono (by first | omega | (simp <;> omega)))); clear hb1) | (go_at_call 49; refine (dLead _ _ ws _ _ B (S1.out.below hx1) HN.out HNE.out (by have := HLE.out; omega) (by omega) (by omega)).mono ?_; rintro e w2 ⟨h, l, s, more, rfl, a0, a1, a2, a3, a4, a5, a6, a7, hb2⟩; rw [← N1.out] at a6 a7 ⊢; have RR := NM.out s _ more a6 a7 a5; have R1 : Hid (_ = _) := RR.1; have R2 : Hid (_ = _) := RR.2; obtain ⟨hc2, hf2⟩ := bcell hb2; have hv2 : w.heap.size < w2.heap.size := (by have := hb2.size; omega); have hx2 : Below w.heap.size w w2 := (hx1.trans (hb2.mono (by omega))); clear hb2 a5 a6 a7 RR) | (go_at_call 50; refine (pRound _ _ _ _ _ _ a0 a1 a2 a3).mono ?_; rintro e w3 ⟨rfl, hb3⟩; rw [clampE_in _ (by omega) (by omega), R1.out, R2.out]; have hx3 : Below w.heap.size w w3 := (Below.trans (by repeat (first | exact hx2 | (refine Below.drew ?_) | (refine Below.alloc ?_ (by first | omega | (simp <;> omega)) _) | (refine Below.setCell ?_ (by first | omega | (simp <;> omega)) _) | exact Below.refl _ _)) (hb3.mono (by first | omega | (simp <;> omega)))); clear hb3))
    go_ret2
    exact ⟨rfl, hx3⟩
end Go.Proofs.Ytgpgmnmifhkmbaa
