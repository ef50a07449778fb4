/-
  What the reference's Fma returns: fmaS, at all patterns.
-/
import Derived.Test.YteohkpiecidicaaFmaM
import Derived.Test.YteohkpiecidicaaRef05T
import Derived.Test.YteohkpiecidicaaRef04D
namespace Go.Proofs.Yteohkpiecidicaa
open Go.RowKit
set_option linter.unusedVariables false

theorem cmp_three5 (m n : Nat) : (m < n ∧ cmpI m n = -1) ∨ (m = n ∧ cmpI m n = 0) ∨ (n < m ∧ cmpI m n = 1) := by
  unfold cmpI
  rcases Nat.lt_trichotomy m n with h | h | h
  · left; exact ⟨h, by rw [if_pos h]⟩
  · right; left; exact ⟨h, by rw [if_neg (by omega), if_pos h]⟩
  · right; right; exact ⟨h, by rw [if_neg (by omega), if_neg (by omega)]⟩
theorem fma_num (a b c : Int) (n sc : Bool) (X Y : Nat) (hn : (sgn a != sgn b) = n) (hsc : sgn c = sc) (hX : V (mag a) * V (mag b) = X) (hY : 2 ^ uu * V (mag c) = Y) (ha : mag a < 9218868437227405312) (hb : mag b < 9218868437227405312) (hc : mag c < 9218868437227405312) :
    (X = 0 → Y = 0 → fmaS a b c = addS (sgnB n) c) ∧ (0 < X + Y → n = sc → fmaS a b c = (sgnB n + ((numP (X + Y) (-2148) : Nat) : Int), ((flagP (X + Y) (-2148) : Nat) : Int)))
    ∧ (n ≠ sc → X < Y → fmaS a b c = (sgnB (!n) + ((numP (Y - X) (-2148) : Nat) : Int), ((flagP (Y - X) (-2148) : Nat) : Int)))
    ∧ (n ≠ sc → Y < X → fmaS a b c = (sgnB n + ((numP (X - Y) (-2148) : Nat) : Int), ((flagP (X - Y) (-2148) : Nat) : Int)))
    ∧ (n ≠ sc → X = Y → 0 < X → fmaS a b c = (0, 0)) := by
  have hp := Nat.two_pow_pos uu
  have hx0 : X = 0 ↔ (isZ a || isZ b) = true := by
    rw [← hX, Nat.mul_eq_zero, Bool.or_eq_true, z_iff, z_iff]
    have v1 := V_le_iff (mag a) 0
    have v2 := V_le_iff (mag b) 0
    rw [V_zero] at v1 v2
    omega
  have hy0 : Y = 0 ↔ isZ c = true := by
    rw [← hY, Nat.mul_eq_zero, z_iff]
    have v1 := V_le_iff (mag c) 0
    rw [V_zero] at v1
    omega
  have base : fmaS a b c = if (isZ a || isZ b) && isZ c then addS (sgnB n) c else rnd2 (pv a b + sv c * ((2 ^ uu : Nat) : Int)) := by
    unfold fmaS
    rw [bad_fin a b ha hb, if_neg (by simp), (fin_facts a ha).1, (fin_facts b hb).1, (fin_facts c hc).1, (fin_facts a ha).2, (fin_facts b hb).2, (fin_facts c hc).2, if_neg (by simp), if_neg (by simp), if_neg (by simp), hn]
  have hpv : pv a b = if n then -(X : Int) else (X : Int) := by unfold pv; rw [hn, hX]
  have hcv : sv c * ((2 ^ uu : Nat) : Int) = if sc then -(Y : Int) else (Y : Int) := by
    unfold sv
    rw [hsc, ← hY]
    cases sc
    · simp only [Bool.false_eq_true, if_false]; rw [Int.natCast_mul, Int.mul_comm]
    · simp only [if_true]; rw [Int.natCast_mul, Int.neg_mul, Int.mul_comm]
  rw [base, hpv, hcv]
  have nz : 0 < X + Y → ((isZ a || isZ b) && isZ c) = false := by
    intro h
    rw [Bool.and_eq_false_iff]
    by_cases g : X = 0
    · right
      cases hz : isZ c
      · rfl
      · have := hy0.2 hz; omega
    · left
      cases hz : (isZ a || isZ b)
      · rfl
      · have := hx0.2 hz; omega
  refine ⟨?_, ?_, ?_, ?_, ?_⟩
  · intro h1 h2
    rw [hx0.1 h1, hy0.1 h2, if_pos (by rfl)]
  · intro h1 h2
    rw [nz h1, if_neg (by simp), h2]
    unfold rnd2
    cases sc
    · have e : ((if false = true then -(X : Int) else (X : Int)) + (if false = true then -(Y : Int) else (Y : Int))) = ((X + Y : Nat) : Int) := by simp
      rw [e, Int.natAbs_natCast, decide_eq_false (by omega)]
    · have e : ((if true = true then -(X : Int) else (X : Int)) + (if true = true then -(Y : Int) else (Y : Int))) = -((X + Y : Nat) : Int) := by simp; omega
      rw [e, Int.natAbs_neg, Int.natAbs_natCast, decide_eq_true (by omega)]
  · intro h1 h2
    rw [nz (by omega), if_neg (by simp)]
    unfold rnd2
    cases n <;> cases sc
    · exact absurd rfl h1
    · have e : ((if false = true then -(X : Int) else (X : Int)) + (if true = true then -(Y : Int) else (Y : Int))) = -((Y - X : Nat) : Int) := by simp; omega
      rw [e, Int.natAbs_neg, Int.natAbs_natCast, decide_eq_true (by omega)]
      rfl
    · have e : ((if true = true then -(X : Int) else (X : Int)) + (if false = true then -(Y : Int) else (Y : Int))) = ((Y - X : Nat) : Int) := by simp; omega
      rw [e, Int.natAbs_natCast, decide_eq_false (by omega)]
      rfl
    · exact absurd rfl h1
  · intro h1 h2
    rw [nz (by omega), if_neg (by simp)]
    unfold rnd2
    cases n <;> cases sc
    · exact absurd rfl h1
    · have e : ((if false = true then -(X : Int) else (X : Int)) + (if true = true then -(Y : Int) else (Y : Int))) = ((X - Y : Nat) : Int) := by simp; omega
      rw [e, Int.natAbs_natCast, decide_eq_false (by omega)]
    · have e : ((if true = true then -(X : Int) else (X : Int)) + (if false = true then -(Y : Int) else (Y : Int))) = -((X - Y : Nat) : Int) := by simp; omega
      rw [e, Int.natAbs_neg, Int.natAbs_natCast, decide_eq_true (by omega)]
    · exact absurd rfl h1
  · intro h1 h2 h3
    rw [nz (by omega), if_neg (by simp)]
    have e : ((if n = true then -(X : Int) else (X : Int)) + (if sc = true then -(Y : Int) else (Y : Int))) = 0 := by
      cases n <;> cases sc
      · exact absurd rfl h1
      · simp; omega
      · simp; omega
      · exact absurd rfl h1
    rw [e]
    unfold rnd2
    rw [show (0 : Int).natAbs = 0 from rfl, numP_zero]
    have : flagP 0 (-2148) = 0 := by unfold flagP patP; simp
    rw [this]
    rfl
set_option maxRecDepth 100000 in
set_option maxHeartbeats 4000000 in
theorem q5Fma (a b c : Int) (w : World) (h0 : 0 ≤ a) (h1 : a < 18446744073709551616) (g0 : 0 ≤ b) (g1 : b < 18446744073709551616) (k0 : 0 ≤ c) (k1 : c < 18446744073709551616) :
    Calls Try.prog 19 #[.int .u64 a, .int .u64 b, .int .u64 c] w fun e w' => e = .returned (.tuple #[.int .u64 (fmaS a b c).1, .int .i64 (fmaS a b c).2]) ∧ Below w.heap.size w w' := by
  obtain ⟨ia, hia⟩ : ∃ x, isInf a = x := ⟨_, rfl⟩
  obtain ⟨ib, hib⟩ : ∃ x, isInf b = x := ⟨_, rfl⟩
  obtain ⟨ic, hic⟩ : ∃ x, isInf c = x := ⟨_, rfl⟩
  obtain ⟨za, hza⟩ : ∃ x, isZ a = x := ⟨_, rfl⟩
  obtain ⟨zb, hzb⟩ : ∃ x, isZ b = x := ⟨_, rfl⟩
  obtain ⟨sa, hsa⟩ : ∃ x, sgn a = x := ⟨_, rfl⟩
  obtain ⟨sb, hsb⟩ : ∃ x, sgn b = x := ⟨_, rfl⟩
  obtain ⟨sc, hsc⟩ : ∃ x, sgn c = x := ⟨_, rfl⟩
  obtain ⟨n, hn⟩ : ∃ x, (sa != sb) = x := ⟨_, rfl⟩
  obtain ⟨nn, hnn⟩ : ∃ x, (isNan a || isNan b || isNan c) = x := ⟨_, rfl⟩
  obtain ⟨S, hS⟩ : ∃ S, fmaS a b c = S := ⟨_, rfl⟩
  obtain ⟨bad, hbad⟩ : ∃ x, ((ia && zb) || (za && ib)) = x := ⟨_, rfl⟩
  have IA : Hid (_ = _) := hia
  have IB : Hid (_ = _) := hib
  have IC : Hid (_ = _) := hic
  have ZA : Hid (_ = _) := hza
  have ZB : Hid (_ = _) := hzb
  have SA : Hid (_ = _) := hsa
  have SB : Hid (_ = _) := hsb
  have SC : Hid (_ = _) := hsc
  have SN : Hid ((!(sa == sb)) = n) := hn
  have NN : Hid (_ = _) := hnn
  have BD : Hid (_ = _) := hbad
  have HS : Hid (_ = _) := hS
  have SP := hS
  unfold fmaS at SP
  rw [hia, hib, hza, hzb, hsa, hsb, hic, hn, hbad, hnn] at SP
  rw [hS]
  have FN : Hid (nn = false → ia = false → ib = false → ic = false → ∀ X Y : Nat, V (mag a) * V (mag b) = X → 2 ^ uu * V (mag c) = Y → (X = 0 → Y = 0 → S = addS (sgnB n) c) ∧ (0 < X + Y → n = sc → S = (sgnB n + ((numP (X + Y) (-2148) : Nat) : Int), ((flagP (X + Y) (-2148) : Nat) : Int)))
    ∧ (n ≠ sc → X < Y → S = (sgnB (!n) + ((numP (Y - X) (-2148) : Nat) : Int), ((flagP (Y - X) (-2148) : Nat) : Int)))
    ∧ (n ≠ sc → Y < X → S = (sgnB n + ((numP (X - Y) (-2148) : Nat) : Int), ((flagP (X - Y) (-2148) : Nat) : Int)))
    ∧ (n ≠ sc → X = Y → 0 < X → S = (0, 0))) := by
    show _ → _ → _ → _ → ∀ X Y : Nat, _
    intro q1 q2 q3 q4 X Y q5 q6
    rw [q1] at hnn
    rw [q2] at hia
    rw [q3] at hib
    rw [q4] at hic
    simp only [Bool.or_eq_false_iff] at hnn
    rw [← hS]
    exact fma_num a b c n sc X Y (by rw [hsa, hsb]; exact hn) hsc q5 q6 (mag_fin a hnn.1.1 hia) (mag_fin b hnn.1.2 hib) (mag_fin c hnn.2 hic)
  have MF : Hid (nn = false → ia = false → ib = false → ic = false → mag a < 9218868437227405312 ∧ mag b < 9218868437227405312 ∧ mag c < 9218868437227405312) := by
    show _ → _ → _ → _ → _
    intro q1 q2 q3 q4
    rw [q1] at hnn
    rw [q2] at hia
    rw [q3] at hib
    rw [q4] at hic
    simp only [Bool.or_eq_false_iff] at hnn
    exact ⟨mag_fin a hnn.1.1 hia, mag_fin b hnn.1.2 hib, mag_fin c hnn.2 hic⟩
  have SPH : Hid (_ = _) := SP
  clear SP hia hib hic hza hzb hsa hsb hsc hn hnn hS hbad
  go_enter Try.func19, Try.ntmps19
  go_wp2_with fail
  refine (q5Nan3 _ _ _ _ _ h0 h1 g0 g1 k0 k1 (by simp [go_sem]) (by simp [go_sem]) (by simp [go_sem])).mono ?_
  rintro e w1 ⟨rfl, hw1⟩
  have hbw : Below w.heap.size w w1 := by rw [hw1]; exact bmore (Below.refl _ _) _
  clear hw1
  rw [NN.out]
  obtain ⟨nf, hnf⟩ : ∃ x, nanF3 a b c = x := ⟨_, rfl⟩
  rw [hnf] at SPH
  rw [hnf]
  clear hnf NN
  go_upto_region 2 with fail
  go_cut [10] (fun t wx => t = .bool bad ∧ Below w.heap.size w wx)
  case first =>
    cases ia <;> cases zb <;> cases za <;> cases ib
    all_goals
      go_wp2_with (first | (go_at_call_of 47 a; refine (q4Inf _ _ h0 h1).mono ?_; rintro e w' ⟨rfl, rfl⟩; rw [IA.out]) | (go_at_call_of 47 b; refine (q4Inf _ _ g0 g1).mono ?_; rintro e w' ⟨rfl, rfl⟩; rw [IB.out]) | (go_at_call_of 48 a; refine (q4Zero _ _ h0 h1).mono ?_; rintro e w' ⟨rfl, rfl⟩; rw [ZA.out]) | (go_at_call_of 48 b; refine (q4Zero _ _ g0 g1).mono ?_; rintro e w' ⟨rfl, rfl⟩; rw [ZB.out]))
      go_meet
      exact ⟨bool_eq (by rw [← BD.out]; rfl), hbw⟩
  case rest =>
    clear hbw
    obtain ⟨rfl, hbw⟩ := hcut
    clear BD ZA ZB
    cases bad
    · cases nn
      · go_upto_region 7 with fail
        go_cut [11] (fun t wx => t = .bool n ∧ Below w.heap.size w wx)
        case first =>
          go_wp2_with (first | (go_at_call_of 58 a; refine (q4Neg _ _ h0 h1).mono ?_; rintro e w' ⟨rfl, rfl⟩; rw [SA.out]) | (go_at_call_of 58 b; refine (q4Neg _ _ g0 g1).mono ?_; rintro e w' ⟨rfl, rfl⟩; rw [SB.out]))
          go_meet
          exact ⟨bool_eq SN.out, hbw⟩
        case rest =>
          clear hbw
          obtain ⟨rfl, hbw⟩ := hcut
          clear SN SA SB
          have sn1 := sgnB_le n
          by_cases hi : (ia || ib) = true
          · have R : Hid (S = addS (sgnB n + 9218868437227405312) c) := by show _ = _; rw [← SPH.out, if_neg (by simp), if_neg (by simp), if_pos hi]
            have hi2 : ia = true ∨ (ia = false ∧ ib = true) := by revert hi; cases ia <;> cases ib <;> simp
            clear hi FN MF SPH
            rcases hi2 with rfl | ⟨rfl, rfl⟩
            all_goals
              go_wp2_with (first | (go_at_call 67; refine (q4Signed _ _ _ (by omega) (by omega)).mono ?_; rintro e w' ⟨rfl, rfl⟩) | (go_at_call_of 47 a; refine (q4Inf _ _ h0 h1).mono ?_; rintro e w' ⟨rfl, rfl⟩; rw [IA.out]) | (go_at_call_of 47 b; refine (q4Inf _ _ g0 g1).mono ?_; rintro e w' ⟨rfl, rfl⟩; rw [IB.out]) | (go_at_call_of 47 c; refine (q4Inf _ _ k0 k1).mono ?_; rintro e w' ⟨rfl, rfl⟩; rw [IC.out]) | fail)
              refine (q4Add _ _ _ (by omega) (by omega) k0 k1).mono ?_
              rintro e w2 ⟨rfl, hb2⟩
              rw [← R.out]
              have hbx := bstep hbw hb2
              go_wp2
              go_ret2
              exact ⟨rfl, hbx⟩
          · have hi2 : ia = false ∧ ib = false := by revert hi; cases ia <;> cases ib <;> simp
            obtain ⟨rfl, rfl⟩ := hi2
            cases ic
            · have FN2 := FN.out (by first | rfl | trivial) (by first | rfl | trivial) (by first | rfl | trivial) (by first | rfl | trivial)
              have MFO : Hid (_ ∧ _ ∧ _) := MF.out (by first | rfl | trivial) (by first | rfl | trivial) (by first | rfl | trivial) (by first | rfl | trivial)
              have lva := V_len a MFO.out.1
              have lvb := V_len b MFO.out.2.1
              have lvc := V_len c MFO.out.2.2
              obtain ⟨VA, hVA⟩ : ∃ x, V (mag a) = x := ⟨_, rfl⟩
              obtain ⟨VB, hVB⟩ : ∃ x, V (mag b) = x := ⟨_, rfl⟩
              obtain ⟨VC, hVC⟩ : ∃ x, V (mag c) = x := ⟨_, rfl⟩
              rw [hVA] at lva FN2
              rw [hVB] at lvb FN2
              rw [hVC] at lvc FN2
              obtain ⟨X, hX⟩ : ∃ x, VA * VB = x := ⟨_, rfl⟩
              obtain ⟨Y, hY⟩ : ∃ x, 2 ^ uu * VC = x := ⟨_, rfl⟩
              have lx : (bl X).length ≤ 4200 := by
                have := mul_len (bl VA) (bl VB) (bl VA).length (bl_bin _) (bl_bin _) (Nat.le_refl _)
                rw [List.take_length, val_bl, val_bl, hX] at this
                omega
              have ly : (bl Y).length ≤ 4200 := by
                have := up_len (bl VC) uu (bl_bin _)
                rw [val_bl, hY] at this
                have hu := uu_nat
                omega
              have FN3 : Hid (_ ∧ _ ∧ _ ∧ _ ∧ _) := FN2 X Y hX hY
              have HVA : Hid (_ = _) := hVA
              have HVB : Hid (_ = _) := hVB
              have HVC : Hid (_ = _) := hVC
              have HX : Hid (_ = _) := hX
              have HY : Hid (_ = _) := hY
              clear FN MF FN2 SPH hi hVA hVB hVC hX hY
              go_wp2_with (first | (go_at_call_of 47 a; refine (q4Inf _ _ h0 h1).mono ?_; rintro e w' ⟨rfl, rfl⟩; rw [IA.out]) | (go_at_call_of 47 b; refine (q4Inf _ _ g0 g1).mono ?_; rintro e w' ⟨rfl, rfl⟩; rw [IB.out]) | (go_at_call_of 47 c; refine (q4Inf _ _ k0 k1).mono ?_; rintro e w' ⟨rfl, rfl⟩; rw [IC.out]) | fail)
              refine (q4Whole _ _ h0 h1 MFO.out.1).mono ?_
              rintro e w2 ⟨v2, rfl, own2, hb2⟩
              rw [HVA.out] at own2
              have hbx := bstep hbw hb2
              clear hb2 hbw
              go_wp2_with fail
              refine (q4Whole _ _ g0 g1 MFO.out.2.1).mono ?_
              rintro e w3 ⟨v3, rfl, own3, hb3⟩
              rw [HVB.out] at own3
              replace own2 := own2.below hb3
              have hby := bstep hbx hb3
              clear hb3 hbx
              go_wp2_with fail
              refine (rMul _ _ _ _ _ own2.sees own3.sees (bl_bin _) (bl_bin _) (by omega) (by omega)).mono ?_
              rintro e w4 ⟨v4, rfl, ownX, hb4⟩
              rw [val_bl, val_bl, HX.out] at ownX
              have hbz := bstep hby hb4
              clear hb4 hby own2 own3
              go_wp2_with fail
              refine (q4Whole _ _ k0 k1 MFO.out.2.2).mono ?_
              rintro e w5 ⟨v5, rfl, own5, hb5⟩
              rw [HVC.out] at own5
              replace ownX := ownX.below hb5
              have hbt := bstep hbz hb5
              clear hb5 hbz
              go_wp2_with fail
              refine (rUp _ _ _ _ own5.sees (bl_bin _) (by omega) (by omega)).mono ?_
              rintro e w6 ⟨v6, rfl, ownY, hb6⟩
              rw [val_bl, show (1074 : Int).toNat = uu from rfl, HY.out] at ownY
              replace ownX := ownX.below hb6
              have hbu := bstep hbt hb6
              clear hb6 hbt own5 HX HY HVA HVB HVC MFO lva lvb lvc
              obtain ⟨b4, o4, c4, rfl, q41, q42, q43, q44⟩ := ownX.sees
              obtain ⟨b6, o6, c6, rfl, q61, q62, q63, q64⟩ := ownY.sees
              clear q44 q64
              have nx := bl_nil_iff X
              have ny := bl_nil_iff Y
              obtain ⟨LX, hLX⟩ : ∃ x, (bl X).length = x := ⟨_, rfl⟩
              obtain ⟨LY, hLY⟩ : ∃ x, (bl Y).length = x := ⟨_, rfl⟩
              rw [hLX] at ownX q42 nx
              rw [hLY] at ownY q62 ny
              rw [hLX, hLY]
              have NX : Hid (_ ↔ _) := nx
              have NY : Hid (_ ↔ _) := ny
              have HLX : Hid (_ = _) := hLX
              have HLY : Hid (_ = _) := hLY
              clear nx ny hLX hLY
              by_cases hxy : LX = 0 ∧ LY = 0
              · have R : Hid (_ = _) := FN3.out.1 (NX.out.1 hxy.1) (NY.out.1 hxy.2)
                obtain ⟨rfl, rfl⟩ := hxy
                clear FN3
                go_wp2_with (first | (go_at_call 67; refine (q4Signed _ _ _ (by omega) (by omega)).mono ?_; rintro e w' ⟨rfl, rfl⟩) | fail)
                refine (q4Add _ _ _ (by omega) (by omega) k0 k1).mono ?_
                rintro e w7 ⟨rfl, hb7⟩
                rw [← R.out]
                have hbv := bstep hbu hb7
                go_wp2
                go_ret2
                exact ⟨rfl, hbv⟩
              · have hpos : Hid (0 < X + Y) := by
                  show _ < _
                  have q1 := NX.out
                  have q2 := NY.out
                  omega
                have hx2 : LX ≠ 0 ∨ (LX = 0 ∧ LY ≠ 0) := by omega
                have LS : Hid (∀ m : Nat, (m ≤ X ∨ m ≤ Y ∨ m ≤ X + Y) → (bl m).length ≤ 4201) := by
                  show ∀ m : Nat, _
                  intro m hm
                  refine Nat.le_trans (len_mono m (X + Y) (by omega)) ?_
                  exact add_len X Y 4200 lx ly
                clear hxy
                rcases hx2 with hl | ⟨rfl, hl⟩
                all_goals
                  first | (have hl2 : ((LX : Int) == 0) = false := by (rw [beq_eq_false_iff_ne]; omega)) | (have hl2 : ((LY : Int) == 0) = false := by (rw [beq_eq_false_iff_ne]; omega))
                  clear hl
                  go_wp2_with fail
                  refine (rAdd _ _ _ _ _ ownX.sees ownY.sees (bl_bin _) (bl_bin _) (by omega) (by omega)).mono ?_
                  rintro e w7 ⟨v7, rfl, ownS, hb7⟩
                  rw [val_bl, val_bl] at ownS
                  replace ownX := ownX.below hb7
                  replace ownY := ownY.below hb7
                  replace hbu := bstep hbu hb7
                  clear hb7
                  by_cases hns : n = sc
                  · have R : Hid (_ = _) := FN3.out.2.1 hpos.out hns
                    subst hns
                    have lS := LS.out (X + Y) (by omega)
                    clear FN3 ownX ownY hpos NX NY LS HLX HLY
                    go_wp2_with (first | (go_at_call_of 58 c; refine (q4Neg _ _ k0 k1).mono ?_; rintro e w' ⟨rfl, rfl⟩; rw [SC.out]) | fail)
                    refine (r3Round _ _ _ _ (-2148) _ ownS.sees (bl_bin _) (by omega) (by omega) (by omega)).mono ?_
                    rintro e w9 ⟨B, F, rfl, hB, hF, hb9⟩
                    rw [val_bl, numM_false] at hB
                    rw [val_bl, flagM_false] at hF
                    have HB : Hid (_ = _) := hB
                    have HF : Hid (_ = _) := hF
                    have hbq := bstep hbu hb9
                    clear hB hF hb9
                    go_wp2_with fail
                    go_region
                    all_goals go_wp2
                    all_goals go_ret2
                    all_goals refine ⟨?_, (bmore hbq _).drew⟩
                    all_goals (rw [R.out, HB.out, HF.out]; rfl)
                  · have hbn : (n == sc) = false := by simpa using hns
                    clear ownS
                    go_wp2_with (first | (go_at_call_of 58 c; refine (q4Neg _ _ k0 k1).mono ?_; rintro e w' ⟨rfl, rfl⟩; rw [SC.out]) | fail)
                    refine (rCmp _ _ _ _ _ ownX.sees ownY.sees (bl_bin _) (bl_bin _) (by omega) (by omega)).mono ?_
                    rintro e w8 ⟨rfl, hb8⟩
                    rw [val_bl, val_bl]
                    replace ownX := ownX.below hb8
                    replace ownY := ownY.below hb8
                    have hbv := bstep hbu hb8
                    clear hb8 hbu
                    have ct := cmp_three5 X Y
                    obtain ⟨C, hC⟩ : ∃ C, cmpI X Y = C := ⟨_, rfl⟩
                    rw [hC] at ct
                    rw [hC]
                    clear hC
                    rcases ct with ⟨c1, rfl⟩ | ⟨c1, rfl⟩ | ⟨c1, rfl⟩
                    · have R : Hid (_ = _) := FN3.out.2.2.1 hns c1
                      have lS := LS.out (Y - X) (by omega)
                      have nS : ¬ (bl (Y - X)).length = 0 := fun h => by have := (bl_nil_iff (Y - X)).1 h; omega
                      have C1 : Hid (_ < _) := c1
                      clear FN3 hpos NX NY LS HLX HLY c1
                      go_wp2_with fail
                      refine (rSub _ _ _ _ _ ownY.sees ownX.sees (bl_bin _) (bl_bin _) (by omega) (by omega) (by rw [val_bl, val_bl]; exact Nat.le_of_lt C1.out)).mono ?_
                      rintro e w10 ⟨v10, rfl, ownS, hb10⟩
                      rw [val_bl, val_bl] at ownS
                      replace hbv := bstep hbv hb10
                      clear hb10 ownX ownY
                      obtain ⟨b9, o9, c9, rfl, q91, q92, q93, q94⟩ := ownS.sees
                      obtain ⟨LL, hLL⟩ : ∃ x, (bl (Y - X)).length = x := ⟨_, rfl⟩
                      rw [hLL] at ownS q92 nS
                      rw [hLL]
                      have nS2 : ((LL : Int) == 0) = false := by rw [beq_eq_false_iff_ne]; omega
                      clear q94 nS hLL
                      go_wp2_with fail
                      refine (r3Round _ _ _ _ (-2148) _ ownS.sees (bl_bin _) (by omega) (by omega) (by omega)).mono ?_
                      rintro e w9 ⟨B, F, rfl, hB, hF, hb9⟩
                      rw [val_bl, numM_false] at hB
                      rw [val_bl, flagM_false] at hF
                      have HB : Hid (_ = _) := hB
                      have HF : Hid (_ = _) := hF
                      have hbq := bstep hbv hb9
                      clear hB hF hb9
                      go_wp2_with fail
                      go_region
                      all_goals go_wp2
                      all_goals go_ret2
                      all_goals refine ⟨?_, (bmore hbq _).drew⟩
                      all_goals (rw [R.out, HB.out, HF.out]; rfl)
                    · have R : Hid (_ = _) := FN3.out.2.2.2.2 hns c1 (by have := hpos.out; omega)
                      have C1 : Hid (_ = _) := c1
                      clear FN3 hpos NX NY LS HLX HLY c1
                      go_wp2_with fail
                      refine (rSub _ _ _ _ _ ownX.sees ownY.sees (bl_bin _) (bl_bin _) (by omega) (by omega) (by rw [val_bl, val_bl]; exact Nat.le_of_eq C1.out.symm)).mono ?_
                      rintro e w10 ⟨v10, rfl, ownS, hb10⟩
                      rw [val_bl, val_bl, C1.out, Nat.sub_self, bl_zero] at ownS
                      replace hbv := bstep hbv hb10
                      obtain ⟨b9, o9, c9, rfl, q91, q92, q93, q94⟩ := ownS.sees
                      clear hb10 ownX ownY ownS q94
                      rw [List.length_nil]
                      go_wp2
                      go_ret2
                      refine ⟨?_, hbv⟩
                      rw [R.out]
                      all_goals rfl
                    · have R : Hid (_ = _) := FN3.out.2.2.2.1 hns c1
                      have lS := LS.out (X - Y) (by omega)
                      have nS : ¬ (bl (X - Y)).length = 0 := fun h => by have := (bl_nil_iff (X - Y)).1 h; omega
                      have C1 : Hid (_ < _) := c1
                      clear FN3 hpos NX NY LS HLX HLY c1
                      go_wp2_with fail
                      refine (rSub _ _ _ _ _ ownX.sees ownY.sees (bl_bin _) (bl_bin _) (by omega) (by omega) (by rw [val_bl, val_bl]; exact Nat.le_of_lt C1.out)).mono ?_
                      rintro e w10 ⟨v10, rfl, ownS, hb10⟩
                      rw [val_bl, val_bl] at ownS
                      replace hbv := bstep hbv hb10
                      clear hb10 ownX ownY
                      obtain ⟨b9, o9, c9, rfl, q91, q92, q93, q94⟩ := ownS.sees
                      obtain ⟨LL, hLL⟩ : ∃ x, (bl (X - Y)).length = x := ⟨_, rfl⟩
                      rw [hLL] at ownS q92 nS
                      rw [hLL]
                      have nS2 : ((LL : Int) == 0) = false := by rw [beq_eq_false_iff_ne]; omega
                      clear q94 nS hLL
                      go_wp2_with fail
                      refine (r3Round _ _ _ _ (-2148) _ ownS.sees (bl_bin _) (by omega) (by omega) (by omega)).mono ?_
                      rintro e w9 ⟨B, F, rfl, hB, hF, hb9⟩
                      rw [val_bl, numM_false] at hB
                      rw [val_bl, flagM_false] at hF
                      have HB : Hid (_ = _) := hB
                      have HF : Hid (_ = _) := hF
                      have hbq := bstep hbv hb9
                      clear hB hF hb9
                      go_wp2_with fail
                      go_region
                      all_goals go_wp2
                      all_goals go_ret2
                      all_goals refine ⟨?_, (bmore hbq _).drew⟩
                      all_goals (rw [R.out, HB.out, HF.out]; rfl)

            · have R : Hid (S = (c, 0)) := by show _ = _; rw [← SPH.out, if_neg (by simp), if_neg (by simp), if_neg (by simp), if_pos rfl]
              clear FN MF SPH hi
              go_wp2_with (first | (go_at_call_of 47 a; refine (q4Inf _ _ h0 h1).mono ?_; rintro e w' ⟨rfl, rfl⟩; rw [IA.out]) | (go_at_call_of 47 b; refine (q4Inf _ _ g0 g1).mono ?_; rintro e w' ⟨rfl, rfl⟩; rw [IB.out]) | (go_at_call_of 47 c; refine (q4Inf _ _ k0 k1).mono ?_; rintro e w' ⟨rfl, rfl⟩; rw [IC.out]))
              go_ret2
              refine ⟨?_, hbw⟩
              rw [R.out]
              all_goals rfl
      · have R : Hid (S = (9221120237041090560, nf)) := by show _ = _; rw [← SPH.out, if_neg (by simp), if_pos rfl]
        clear FN MF SPH
        go_wp2
        go_ret2
        refine ⟨?_, hbw⟩
        rw [R.out]
        all_goals rfl
    · have R : Hid (S = (9221120237041090560, 16)) := by show _ = _; rw [← SPH.out, if_pos rfl]
      clear FN MF SPH
      go_wp2
      go_ret2
      refine ⟨?_, hbw⟩
      rw [R.out]
      all_goals rfl
end Go.Proofs.Yteohkpiecidicaa
