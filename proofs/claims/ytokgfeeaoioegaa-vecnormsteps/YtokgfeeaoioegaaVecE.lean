/-
  What vec's Power and Nrm2 return; the document's example. Conditions: at most 60 numbers, beside the Calc.
-/
import Derived.Test.YtokgfeeaoioegaaVecD
import Derived.Test.YtokgfeeaoioegaaMoreR
namespace Go.Proofs.Ytokgfeeaoioegaa
open Go.RowKit
set_option linter.unusedVariables false

/-- All are zeros, or one isn't finite. -/
def NoPow (X : Nat → Int) (n : Nat) : Prop := (∀ i, i < n → mag (X i) = 0) ∨ ∃ i, i < n ∧ ¬ mag (X i) < 9218868437227405312
/-- All are finite. -/
def FinX (X : Nat → Int) (n : Nat) : Prop := ∀ i, i < n → mag (X i) < 9218868437227405312
theorem bl_span (m : Nat) (h : 0 < m) : 1 ≤ (bl m).length ∧ 2 ^ ((bl m).length - 1) ≤ m ∧ m < 2 ^ (bl m).length := by
  have h1 := (bl_length_le m (bl m).length).1 (Nat.le_refl _)
  have h2 := bl_length_le m ((bl m).length - 1)
  have h0 : 1 ≤ (bl m).length := by
    rcases Nat.eq_zero_or_pos (bl m).length with g | g
    · rw [g, Nat.pow_zero] at h1; omega
    · exact g
  refine ⟨h0, ?_, h1⟩
  rcases Nat.lt_or_ge m (2 ^ ((bl m).length - 1)) with g | g
  · have := h2.2 g; omega
  · exact g
theorem mag_mod (x : Int) : mag (x % 9223372036854775808) = mag x := by unfold mag; rw [Int.emod_emod_of_dvd _ (Int.dvd_refl _)]
theorem mant_bad (b : Int) (h : ¬ mag b < 9218868437227405312) : wMant b = 0 := by
  unfold mag at h
  unfold wMant wKind
  repeat' split
  all_goals omega
/-- What the greatest tells of the power. -/
theorem great_pow {n : Nat} {X : Nat → Int} {B t : Int} (h : Great n X B t) :
    (wMant B = 0 → NoPow X n) ∧ (wMant B ≠ 0 → FinX X n ∧ IsPow X n (wPow B + ((bl (wMant B).toNat).length : Int) - 1)) := by
  rcases h with ⟨k, hk, hn, _, rfl, _⟩ | ⟨h0, h⟩
  · refine ⟨fun _ => .inr ⟨k, hk, ?_⟩, fun h => absurd (by decide) h⟩
    unfold isNan at hn
    have := of_decide_eq_true hn
    omega
  · have hnn : ∀ i, i < n → mag (X i) ≤ 9218868437227405312 := by
      intro i hi
      have := h0 i hi
      unfold isNan at this
      have := of_decide_eq_false this
      omega
    rcases h with ⟨rfl, rfl, _⟩ | ⟨j, _, hj, rfl, h3⟩
    · exact ⟨fun _ => .inl (fun i hi => absurd hi (Nat.not_lt_zero i)), fun h => absurd (by decide) h⟩
    · have hle : ∀ i, i < n → mag (X i) ≤ mag (X j) := by
        intro i hi
        have := (h3 i hi).1
        unfold mag
        omega
      have hm := mag_mod (X j)
      by_cases hf : mag (X j) < 9218868437227405312
      · have hz := mant_zero (X j % 9223372036854775808) (by rw [hm]; exact hf)
        rw [hm] at hz
        constructor
        · intro g
          have := hz.1 g
          exact .inl (fun i hi => by have := hle i hi; omega)
        · intro g
          have hF : FinX X n := fun i hi => by have := hle i hi; omega
          refine ⟨hF, ?_⟩
          have hV := parts_V (X j % 9223372036854775808) (by rw [hm]; exact hf)
          rw [hm] at hV
          obtain ⟨p0, p1, p2, p3⟩ := parts_bd (X j % 9223372036854775808)
          generalize wMant (X j % 9223372036854775808) = M at *
          generalize wPow (X j % 9223372036854775808) = P at *
          obtain ⟨s1, s2, s3⟩ := bl_span M.toNat (by omega)
          have s4 : (bl M.toNat).length ≤ 53 := (bl_length_le _ _).2 (by omega)
          generalize (bl M.toNat).length = L at *
          refine ⟨by omega, by omega, fun i hi => ?_, j, hj, ?_⟩
          · refine Nat.lt_of_le_of_lt (V_mono _ _ (hle i hi)) ?_
            rw [hV, show (P + (L : Int) - 1 + 1075).toNat = L + (P + 1074).toNat by omega, Nat.pow_add]
            exact Nat.mul_lt_mul_of_pos_right s3 (Nat.pow_pos (by decide))
          · rw [hV, show (P + (L : Int) - 1 + 1074).toNat = (L - 1) + (P + 1074).toNat by omega, Nat.pow_add]
            exact Nat.mul_le_mul_right _ s2
      · have hb := mant_bad (X j % 9223372036854775808) (by rw [hm]; exact hf)
        exact ⟨fun _ => .inr ⟨j, hj, hf⟩, fun g => absurd hb g⟩
theorem Great.only {n : Nat} {X : Nat → Int} {B t B' t' : Int} (h : Great n X B t) (h' : Great n X B' t') : B = B' := by
  rcases h with ⟨k, hk, hn, _, rfl, _⟩ | ⟨h0, h⟩
  · rcases h' with ⟨k', hk', hn', _, rfl, _⟩ | ⟨h0', h'⟩
    · rfl
    · have := h0' k hk; rw [hn] at this; cases this
  · rcases h' with ⟨k', hk', hn', _, rfl, _⟩ | ⟨h0', h'⟩
    · have := h0 k' hk'; rw [hn'] at this; cases this
    · rcases h with ⟨rfl, rfl, _⟩ | ⟨j, _, hj, rfl, h3⟩
      · rcases h' with ⟨_, rfl, _⟩ | ⟨j', _, hj', _, _⟩
        · rfl
        · exact absurd hj' (Nat.not_lt_zero _)
      · rcases h' with ⟨rfl, _, _⟩ | ⟨j', _, hj', rfl, h3'⟩
        · exact absurd hj (Nat.not_lt_zero _)
        · have := (h3 j' hj').1
          have := (h3' j hj).1
          omega
theorem Great.rng {n : Nat} {X : Nat → Int} {B t : Int} (h : Great n X B t) : 0 ≤ B ∧ B < 18446744073709551616 := by
  rcases h with ⟨k, hk, hn, _, rfl, _⟩ | h
  · decide
  · have := h.bd; omega
set_option maxHeartbeats 1000000 in
theorem vPower (a : Option Addr) (n cap : Nat) (X : Nat → Int) (w : World) (hx : URow w a n cap X) (hl : n ≤ 60) :
    Calls Try.prog 53 #[.slice a n cap] w fun e w' => ∃ (q : Int) (ok : Bool), e = .returned (.tuple #[.int .i64 q, .bool ok]) ∧ w' = w ∧ ((ok = true ∧ FinX X n ∧ IsPow X n q) ∨ (ok = false ∧ q = 0 ∧ NoPow X n)) := by
  have HX : Hid (URow w a n cap X) := hx
  clear hx
  go_enter Try.func53, Try.ntmps53
  go_wp2_with fail
  refine (oGreat _ _ _ X _ HX.out hl).mono ?_
  rintro e w' ⟨B, t, rfl, hg, rfl⟩
  obtain ⟨b0, b1⟩ := hg.rng
  have HP : Hid (_ ∧ _) := great_pow hg
  clear hg
  go_wp2_with fail
  refine (parts_any B _ b0 b1).mono ?_
  rintro e w1 ⟨rfl, rfl⟩
  obtain ⟨p0, p1, p2, p3⟩ := parts_bd B
  obtain ⟨M, hM⟩ : ∃ M, wMant B = M := ⟨_, rfl⟩
  obtain ⟨P, hP⟩ : ∃ P, wPow B = P := ⟨_, rfl⟩
  rw [hM, hP] at HP ⊢
  rw [hM] at p0 p1
  rw [hP] at p2 p3
  clear hM hP
  by_cases hm : M = 0
  · subst hm
    have N : Hid (NoPow X n) := HP.out.1 rfl
    clear HP
    go_wp2
    go_ret2
    exact ⟨0, false, rfl, rfl, .inr ⟨rfl, rfl, N.out⟩⟩
  · have N : Hid (_ ∧ _) := HP.out.2 hm
    have hl : (bl M.toNat).length ≤ 53 := (bl_length_le _ _).2 (by omega)
    have HL : Hid (Calls Try.prog 86 #[.int .u64 M] w1 _) := len64_any M w1 p0 (by omega)
    obtain ⟨L, hL⟩ : ∃ L, (bl M.toNat).length = L := ⟨_, rfl⟩
    rw [hL] at N HL hl
    clear HP hL
    go_wp2_with fail
    refine HL.out.mono ?_
    rintro e w2 ⟨rfl, rfl⟩
    go_wp2
    go_ret2
    exact ⟨_, true, rfl, rfl, .inl ⟨rfl, N.out.1, N.out.2⟩⟩
/-- The flags of Nrm2, where there is a power: those of the Scaling, and Inexact of the squares and sums. -/
def nrmF (X : Nat → Int) (n : Nat) (q : Int) : Int := bits .or .u8 (nrmV X n q).2 (bits .and .u8 (dotF 0 (unitS X q) (unitS X q) n) 1)
theorem calc_new (w : World) : IsCalc (w.alloc (.cells #[.int .u8 0] 66)) (.pointer (some ⟨w.heap.size, 0, none⟩)) (some w.heap.size) 0 := by
  refine .inr ⟨_, rfl, rfl, by simp, ?_, ?_⟩
  · simp [go_sem]
  · simp [go_sem]
set_option maxHeartbeats 2000000 in
set_option maxRecDepth 100000 in
theorem vNrm (p : Value) (c : Option Nat) (F : Int) (a : Option Addr) (n cap : Nat) (X : Nat → Int) (w : World) (hc : IsCalc w p c F) (hx : URow w a n cap X) (ax : Apt c a n) (hl : n ≤ 60) :
    Calls Try.prog 51 #[p, .slice a n cap] w fun e w' => Bes c w w' ∧ ((∃ q, FinX X n ∧ IsPow X n q ∧ e = .returned (.int .u64 (nrmV X n q).1) ∧ IsCalc w' p c (bits .or .u8 F (nrmF X n q))) ∨ (NoPow X n ∧ ∃ B t, Great n X B t ∧ e = .returned (.int .u64 B) ∧ IsCalc w' p c F)) := by
  have HX : Hid (URow w a n cap X) := hx
  have HC : Hid (IsCalc w p c F) := hc
  have XB : Hid (∀ i, 0 ≤ X i ∧ X i < 18446744073709551616) := hx.2.2.1
  clear hx hc ax
  go_enter Try.func51, Try.ntmps51
  go_wp2_with fail
  refine (vPower _ _ _ X _ HX.out hl).mono ?_
  rintro e w' ⟨q, ok, rfl, rfl, hq⟩
  rcases hq with ⟨rfl, hF, hP⟩ | ⟨rfl, rfl, hN⟩
  · obtain ⟨q0, q1⟩ : -1074 ≤ q ∧ q ≤ 1023 := ⟨hP.1, hP.2.1⟩
    have HF : Hid (FinX X n) := hF
    have HP : Hid (IsPow X n q) := hP
    clear hF hP
    go_wp2_with fail
    have hbA : Below w'.heap.size w' (w'.alloc (.cells #[.int .u8 0] 66)) := (Below.refl _ _).alloc (Nat.le_refl _) _
    have hCN := calc_new w'
    have hgz : w'.heap.size < (w'.alloc (.cells #[.int .u8 0] 66)).heap.size := by simp
    obtain ⟨W, hW⟩ : ∃ W, W = w'.alloc (.cells #[.int .u8 0] 66) := ⟨_, rfl⟩
    rw [← hW] at hbA hCN hgz ⊢
    refine (vUnit a n cap X q _ (HX.out.below hbA) (by omega) (by omega) (by omega)).mono ?_
    rintro e w1 ⟨rfl, hu, hb1⟩
    rw [show max q (-9223372036854775807) = q by omega] at hu
    have hC1 := hCN.later hb1
    have hz1 := hb1.size
    have hB1 : Below w'.heap.size w' w1 := hbA.trans (hb1.mono hbA.size)
    obtain ⟨g, hg⟩ : ∃ g, g = W.heap.size := ⟨_, rfl⟩
    rw [← hg] at hu hgz ⊢
    have UB : Hid (∀ i, 0 ≤ unitS X q i ∧ unitS X q i < 18446744073709551616) := hu.2.2.1
    have NV : Hid (nrmV X n q = scaleS (sqrtS (dotV (unitS X q) (unitS X q) n)).1 q) := rfl
    have NF : Hid (nrmF X n q = bits .or .u8 (nrmV X n q).2 (bits .and .u8 (dotF 0 (unitS X q) (unitS X q) n) 1)) := rfl
    obtain ⟨d0, d1⟩ := dotV_rng (unitS X q) (unitS X q) n
    obtain ⟨D, hD⟩ : ∃ D, dotV (unitS X q) (unitS X q) n = D := ⟨_, rfl⟩
    obtain ⟨G, hG⟩ : ∃ G, dotF 0 (unitS X q) (unitS X q) n = G := ⟨_, rfl⟩
    have HD : Hid (_ = _) := hD
    have HGf : Hid (_ = _) := hG
    rw [hD] at d0 d1 NV
    rw [hG] at NF
    have U1 : Hid (URow _ _ _ _ _) := hu
    have C1 : Hid (IsCalc _ _ _ _) := hC1
    have B1 : Hid (Below _ _ _) := hB1
    have HG1 : Hid (w'.heap.size < g) := hgz
    clear hu hC1 hB1 hD hG hb1 hz1 hbA hCN hW hg hgz
    go_wp2_with fail
    refine (vDot _ (some w'.heap.size) 0 _ _ n n n (unitS X q) (unitS X q) _ C1.out U1.out U1.out (fun _ b o s e ec => by have := HG1.out; injection e with e; injection e with e1 e2 e3; injection ec with ec; omega) (fun _ b o s e ec => by have := HG1.out; injection e with e; injection e with e1 e2 e3; injection ec with ec; omega)).mono ?_
    rintro e w2 ⟨rfl, hC2, hB2⟩
    rw [HD.out]
    rw [HGf.out] at hC2
    have C2 : Hid (IsCalc _ _ _ _) := hC2
    have B2 : Hid (Below w'.heap.size w' w2) := B1.out.trans (hB2.below _ B1.out.size (fun k e => by injection e with e; omega))
    clear hC2 hB2 B1 C1 U1
    obtain ⟨s0, s1, s2, s3⟩ := sqrtS_bd D d0 d1
    go_wp2_with fail
    refine (mSqrt D _ d0 d1).mono ?_
    rintro e w3 ⟨rfl, hb3⟩
    have C3 : Hid (IsCalc _ _ _ _) := C2.out.later hb3
    have B3 : Hid (Below w'.heap.size w' w3) := B2.out.trans (hb3.mono B2.out.size)
    clear hb3 C2 B2
    obtain ⟨R, hR⟩ : ∃ R, sqrtS D = R := ⟨_, rfl⟩
    rw [hR] at s0 s1 s2 s3 NV ⊢
    obtain ⟨r, rf⟩ := R
    simp only at s0 s1 s2 s3 NV
    clear hR
    go_wp2_with fail
    refine (mScale r q _ s0 s1 (by omega) (by omega)).mono ?_
    rintro e w4 ⟨rfl, hb4⟩
    have C4 : Hid (IsCalc _ _ _ _) := C3.out.later hb4
    have B4 : Hid (Below w'.heap.size w' w4) := B3.out.trans (hb4.mono B3.out.size)
    clear hb4 C3 B3
    obtain ⟨T, hT⟩ : ∃ T, scaleS r q = T := ⟨_, rfl⟩
    rw [hT] at NV ⊢
    have NV' : Hid (nrmV X n q = T) := NV.out
    obtain ⟨t, tf⟩ := T
    clear hT NV
    have cG : w4.cell? ⟨w'.heap.size, 0, none⟩ = some (.int .u8 G) := by
      rcases C4.out with ⟨_, h⟩ | ⟨k, h1, h2, h3, h4, h5⟩
      · cases h
      · injection h2 with h2
        rw [h2]; exact h4
    go_wp2_with fail
    refine (uNote p c _ _ F _ (HC.out.later B4.out)).mono ?_
    rintro e w5 ⟨rfl, hC5, hB5⟩
    have C5 : Hid (IsCalc w5 p c (bits .or .u8 F (nrmF X n q))) := by
      have := NF.out
      rw [NV'.out] at this
      rw [this]
      exact hC5
    have B5 : Hid (Bes c w' w5) := (Bes.of B4.out).trans hB5
    clear hC5 hB5
    go_wp2
    go_ret
    exact ⟨B5.out, .inl ⟨q, HF.out, HP.out, ret_eq (int_eq (by rw [NV'.out])), C5.out⟩⟩
  · have HN : Hid (NoPow X n) := hN
    clear hN
    go_wp2_with fail
    refine (oGreat _ _ _ X _ HX.out hl).mono ?_
    rintro e w1 ⟨B, t, rfl, hg, rfl⟩
    have HG : Hid (Great _ _ _ _) := hg
    clear hg
    go_wp2
    go_ret
    exact ⟨Bes.refl _ _, .inr ⟨HN.out, B, t, HG.out, ret_eq rfl, HC.out⟩⟩
/-- 3 and 4, and what else stands for nothing. -/
def xHead : Nat → Int := fun i => if i = 0 then 4613937818241073152 else if i = 1 then 4616189618054758400 else 0
theorem xHead_rng (i : Nat) : 0 ≤ xHead i ∧ xHead i < 18446744073709551616 := by
  unfold xHead
  split
  · decide
  · split <;> decide
theorem fHead : FinX xHead 2 := by
  intro i hi
  match i, hi with
  | 0, _ => decide
  | 1, _ => decide
theorem h_s3 : scaleS 4613937818241073152 (-2) = (4604930618986332160, 0) := by decide +kernel
theorem h_s4 : scaleS 4616189618054758400 (-2) = (4607182418800017408, 0) := by decide +kernel
theorem h_m3 : mulS 4604930618986332160 4604930618986332160 = (4603241769126068224, 0) := by decide +kernel
theorem h_m4 : mulS 4607182418800017408 4607182418800017408 = (4607182418800017408, 0) := by decide +kernel
theorem h_a3 : addS 0 4603241769126068224 = (4603241769126068224, 0) := by decide +kernel
theorem h_a4 : addS 4603241769126068224 4607182418800017408 = (4609715693590413312, 0) := by decide +kernel
theorem h_m5 : mulS 4608308318706860032 4608308318706860032 = (4609715693590413312, 0) := by decide +kernel
theorem h_s5 : scaleS 4608308318706860032 2 = (4617315517961601024, 0) := by decide +kernel
theorem V125 : V 4608308318706860032 = 5629499534213120 * 2 ^ 1022 := V_split 5629499534213120 1022 (by decide) (by decide)
theorem h_r : (sqrtS 4609715693590413312).1 = 4608308318706860032 := by
  have hm : mag 4609715693590413312 = 4609715693590413312 := by decide +kernel
  have hr := root_square 4608308318706860032 4609715693590413312 (by decide) (by decide) (by decide +kernel) (by decide) (.inl (by decide +kernel))
  unfold sqrtS
  rw [show isNan 4609715693590413312 = false by decide +kernel, show isZ 4609715693590413312 = false by decide +kernel, show sgn 4609715693590413312 = false by decide +kernel, hm]
  rw [if_neg (by decide), if_neg (by decide), if_neg (by decide), if_neg (by decide)]
  show ((rootN (V 4609715693590413312) : Nat) : Int) = _
  rw [hr]
  rfl
theorem uHead0 : unitS xHead 2 0 = 4604930618986332160 := by
  show (scaleS 4613937818241073152 (-2)).1 = _
  rw [h_s3]
theorem uHead1 : unitS xHead 2 1 = 4607182418800017408 := by
  show (scaleS 4616189618054758400 (-2)).1 = _
  rw [h_s4]
theorem nHead : (nrmV xHead 2 2).1 = 4617315517961601024 := by
  unfold nrmV
  have d0 : dotV (unitS xHead 2) (unitS xHead 2) 0 = 0 := rfl
  have d1 : dotV (unitS xHead 2) (unitS xHead 2) 1 = 4603241769126068224 := by
    show (addS (dotV (unitS xHead 2) (unitS xHead 2) 0) (mulS (unitS xHead 2 0) (unitS xHead 2 0)).1).1 = _
    rw [d0, uHead0, h_m3, h_a3]
  have d2 : dotV (unitS xHead 2) (unitS xHead 2) 2 = 4609715693590413312 := by
    show (addS (dotV (unitS xHead 2) (unitS xHead 2) 1) (mulS (unitS xHead 2 1) (unitS xHead 2 1)).1).1 = _
    rw [d1, uHead1, h_m4, h_a4]
  rw [d2, h_r, h_s5]
theorem pHead : IsPow xHead 2 2 := by
  have h0 : V (mag (xHead 0)) < 2 ^ ((2 : Int) + 1075).toNat := by decide +kernel
  have h1 : V (mag (xHead 1)) < 2 ^ ((2 : Int) + 1075).toNat := by decide +kernel
  have h2 : 2 ^ ((2 : Int) + 1074).toNat ≤ V (mag (xHead 1)) := by decide +kernel
  exact ⟨by decide, by decide, fun i hi => match i, hi with | 0, _ => h0 | 1, _ => h1, 1, by decide, h2⟩
theorem row_head (w : World) : URow (w.alloc (.cells #[.int .u64 4613937818241073152, .int .u64 4616189618054758400] 26)) (some ⟨w.heap.size, 0, none⟩) 2 2 xHead := by
  refine ⟨Nat.le_refl _, by unfold maxLen; omega, xHead_rng, fun _ => ⟨_, _, rfl, by simp, fun i hi => ?_⟩⟩
  match i, hi with
  | 0, _ => rw [World.cell?_alloc_at _ _ _ _ rfl]; rfl
  | 1, _ => rw [World.cell?_alloc_at _ _ _ _ rfl]; rfl
set_option maxHeartbeats 1000000 in
theorem lHead10 (w : World) : Calls Try.prog 40 #[] w fun e w' => e = .returned (.bool true) ∧ Below w.heap.size w w' := by
  go_enter Try.func40, Try.ntmps40
  go_wp2_with fail
  refine (vNrm (.pointer none) none 0 _ 2 2 xHead _ (IsCalc.nil _ _) (row_head w) (Apt.nil _ _) (by decide)).mono ?_
  rintro e w1 ⟨hb, ⟨q, _, hq, rfl, _⟩ | ⟨hN, _⟩⟩
  · obtain rfl := hq.only pHead
    rw [nHead]
    have B : Hid (Below w.heap.size w w1) := bstep ((Below.refl _ _).alloc (Nat.le_refl _) _) hb.nil
    clear hb hq
    go_wp2
    go_ret
    exact ⟨ret_eq rfl, B.out⟩
  · rcases hN with h | ⟨i, hi, h⟩
    · exact absurd (h 0 (by decide)) (by decide)
    · exact absurd (fHead i hi) h
end Go.Proofs.Ytokgfeeaoioegaa
