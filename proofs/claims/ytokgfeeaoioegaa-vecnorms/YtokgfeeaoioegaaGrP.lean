/-
  Texts put together: NrmL.
-/
import Derived.Test.YtokgfeeaoioegaaProg
import Derived.Test.YtokgfeeaoioegaaGrI
import Derived.Test.YtokgfeeaoioegaaGrB
import Derived.Test.YtokgfeeaoioegaaGrO
import Derived.Test.YtokgfeeaoioegaaGrM
/-
  What Nrm2 returns, told as the law VecNorms wants it. Conditions: at most 60 numbers.
-/
namespace Go.Proofs.Ytokgfeeaoioegaa
open Go.RowKit
set_option linter.unusedVariables false

theorem greatB_zero {X : Nat → Int} {n : Nat} {B t : Int} (h : Great n X B t) (hz : ∀ i, i < n → mag (X i) = 0) : B = 0 := by
  rcases h with ⟨k, hk, hn, _, _⟩ | ⟨_, ⟨_, h2, _⟩ | ⟨j, _, hj, hB, _⟩⟩
  · have := hz k hk
    unfold isNan at hn
    rw [this] at hn
    simp at hn
  · omega
  · have := hz j (by omega)
    unfold mag at this
    omega
/-- The inequality of the law, over whole numbers. -/
def Norm2 (X : Nat → Int) (n : Nat) (r : Int) : Prop :=
  mag r < 9218868437227405312 ∧ V (mag r) * V (mag r) * (9007199254740992 * 9007199254740992) ≤ sqs (fun i => V (mag (X i))) n * ((9007199254740992 + (n + 4)) * (9007199254740992 + (n + 4))) ∧
    sqs (fun i => V (mag (X i))) n * ((9007199254740992 - (n + 4)) * (9007199254740992 - (n + 4))) ≤ V (mag r) * V (mag r) * (9007199254740992 * 9007199254740992)
theorem sqs_zero (f : Nat → Nat) (n : Nat) (h : ∀ i, i < n → f i = 0) : sqs f n = 0 := by
  induction n with
  | zero => rfl
  | succ n ih =>
    show sqs f n + f n * f n = 0
    rw [ih (fun i hi => h i (by omega)), h n (by omega)]
theorem or_zero_l (F : Int) (h0 : 0 ≤ F) (h1 : F < 256) : bits .or .u8 0 F = F := by
  obtain ⟨f, rfl⟩ := Int.eq_ofNat_of_zero_le h0
  have := or_u8 0 f (by decide) (by omega)
  rw [Nat.zero_or] at this
  exact this
set_option maxHeartbeats 1000000 in
theorem vNrmW (p : Value) (c : Option Nat) (a : Option Addr) (n cap : Nat) (X : Nat → Int) (w : World) (hc : IsCalc w p c 0) (hx : URow w a n cap X) (ax : Apt c a n) (hl : n ≤ 40) :
    Calls Try.prog 51 #[p, .slice a n cap] w fun e w' => ∃ r F, e = .returned (.int .u64 r) ∧ 0 ≤ r ∧ r < 18446744073709551616 ∧ (FinX X n → bits .and .u8 F 6 = 0 → Norm2 X n r) ∧ (¬ FinX X n → F = 0 ∧ ∃ t, Great n X r t) ∧ IsCalc w' p c F ∧ Bes c w w' := by
  have zx := hx.2.2.1
  refine (vNrm p c 0 a n cap X w hc hx ax (by omega)).mono ?_
  rintro e w' ⟨hB, ⟨q, hF, hP, rfl, hC⟩ | ⟨hN, B, t, hG, rfl, hC⟩⟩
  · obtain ⟨f0, f1⟩ := nrmF_rng X n q
    rw [or_zero_l _ f0 (by omega)] at hC
    obtain ⟨v0, v1⟩ := dotV_rng (unitS X q) (unitS X q) n
    obtain ⟨s0, s1, _, _⟩ := sqrtS_bd _ v0 v1
    obtain ⟨g0, g1, _, _⟩ := scaleS_bd _ q s0 s1
    refine ⟨_, _, rfl, g0, g1, fun _ h6 => ?_, fun h => absurd hF h, hC, hB⟩
    obtain ⟨p1, p2, p3, p4⟩ := hP
    exact norm_err X q n (by omega) hF p1 p2 (fun i hi => Nat.le_of_lt (p3 i hi)) p4 _ _ _ rfl rfl rfl (nrmF_six X n q h6)
  · refine ⟨B, 0, rfl, ?_, ?_, fun hF _ => ?_, fun _ => ⟨rfl, t, hG⟩, hC, hB⟩
    · exact hG.rng.1
    · exact hG.rng.2
    · rcases hN with hz | ⟨i, hi, h⟩
      · obtain rfl := greatB_zero hG hz
        refine ⟨by decide, ?_, ?_⟩
        · rw [show V (mag 0) = 0 from rfl, Nat.zero_mul]
          exact Nat.zero_le _
        · rw [sqs_zero _ _ (fun i hi => by rw [hz i hi]; rfl), Nat.zero_mul]
          exact Nat.zero_le _
      · exact absurd (hF i hi) h
theorem norms_lo (x : Int) (G S n : Nat) (hx : x * x = (G : Int) * (G : Int) * 268435456) (hn : n ≤ 40) (h : S * ((9007199254740992 - (n + 4)) * (9007199254740992 - (n + 4))) ≤ G * G * (9007199254740992 * 9007199254740992)) :
    (S : Int) * 268435456 * (18446744073709551616 - ((n : Int) + 4) * 2048) * (18446744073709551616 - ((n : Int) + 4) * 2048) ≤ x * x * pw 2 := by
  obtain ⟨d, hd⟩ : ∃ d, 9007199254740992 - (n + 4) = d := ⟨_, rfl⟩
  have e : (18446744073709551616 : Int) - ((n : Int) + 4) * 2048 = (d : Int) * 2048 := by omega
  rw [hd] at h
  rw [hx, e, show pw 2 = 340282366920938463463374607431768211456 by decide]
  have k1 : (S : Int) * 268435456 * ((d : Int) * 2048) * ((d : Int) * 2048) = ((S * (d * d) : Nat) : Int) * 1125899906842624 := by
    rw [Int.natCast_mul, Int.natCast_mul]
    grind
  have k2 : (G : Int) * (G : Int) * 268435456 * 340282366920938463463374607431768211456 = ((G * G * (9007199254740992 * 9007199254740992) : Nat) : Int) * 1125899906842624 := by
    rw [Int.natCast_mul, Int.natCast_mul]
    generalize (G : Int) * (G : Int) = T
    omega
  rw [k1, k2]
  generalize S * (d * d) = P at h ⊢
  generalize G * G * (9007199254740992 * 9007199254740992) = Q at h ⊢
  omega
theorem norms_hi (x : Int) (G S n : Nat) (hx : x * x = (G : Int) * (G : Int) * 268435456) (h : G * G * (9007199254740992 * 9007199254740992) ≤ S * ((9007199254740992 + (n + 4)) * (9007199254740992 + (n + 4)))) :
    x * x * pw 2 ≤ (S : Int) * 268435456 * (18446744073709551616 + ((n : Int) + 4) * 2048) * (18446744073709551616 + ((n : Int) + 4) * 2048) := by
  obtain ⟨d, hd⟩ : ∃ d, 9007199254740992 + (n + 4) = d := ⟨_, rfl⟩
  have e : (18446744073709551616 : Int) + ((n : Int) + 4) * 2048 = (d : Int) * 2048 := by omega
  rw [hd] at h
  rw [hx, e, show pw 2 = 340282366920938463463374607431768211456 by decide]
  have k1 : (S : Int) * 268435456 * ((d : Int) * 2048) * ((d : Int) * 2048) = ((S * (d * d) : Nat) : Int) * 1125899906842624 := by
    rw [Int.natCast_mul, Int.natCast_mul]
    grind
  have k2 : (G : Int) * (G : Int) * 268435456 * 340282366920938463463374607431768211456 = ((G * G * (9007199254740992 * 9007199254740992) : Nat) : Int) * 1125899906842624 := by
    rw [Int.natCast_mul, Int.natCast_mul]
    generalize (G : Int) * (G : Int) = T
    omega
  rw [k1, k2]
  generalize S * (d * d) = P at h ⊢
  generalize G * G * (9007199254740992 * 9007199254740992) = Q at h ⊢
  omega
theorem xv_sq (x : Int) (h : mag x < 9218868437227405312) : xv x * xv x = ((V (mag x) : Nat) : Int) * ((V (mag x) : Nat) : Int) * 268435456 := by
  rw [xv_mul x x h h]
  unfold sv
  generalize ((V (mag x) : Nat) : Int) = T
  split <;> grind
end Go.Proofs.Ytokgfeeaoioegaa
