/-
  The text of a pattern tells the pattern: no two patterns that aren't Nans have one text (no program in sight). No conditions.
-/
import Derived.Test.YtaamonmkfgonmaaDoorHexT
namespace Go.Proofs.YtaamonmkfgonmaaDoor
open Go.RowKit
set_option linter.unusedVariables false
set_option linter.unusedSimpArgs false

/-- What a digit's sign stands for. -/
def unB (c : UInt8) : Nat := if c.toNat < 58 then c.toNat - 48 else c.toNat - 87
theorem unB_fin : ∀ d : Fin 16, unB (hxB d.val) = d.val := by decide +kernel
theorem unB_hxB (d : Nat) (h : d < 16) : unB (hxB d) = d := unB_fin ⟨d, h⟩
theorem hxB_fin : ∀ d : Fin 16, hxB d.val ≠ 112 ∧ hxB d.val ≠ 45 ∧ hxB d.val ≠ 105 := by decide +kernel
def hval (l : List UInt8) : Nat := l.foldl (fun a c => a * 16 + unB c) 0
theorem hval_hxD (u : Nat) : hval (hxD u) = u := by
  induction u using Nat.strongRecOn with
  | _ u ih =>
    by_cases h : u < 16
    · rw [hxD_small u h]
      show 0 * 16 + unB (hxB u) = u
      rw [unB_hxB u h]; omega
    · rw [hxD_big u h]
      unfold hval
      rw [List.foldl_append]
      show hval (hxD (u / 16)) * 16 + unB (hxB (u % 16)) = u
      rw [ih (u / 16) (by omega), unB_hxB _ (Nat.mod_lt _ (by decide))]
      omega
theorem hxD_inj {u v : Nat} (h : hxD u = hxD v) : u = v := by rw [← hval_hxD u, h, hval_hxD]
theorem hxD_mem (u : Nat) : ∀ c ∈ hxD u, c ≠ 112 ∧ c ≠ 45 ∧ c ≠ 105 := by
  induction u using Nat.strongRecOn with
  | _ u ih =>
    by_cases h : u < 16
    · rw [hxD_small u h]
      intro c hc
      rw [List.mem_singleton.1 hc]
      exact hxB_fin ⟨u, h⟩
    · rw [hxD_big u h]
      intro c hc
      rcases List.mem_append.1 hc with hc | hc
      · exact ih (u / 16) (by omega) c hc
      · rw [List.mem_singleton.1 hc]
        exact hxB_fin ⟨u % 16, Nat.mod_lt _ (by decide)⟩
/-- A decimal digit. -/
theorem dig10_fin : ∀ d : Fin 10, (UInt8.ofNat (48 + d.val)).toNat - 48 = d.val ∧ UInt8.ofNat (48 + d.val) ≠ 45 := by decide +kernel
def dval (l : List UInt8) : Nat := l.foldl (fun a c => a * 10 + (c.toNat - 48)) 0
theorem dec_small (u : Nat) (h : u < 10) : Lib.decDigits u = [UInt8.ofNat (48 + u)] := by rw [Lib.decDigits, dif_pos h]
theorem dec_big (u : Nat) (h : ¬ u < 10) : Lib.decDigits u = Lib.decDigits (u / 10) ++ [UInt8.ofNat (48 + u % 10)] := by rw [Lib.decDigits, dif_neg h]
theorem dval_dec (u : Nat) : dval (Lib.decDigits u) = u := by
  induction u using Nat.strongRecOn with
  | _ u ih =>
    by_cases h : u < 10
    · rw [dec_small u h]
      show 0 * 10 + ((UInt8.ofNat (48 + u)).toNat - 48) = u
      have := (dig10_fin ⟨u, h⟩).1
      simp only at this
      omega
    · rw [dec_big u h]
      unfold dval
      rw [List.foldl_append]
      show dval (Lib.decDigits (u / 10)) * 10 + ((UInt8.ofNat (48 + u % 10)).toNat - 48) = u
      rw [ih (u / 10) (by omega)]
      have := (dig10_fin ⟨u % 10, Nat.mod_lt _ (by decide)⟩).1
      simp only at this
      omega
theorem dec_mem (u : Nat) : ∀ c ∈ Lib.decDigits u, c ≠ 45 := by
  induction u using Nat.strongRecOn with
  | _ u ih =>
    by_cases h : u < 10
    · rw [dec_small u h]
      intro c hc
      rw [List.mem_singleton.1 hc]
      exact (dig10_fin ⟨u, h⟩).2
    · rw [dec_big u h]
      intro c hc
      rcases List.mem_append.1 hc with hc | hc
      · exact ih (u / 10) (by omega) c hc
      · rw [List.mem_singleton.1 hc]
        exact (dig10_fin ⟨u % 10, Nat.mod_lt _ (by decide)⟩).2
theorem dec_ne (u : Nat) : Lib.decDigits u ≠ [] := by
  by_cases h : u < 10
  · rw [dec_small u h]; simp
  · rw [dec_big u h]; simp
theorem itoa_inj {m n : Int} (h : Lib.itoa m = Lib.itoa n) : m = n := by
  have key : ∀ u v : Nat, 45 :: Lib.decDigits u = Lib.decDigits v → False := fun u v e => by
    have := dec_mem v 45 (by rw [← e]; simp)
    exact this rfl
  unfold Lib.itoa at h
  split at h <;> split at h
  · have := congrArg dval (List.cons.inj h).2
    rw [dval_dec, dval_dec] at this
    omega
  · exact absurd h (fun e => key _ _ e)
  · exact absurd h.symm (fun e => key _ _ e)
  · have := congrArg dval h
    rw [dval_dec, dval_dec] at this
    omega
/-- A list parts at its first p. -/
theorem part_at {c : UInt8} : ∀ {l m x y : List UInt8}, c ∉ l → c ∉ m → l ++ [c] ++ x = m ++ [c] ++ y → l = m ∧ x = y
  | [], [], x, y, _, _, h => by simpa using h
  | [], b :: m, x, y, _, hm, h => by
    simp at h hm
    exact absurd h.1 hm.1
  | a :: l, [], x, y, hl, _, h => by
    simp at h hl
    exact absurd h.1.symm hl.1
  | a :: l, b :: m, x, y, hl, hm, h => by
    simp only [List.cons_append, List.cons.injEq] at h
    simp only [List.mem_cons, not_or] at hl hm
    obtain ⟨rfl, h⟩ := h
    obtain ⟨rfl, rfl⟩ := part_at hl.2 hm.2 h
    exact ⟨rfl, rfl⟩
/-- A pattern without its sign. -/
def magI (b : Int) : Int := b % 9223372036854775808
theorem kind_mag (b : Int) : wKind (magI b) = wKind b := by unfold wKind magI; repeat' split
                                                            all_goals omega
theorem size_mag (b : Int) : sizeT (magI b) = sizeT b := by
  have h1 := kind_mag b
  have h2 : wMant (magI b) = wMant b := by unfold wMant; rw [h1]; unfold magI; (repeat' split) <;> omega
  have h3 : wPow (magI b) = wPow b := by unfold wPow; rw [h1]; unfold magI; (repeat' split) <;> omega
  unfold sizeT zB
  rw [h1, h2, h3]
theorem kind_cases (b : Int) : wKind b = 1 ∨ wKind b = 2 ∨ wKind b = 3 ∨ wKind b = 4 ∨ wKind b = 5 := by
  unfold wKind; repeat' split
  all_goals omega
/-- The whole number and its power tell the pattern. -/
theorem mant_inj (a b : Int) (ka : wKind a = 2 ∨ wKind a = 3) (kb : wKind b = 2 ∨ wKind b = 3) (hM : wMant a = wMant b) (hP : wPow a = wPow b) : magI a = magI b := by
  have e : ∀ x : Int, (wKind x = 2 ∧ wMant x = x % 4503599627370496 ∧ wPow x = -1074 ∧ x / 4503599627370496 % 2048 = 0) ∨ (wKind x = 3 ∧ wMant x = 4503599627370496 + x % 4503599627370496 ∧ wPow x = x / 4503599627370496 % 2048 - 1075 ∧ 0 < x / 4503599627370496 % 2048) ∨ (wKind x ≠ 2 ∧ wKind x ≠ 3) := by
    intro x
    unfold wMant wPow
    have hk : wKind x = 2 → x / 4503599627370496 % 2048 = 0 := by unfold wKind; repeat' split
                                                                  all_goals omega
    have hk3 : wKind x = 3 → 0 < x / 4503599627370496 % 2048 := by unfold wKind; repeat' split
                                                                   all_goals omega
    by_cases h2 : wKind x = 2
    · left
      rw [h2, if_neg (by decide), if_pos rfl, if_neg (by decide), if_pos rfl]
      exact ⟨rfl, rfl, rfl, hk h2⟩
    · by_cases h3 : wKind x = 3
      · right; left
        rw [h3, if_pos rfl, if_pos rfl]
        exact ⟨rfl, rfl, rfl, hk3 h3⟩
      · exact .inr (.inr ⟨h2, h3⟩)
  unfold magI
  rcases e a with ⟨a1, a2, a3, a4⟩ | ⟨a1, a2, a3, a4⟩ | ⟨a1, a2⟩ <;> rcases e b with ⟨b1, b2, b3, b4⟩ | ⟨b1, b2, b3, b4⟩ | ⟨b1, b2⟩ <;> omega
theorem mant_pos (b : Int) (kb : wKind b = 2 ∨ wKind b = 3) : 0 < wMant b ∧ (-1074 < wPow b → 4503599627370496 ≤ wMant b) := by
  unfold wMant wPow
  rcases kb with k | k
  · rw [k, if_neg (by decide), if_pos rfl, if_neg (by decide), if_pos rfl]
    have : b % 4503599627370496 ≠ 0 := by revert k; unfold wKind; repeat' split
                                          all_goals omega
    omega
  · rw [k, if_pos rfl, if_pos rfl]
    omega
/-- An odd number times a power of two. -/
theorem ctz_split (M : Nat) (h0 : 0 < M) (h1 : M < 9007199254740992) : M = 2 ^ Lib.ctz 64 M * (M / 2 ^ Lib.ctz 64 M) := by
  have e : Lib.ctz 64 M = Lib.ctzFrom 64 M := by unfold Lib.ctz; rw [if_neg (by omega)]
  obtain ⟨m, hm, _⟩ := Lib.ctzFrom_spec 64 M h0 (by omega)
  rw [e]
  generalize Lib.ctzFrom 64 M = z at *
  have : M / 2 ^ z = 2 * m + 1 := by rw [hm, Nat.mul_div_cancel_left _ (Nat.two_pow_pos z)]
  rw [this]
  exact hm
theorem odd_unique (A za zb Ma Mb : Nat) (pa pb : Int) (hA : 0 < A) (ha : Ma = 2 ^ za * A) (hb : Mb = 2 ^ zb * A) (hp : pa + (za : Int) = pb + (zb : Int)) (hlt : pa < pb) (hM : Ma < 9007199254740992) (hN : 4503599627370496 ≤ Mb) : False := by
  obtain ⟨d, hd⟩ : ∃ d : Nat, za = zb + (d + 1) := ⟨za - zb - 1, by omega⟩
  have e : Ma = 2 ^ (d + 1) * Mb := by
    rw [ha, hb, hd, Nat.pow_add, Nat.mul_comm (2 ^ zb), Nat.mul_assoc]
  have h2 : 2 ≤ 2 ^ (d + 1) := by rw [Nat.pow_succ]; have := Nat.two_pow_pos d; omega
  have h3 : 2 * Mb ≤ 2 ^ (d + 1) * Mb := Nat.mul_le_mul_right _ h2
  omega
theorem size_inj (a b : Int) (ka : wKind a ≠ 5) (kb : wKind b ≠ 5) (h : sizeT a = sizeT b) : magI a = magI b := by
  have zero : ∀ x : Int, wKind x = 1 → magI x = 0 := by intro x; unfold wKind magI; repeat' split
                                                        all_goals omega
  have inf : ∀ x : Int, wKind x = 4 → magI x = 9218868437227405312 := by intro x; unfold wKind magI; repeat' split
                                                                         all_goals omega
  have n112 : ∀ x : Int, wKind x ≠ 4 → wKind x ≠ 1 → (112 : UInt8) ∈ sizeT x := by
    intro x h4 h1; unfold sizeT; rw [if_neg h4, if_neg h1]; simp
  have t4 : ∀ x : Int, wKind x = 4 → sizeT x = [105, 110, 102] := fun x h => by unfold sizeT; rw [if_pos h]
  have t1 : ∀ x : Int, wKind x = 1 → sizeT x = [48] := fun x h => by unfold sizeT; rw [h, if_neg (by decide), if_pos rfl]
  by_cases a4 : wKind a = 4
  · by_cases b4 : wKind b = 4
    · rw [inf a a4, inf b b4]
    · by_cases b1 : wKind b = 1
      · rw [t4 a a4, t1 b b1] at h; simp at h
      · have := n112 b b4 b1; rw [← h, t4 a a4] at this; exact absurd this (by decide)
  · by_cases a1 : wKind a = 1
    · by_cases b4 : wKind b = 4
      · rw [t1 a a1, t4 b b4] at h; simp at h
      · by_cases b1 : wKind b = 1
        · rw [zero a a1, zero b b1]
        · have := n112 b b4 b1; rw [← h, t1 a a1] at this; exact absurd this (by decide)
    · by_cases b4 : wKind b = 4
      · have := n112 a a4 a1; rw [h, t4 b b4] at this; exact absurd this (by decide)
      · by_cases b1 : wKind b = 1
        · have := n112 a a4 a1; rw [h, t1 b b1] at this; exact absurd this (by decide)
        · unfold sizeT zB at h
          rw [if_neg a4, if_neg a1, if_neg b4, if_neg b1] at h
          obtain ⟨e1, e2⟩ := part_at (fun m => (hxD_mem _ _ m).1 rfl) (fun m => (hxD_mem _ _ m).1 rfl) h
          have e3 := hxD_inj e1
          have e4 := itoa_inj e2
          have ka' : wKind a = 2 ∨ wKind a = 3 := by have := kind_cases a; omega
          have kb' : wKind b = 2 ∨ wKind b = 3 := by have := kind_cases b; omega
          obtain ⟨pa, na⟩ := mant_pos a ka'
          obtain ⟨pb, nb⟩ := mant_pos b kb'
          have ba := mant_bd a
          have bb := mant_bd b
          have sa := ctz_split (wMant a).toNat (by omega) (by omega)
          have sb := ctz_split (wMant b).toNat (by omega) (by omega)
          rw [← e3] at sb
          have hA : 0 < (wMant a).toNat / 2 ^ Lib.ctz 64 (wMant a).toNat := by
            rcases Nat.eq_zero_or_pos ((wMant a).toNat / 2 ^ Lib.ctz 64 (wMant a).toNat) with h0 | h0
            · rw [h0, Nat.mul_zero] at sa; omega
            · exact h0
          rcases Int.lt_trichotomy (wPow a) (wPow b) with hlt | heq | hgt
          · exact absurd (odd_unique _ _ _ _ _ _ _ hA sa sb e4 hlt (by omega) (by have := nb (by omega); omega)) id
          · have ez : Lib.ctz 64 (wMant a).toNat = Lib.ctz 64 (wMant b).toNat := by omega
            rw [ez] at sa
            have em : (wMant a).toNat = (wMant b).toNat := by
              rw [ez] at sb
              rw [sb]; exact sa
            exact mant_inj a b ka' kb' (by omega) heq
          · exact absurd (odd_unique _ _ _ _ _ _ _ hA sb sa e4.symm hgt (by omega) (by have := na (by omega); omega)) id
theorem size_head (b : Int) (l : List UInt8) : sizeT b ≠ 45 :: l := by
  unfold sizeT
  split
  · simp
  · split
    · simp
    · intro h
      cases hx : hxD ((wMant b).toNat / 2 ^ zB b) with
      | nil => have := hxD_pos ((wMant b).toNat / 2 ^ zB b); rw [hx] at this; simp at this
      | cons c r =>
        rw [hx] at h
        simp at h
        have := hxD_mem ((wMant b).toNat / 2 ^ zB b) c (by rw [hx]; simp)
        exact this.2.1 h.1
theorem txt_inj (a b : Int) (h0 : 0 ≤ a) (h1 : a < 18446744073709551616) (g0 : 0 ≤ b) (g1 : b < 18446744073709551616) (ka : wKind a ≠ 5) (kb : wKind b ≠ 5) (h : txt a = txt b) : a = b := by
  unfold txt at h
  rw [if_neg ka, if_neg kb] at h
  split at h <;> split at h
  · have := size_inj a b ka kb (by simpa using h)
    unfold magI at this; omega
  · exact absurd h.symm (by simpa using size_head b (sizeT a))
  · exact absurd h (by simpa using size_head a (sizeT b))
  · have := size_inj a b ka kb h
    unfold magI at this; omega
theorem txt_flip (x : Int) (h0 : 0 ≤ x) (h1 : x < 9223372036854775808) (k : wKind x ≠ 5) : txt (x + 9223372036854775808) = 45 :: txt x := by
  have e : magI (x + 9223372036854775808) = magI x := by unfold magI; omega
  have k' : wKind (x + 9223372036854775808) = wKind x := by rw [← kind_mag, e, kind_mag]
  unfold txt
  rw [k', if_neg k, if_neg k, if_pos (by omega), if_neg (by omega), ← size_mag (x + 9223372036854775808), e, size_mag]
  rfl
end Go.Proofs.YtaamonmkfgonmaaDoor
