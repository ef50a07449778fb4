/-
  Texts that are of no pattern: with a nought in front or behind the digits, a plus, a blank, in capitals, cut off (no program in sight). No conditions.
-/
import Derived.Test.YtaamonmkfgonmaaDoorHexZ
import Derived.Lib.Case
namespace Go.Proofs.YtaamonmkfgonmaaDoor
open Go.RowKit
set_option linter.unusedVariables false
set_option linter.unusedSimpArgs false

theorem hxD_head (u : Nat) : ∀ (c : UInt8) (l : List UInt8), 0 < u → hxD u = c :: l → c ≠ 48 := by
  induction u using Nat.strongRecOn with
  | _ u ih =>
    intro c l h0 h
    by_cases h1 : u < 16
    · rw [hxD_small u h1] at h
      have e := (List.cons.inj h).1
      intro e2
      rw [e2] at e
      have := unB_hxB u h1
      rw [e] at this
      have z : unB 48 = 0 := by decide
      omega
    · rw [hxD_big u h1] at h
      have hp := hxD_pos (u / 16)
      cases hx : hxD (u / 16) with
      | nil => rw [hx] at hp; simp at hp
      | cons y r =>
        rw [hx] at h
        simp only [List.cons_append, List.cons.injEq] at h
        rw [← h.1]
        exact ih (u / 16) (by omega) y r (by omega) hx
theorem hxD_last (u : Nat) : (hxD u).getLast? = some (hxB (u % 16)) := by
  by_cases h : u < 16
  · rw [hxD_small u h, Nat.mod_eq_of_lt h]; rfl
  · rw [hxD_big u h]; simp
theorem odd_last (A : Nat) (h : A % 2 = 1) : (hxD A).getLast? ≠ some 48 := by
  rw [hxD_last]
  intro e
  have e2 := Option.some.inj e
  have := unB_hxB (A % 16) (Nat.mod_lt _ (by decide))
  rw [e2] at this
  have z : unB 48 = 0 := by decide
  omega
/-- A text's form. -/
def Form (t : List UInt8) : Prop :=
  t = [110, 97, 110] ∨ ∃ S : List UInt8, (S = [] ∨ S = [45]) ∧ (t = S ++ [105, 110, 102] ∨ t = S ++ [48] ∨ ∃ (A : Nat) (e : Int), A % 2 = 1 ∧ t = S ++ hxD A ++ [112] ++ Lib.itoa e)
theorem pform (b : Int) (k : wKind b = 2 ∨ wKind b = 3) : ∃ (A : Nat) (e : Int), A % 2 = 1 ∧ sizeT b = hxD A ++ [112] ++ Lib.itoa e := by
  obtain ⟨m0, _⟩ := mant_pos b k
  have mb := mant_bd b
  have e : Lib.ctz 64 (wMant b).toNat = Lib.ctzFrom 64 (wMant b).toNat := by unfold Lib.ctz; rw [if_neg (by omega)]
  obtain ⟨m, hm, _⟩ := Lib.ctzFrom_spec 64 (wMant b).toNat (by omega) (by omega)
  refine ⟨2 * m + 1, wPow b + (Lib.ctz 64 (wMant b).toNat : Int), by omega, ?_⟩
  rw [size_is b (wMant b).toNat (Lib.ctz 64 (wMant b).toNat) (2 * m + 1) k (by omega) (by omega) (by omega) (by rw [e]; exact hm) (by omega)]
theorem sgS_cases (b : Int) : sgS b = [] ∨ sgS b = [45] := by unfold sgS; split; exact .inr rfl; exact .inl rfl
theorem txt_form (v : Int) : Form (txt v) := by
  by_cases k5 : wKind v = 5
  · left; unfold txt; rw [if_pos k5]
  · right
    refine ⟨sgS v, sgS_cases v, ?_⟩
    rw [txt_sg v k5]
    by_cases k4 : wKind v = 4
    · left; unfold sizeT; rw [if_pos k4]
    · by_cases k1 : wKind v = 1
      · right; left; unfold sizeT; rw [if_neg k4, if_pos k1]
      · right; right
        obtain ⟨A, e, hA, h⟩ := pform v (by have := kind_cases v; omega)
        exact ⟨A, e, hA, by rw [h]; simp only [List.append_assoc]⟩
theorem hxB_sg : ∀ d : Fin 16, hxB d.val ≠ 32 ∧ hxB d.val ≠ 43 ∧ hxB d.val ≠ 80 ∧ hxB d.val ≠ 110 ∧ hxB d.val ≠ 105 ∧ hxB d.val ≠ 112 ∧ hxB d.val ≠ 45 := by decide +kernel
theorem hx_no (A : Nat) (c : UInt8) (h : c ∈ hxD A) : c ≠ 32 ∧ c ≠ 43 ∧ c ≠ 80 ∧ c ≠ 110 ∧ c ≠ 105 ∧ c ≠ 112 ∧ c ≠ 45 := by
  obtain ⟨d, hd, rfl⟩ := hxD_hex A c h
  exact hxB_sg ⟨d, hd⟩
theorem it_no (e : Int) (c : UInt8) (h : c ∈ Lib.itoa e) : c ≠ 32 ∧ c ≠ 43 ∧ c ≠ 80 ∧ c ≠ 112 := by
  have key : ∀ u : Nat, c ∈ Lib.decDigits u → c ≠ 32 ∧ c ≠ 43 ∧ c ≠ 80 ∧ c ≠ 112 := fun u hu => by
    have := dec_rng u c hu
    refine ⟨?_, ?_, ?_, ?_⟩ <;> (rintro rfl; revert this; decide)
  unfold Lib.itoa at h
  split at h
  · rcases List.mem_cons.1 h with rfl | h
    · decide
    · exact key _ h
  · exact key _ h
theorem sg_no (S : List UInt8) (hS : S = [] ∨ S = [45]) (c : UInt8) (h : c ∈ S) : c = 45 := by
  rcases hS with rfl | rfl
  · cases h
  · simpa using h
theorem form_no (t : List UInt8) (h : Form t) : (32 : UInt8) ∉ t ∧ (43 : UInt8) ∉ t ∧ (80 : UInt8) ∉ t := by
  rcases h with rfl | ⟨S, hS, rfl | rfl | ⟨A, e, hA, rfl⟩⟩
  · decide
  · rcases hS with rfl | rfl <;> decide
  · rcases hS with rfl | rfl <;> decide
  · refine ⟨?_, ?_, ?_⟩ <;>
    · intro hm
      rcases List.mem_append.1 hm with hm | hm
      · rcases List.mem_append.1 hm with hm | hm
        · rcases List.mem_append.1 hm with hm | hm
          · exact absurd (sg_no S hS _ hm) (by decide)
          · have := hx_no A _ hm; simp at this
        · exact absurd hm (by decide)
      · have := it_no e _ hm; simp at this
theorem pre_no (S : List UInt8) (hS : S = [] ∨ S = [45]) (A : Nat) : (112 : UInt8) ∉ S ++ hxD A := by
  intro hm
  rcases List.mem_append.1 hm with hm | hm
  · exact absurd (sg_no S hS _ hm) (by decide)
  · have := hx_no A _ hm; simp at this
/-- A form with a p in it. -/
theorem form_p (t : List UInt8) (h : Form t) (hp : (112 : UInt8) ∈ t) : ∃ (S : List UInt8) (A : Nat) (e : Int), (S = [] ∨ S = [45]) ∧ A % 2 = 1 ∧ t = (S ++ hxD A) ++ [112] ++ Lib.itoa e := by
  rcases h with rfl | ⟨S, hS, rfl | rfl | ⟨A, e, hA, rfl⟩⟩
  · exact absurd hp (by decide)
  · rcases hS with rfl | rfl <;> exact absurd hp (by decide)
  · rcases hS with rfl | rfl <;> exact absurd hp (by decide)
  · exact ⟨S, A, e, hS, hA, rfl⟩
theorem last_app (S : List UInt8) (A : Nat) : (S ++ hxD A).getLast? = (hxD A).getLast? := by
  rw [List.getLast?_append]
  have := hxD_last A
  rw [this]
  rfl
theorem no_zero_front (v : Int) (S : List UInt8) (A : Nat) (I : List UInt8) (hS : S = [] ∨ S = [45]) : txt v ≠ 48 :: ((S ++ hxD A) ++ [112] ++ I) := by
  intro h
  obtain ⟨S', A', e', hS', hA', e⟩ := form_p _ (txt_form v) (by rw [h]; simp)
  rw [h] at e
  have e2 : (48 :: (S ++ hxD A)) ++ [112] ++ I = (S' ++ hxD A') ++ [112] ++ Lib.itoa e' := by rw [← e]; simp
  obtain ⟨e3, _⟩ := part_at (by simp only [List.mem_cons, not_or]; exact ⟨by decide, pre_no S hS A⟩) (pre_no S' hS' A') e2
  rcases hS' with rfl | rfl
  · exact hxD_head A' 48 _ (by omega) (by simpa using e3.symm) rfl
  · simp at e3
theorem no_zero_behind (v : Int) (S : List UInt8) (A : Nat) (I : List UInt8) (hS : S = [] ∨ S = [45]) : txt v ≠ (S ++ hxD A) ++ [48] ++ ([112] ++ I) := by
  intro h
  obtain ⟨S', A', e', hS', hA', e⟩ := form_p _ (txt_form v) (by rw [h]; simp)
  rw [h] at e
  have e2 : ((S ++ hxD A) ++ [48]) ++ [112] ++ I = (S' ++ hxD A') ++ [112] ++ Lib.itoa e' := by rw [← e]; simp only [List.append_assoc]
  obtain ⟨e3, _⟩ := part_at (by intro hm; rcases List.mem_append.1 hm with hm | hm; exact pre_no S hS A hm; exact absurd hm (by decide)) (pre_no S' hS' A') e2
  have e4 := congrArg List.getLast? e3
  rw [last_app] at e4
  exact odd_last A' hA' (by rw [← e4]; simp)
theorem no_mark (v : Int) (t : List UInt8) (h : (32 : UInt8) ∈ t ∨ (43 : UInt8) ∈ t ∨ (80 : UInt8) ∈ t) : txt v ≠ t := by
  intro e
  have := form_no _ (txt_form v)
  rw [e] at this
  rcases h with h | h | h
  · exact this.1 h
  · exact this.2.1 h
  · exact this.2.2 h
theorem no_cut (v : Int) (S : List UInt8) (A : Nat) (hS : S = [] ∨ S = [45]) (hA : A % 2 = 1) : txt v ≠ S ++ hxD A := by
  intro h
  have hf := txt_form v
  rw [h] at hf
  have mem : ∀ c, c ∈ S ++ hxD A → c ≠ 110 ∧ c ≠ 105 := by
    intro c hc
    rcases List.mem_append.1 hc with hc | hc
    · rw [sg_no S hS c hc]; decide
    · have := hx_no A c hc; exact ⟨this.2.2.2.1, this.2.2.2.2.1⟩
  rcases hf with e | ⟨S', hS', e | e | ⟨A', e', hA', e⟩⟩
  · exact (mem 110 (by rw [e]; simp)).1 rfl
  · exact (mem 105 (by rw [e]; simp)).2 rfl
  · have := congrArg List.getLast? e
    rw [last_app] at this
    exact odd_last A hA (by rw [this]; simp)
  · exact pre_no S hS A (by rw [e]; simp)
theorem no_p0 (v b : Int) (k : ¬ (wKind b = 2 ∨ wKind b = 3)) : txt v ≠ txt b ++ [112, 48] := by
  intro h
  obtain ⟨S', A', e', hS', hA', e⟩ := form_p _ (txt_form v) (by rw [h]; simp)
  rw [h] at e
  have nop : (112 : UInt8) ∉ txt b := by
    intro hp
    obtain ⟨S, A, e2, hS, hA, e3⟩ := form_p _ (txt_form b) hp
    have hk := kind_cases b
    by_cases k5 : wKind b = 5
    · unfold txt at hp; rw [if_pos k5] at hp; exact absurd hp (by decide)
    · rw [txt_sg b k5] at hp
      rcases List.mem_append.1 hp with hp | hp
      · exact absurd (sg_no _ (sgS_cases b) _ hp) (by decide)
      · unfold sizeT at hp
        split at hp
        · exact absurd hp (by decide)
        · split at hp
          · exact absurd hp (by decide)
          · omega
  have e2 : txt b ++ [112] ++ [48] = (S' ++ hxD A') ++ [112] ++ Lib.itoa e' := by rw [← e]; simp
  obtain ⟨e3, _⟩ := part_at nop (pre_no S' hS' A') e2
  exact no_cut b S' A' hS' hA' e3
theorem up_p : ∀ l : List UInt8, (112 : UInt8) ∈ l → (80 : UInt8) ∈ Lib.toUpperA l := by
  intro l h
  unfold Lib.toUpperA
  exact List.mem_map.2 ⟨112, h, by decide⟩
end Go.Proofs.YtaamonmkfgonmaaDoor
