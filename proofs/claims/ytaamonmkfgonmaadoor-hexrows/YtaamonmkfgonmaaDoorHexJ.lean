/-
  A matrix's text, read piece by piece: what next, readSize and fits return where such a text stands. Conditions: what is laid of Go's library.
-/
import Derived.Test.YtaamonmkfgonmaaDoorHexO
namespace Go.Proofs.YtaamonmkfgonmaaDoor
open Go.RowKit
set_option linter.unusedVariables false
set_option linter.unusedSimpArgs false

/-- A pattern as it is read again: each that is no number is the quiet one. -/
def qz (b : Int) : Int := if wKind b = 5 then 9221120237041090560 else b
def rowL (g : Nat → Int) : Nat → List Int
  | 0 => []
  | k + 1 => rowL g k ++ [qz (g k)]
def numL (n : Nat) (f : Nat → Nat → Int) : Nat → List Int
  | 0 => []
  | i + 1 => numL n f i ++ rowL (f i) n
theorem rowL_len (g : Nat → Int) (k : Nat) : (rowL g k).length = k := by
  induction k with
  | zero => rfl
  | succ k ih => unfold rowL; rw [List.length_append, ih]; rfl
theorem numL_len (n : Nat) (f : Nat → Nat → Int) (i : Nat) : (numL n f i).length = i * n := by
  induction i with
  | zero => simp [numL]
  | succ i ih => unfold numL; rw [List.length_append, ih, rowL_len, Nat.add_mul, Nat.one_mul]
theorem qz_rng (b : Int) (h0 : 0 ≤ b) (h1 : b < 18446744073709551616) : 0 ≤ qz b ∧ qz b < 18446744073709551616 := by
  unfold qz
  split
  · exact ⟨by decide, by decide⟩
  · exact ⟨h0, h1⟩
theorem txt_qz (b : Int) : txt (qz b) = txt b := by
  unfold qz
  split
  · rename_i h
    rw [txt_quiet]
    unfold txt
    rw [if_pos h]
  · rfl
/-- The rest of a row, with the byte behind each number. -/
def rrest (g : Nat → Int) : Nat → Nat → List UInt8
  | _, 0 => []
  | k, c + 1 => txt (g k) ++ [if c = 0 then 10 else 32] ++ rrest g (k + 1) c
def restT (n : Nat) (f : Nat → Nat → Int) : Nat → Nat → List UInt8
  | _, 0 => []
  | i, c + 1 => rowT (f i) n ++ [10] ++ restT n f (i + 1) c
theorem row_rest' (g : Nat → Int) : ∀ c k : Nat, (if k = 0 then [] else rowT g k ++ [32]) ++ rrest g k (c + 1) = rowT g (k + c + 1) ++ [10]
  | 0, k => by
    rw [show rrest g k (0 + 1) = txt (g k) ++ [10] ++ [] from rfl, show rowT g (k + 0 + 1) = rowT g k ++ (if k = 0 then [] else [32]) ++ txt (g k) from rfl]
    by_cases h : k = 0
    · subst h; simp [rowT]
    · simp [h]
  | c + 1, k => by
    have ih := row_rest' g c (k + 1)
    rw [if_neg (by omega), show k + 1 + c + 1 = k + (c + 1) + 1 by omega] at ih
    rw [← ih, show rrest g k (c + 1 + 1) = txt (g k) ++ [if c + 1 = 0 then 10 else 32] ++ rrest g (k + 1) (c + 1) from rfl, if_neg (show ¬ c + 1 = 0 by omega), show rowT g (k + 1) = rowT g k ++ (if k = 0 then [] else [32]) ++ txt (g k) from rfl]
    by_cases h : k = 0
    · subst h; simp [rowT]
    · simp [h]
theorem row_rest (g : Nat → Int) (n : Nat) (hn : 0 < n) : rowT g n ++ [10] = rrest g 0 n := by
  have := row_rest' g (n - 1) 0
  rw [if_pos rfl, show n - 1 + 1 = n by omega, show 0 + (n - 1) + 1 = n by omega] at this
  rw [← this]
  rfl
theorem body_rest (n : Nat) (f : Nat → Nat → Int) : ∀ c i : Nat, bodyT n f i ++ restT n f i c = bodyT n f (i + c)
  | 0, i => by simp [restT]
  | c + 1, i => by
    have ih := body_rest n f c (i + 1)
    rw [show i + (c + 1) = i + 1 + c by omega, ← ih, show bodyT n f (i + 1) = bodyT n f i ++ rowT (f i) n ++ [10] from rfl, show restT n f i (c + 1) = rowT (f i) n ++ [10] ++ restT n f (i + 1) c from rfl]
    simp only [List.append_assoc]
theorem body_is (n : Nat) (f : Nat → Nat → Int) (m : Nat) : bodyT n f m = restT n f 0 m := by
  have := body_rest n f m 0
  rw [Nat.zero_add] at this
  rw [← this]
  rfl
theorem rrest_len (g : Nat → Int) (h : ∀ k, 0 ≤ g k) : ∀ c k : Nat, (rrest g k c).length ≤ 42 * c
  | 0, k => by simp [rrest]
  | c + 1, k => by
    have ih := rrest_len g h c (k + 1)
    have := txt_len (g k) (h k)
    unfold rrest
    simp only [List.length_append, List.length_cons, List.length_nil]
    omega
theorem restT_len (n : Nat) (f : Nat → Nat → Int) (h : ∀ i k, 0 ≤ f i k) : ∀ c i : Nat, (restT n f i c).length ≤ c * (42 * n + 1)
  | 0, i => by simp [restT]
  | c + 1, i => by
    have ih := restT_len n f h c (i + 1)
    have := rowT_len (f i) (h i) n
    unfold restT
    simp only [List.length_append, List.length_cons, List.length_nil]
    rw [Nat.add_mul]
    omega
theorem it_10 (e : Int) : (10 : UInt8) ∉ Lib.itoa e := by
  intro h
  have hd : ∀ u, (10 : UInt8) ∉ Lib.decDigits u := fun u h => by have := dec_rng u 10 h; exact absurd this.1 (by decide)
  unfold Lib.itoa at h
  split at h
  · rcases List.mem_cons.1 h with h | h
    · exact absurd h (by decide)
    · exact hd _ h
  · exact hd _ h
theorem dec_10 (u : Nat) : (10 : UInt8) ∉ Lib.decDigits u := fun h => by have := dec_rng u 10 h; exact absurd this.1 (by decide)
theorem dec_32 (u : Nat) : (32 : UInt8) ∉ Lib.decDigits u := fun h => by have := dec_rng u 32 h; exact absurd this.1 (by decide)
theorem hxB_10 : ∀ d : Fin 16, hxB d.val ≠ 10 := by decide +kernel
theorem txt_10 (b : Int) : (10 : UInt8) ∉ txt b := by
  rcases txt_form b with e | ⟨S, hS, e | e | ⟨A, x, hA, e⟩⟩ <;> rw [e]
  · decide
  · rcases hS with rfl | rfl <;> decide
  · rcases hS with rfl | rfl <;> decide
  · intro hc
    rcases List.mem_append.1 hc with hc | hc
    · rcases List.mem_append.1 hc with hc | hc
      · rcases List.mem_append.1 hc with hc | hc
        · exact absurd (sg_no S hS _ hc) (by decide)
        · obtain ⟨d, hd, h⟩ := hxD_hex A _ hc
          exact hxB_10 ⟨d, hd⟩ h.symm
      · exact absurd (List.mem_singleton.1 hc) (by decide)
    · exact it_10 x hc
theorem txt_32 (b : Int) : (32 : UInt8) ∉ txt b := (form_no _ (txt_form b)).1
theorem txt_pos (b : Int) : 1 ≤ (txt b).length := by
  rcases txt_form b with e | ⟨S, hS, e | e | ⟨A, x, hA, e⟩⟩ <;> rw [e] <;> simp <;> omega
theorem rowT_min (g : Nat → Int) (k : Nat) : 2 * k ≤ (rowT g k).length + 1 := by
  induction k with
  | zero => simp
  | succ k ih =>
    have := txt_pos (g k)
    unfold rowT
    by_cases h : k = 0
    · subst h; simp [rowT]; omega
    · rw [if_neg h]; simp only [List.length_append, List.length_cons, List.length_nil]; omega
theorem bodyT_min (n : Nat) (f : Nat → Nat → Int) (i : Nat) : i * (2 * n) ≤ (bodyT n f i).length ∧ i ≤ (bodyT n f i).length := by
  induction i with
  | zero => simp
  | succ i ih =>
    have := rowT_min (f i) n
    unfold bodyT
    simp only [List.length_append, List.length_cons, List.length_nil]
    rw [Nat.add_mul]
    omega
theorem ix_at (c : UInt8) (a l : List UInt8) (h : c ∉ a) : Lib.indexByte (a ++ [c] ++ l) c = (a.length : Int) := by
  induction a with
  | nil => simp [Lib.indexByte]
  | cons x a ih =>
    have hx : ¬ x = c := fun e => h (by rw [e]; exact List.mem_cons_self ..)
    have ih := ih (fun hm => h (List.mem_cons_of_mem _ hm))
    simp only [List.cons_append, Lib.indexByte]
    rw [ih]
    have h1 : (x == c) = false := by simpa using hx
    have h2 : ((a.length : Int) == -1) = false := by rw [beq_eq_false_iff_ne]; omega
    rw [h1, h2]
    simp
set_option maxRecDepth 100000 in
set_option maxHeartbeats 4000000 in
theorem hNextAt (c : UInt8) (z : Int) (hz : z = (c.toNat : Int)) (b : Nat) (P Q : List UInt8) (w : World) (h : InS w b (P ++ [c] ++ Q)) (hno : c ∉ P) (hl : (P ++ [c] ++ Q).length ≤ 100000) :
    Calls Tryd.prog 38 #[.int .u8 z, .pointer (some ⟨b, 0, none⟩)] w fun e w' => e = .returned (.tuple #[.string ⟨P.toArray⟩, .bool true]) ∧ w.setCell ⟨b, 0, none⟩ (.string ⟨Q.toArray⟩) = w' := by
  obtain ⟨h1, h2, h3⟩ := h
  obtain ⟨R, eR⟩ : ∃ R, P ++ [c] ++ Q = R := ⟨_, rfl⟩
  obtain ⟨n, hn⟩ : ∃ n, P.length = n := ⟨_, rfl⟩
  have hi : Lib.indexByte R c = (n : Int) := by rw [← eR, ← hn]; exact ix_at c P Q hno
  have hRl : R.length = n + 1 + Q.length := by rw [← eR, ← hn]; simp; omega
  have t1 : R.take n = P := by rw [← eR, ← hn, List.append_assoc, List.take_append_of_le_length (Nat.le_refl _), List.take_length]
  have t2 : R.drop (n + 1) = Q := by
    rw [← eR, ← hn, show P.length + 1 = (P ++ [c]).length by simp, List.drop_append_of_le_length (Nat.le_refl _), List.drop_length, List.nil_append]
  rw [eR] at h1 hl
  clear eR
  obtain ⟨s, eS, zS, lS, dS⟩ := str_ob R
  rw [eS] at h1
  have cu : z.toNat.toUInt8 = c := by rw [hz]; simp
  clear hz
  have IX : Hid (Lib.indexByte s.data.toList z.toNat.toUInt8 = (n : Int)) := by show _ = _; rw [cu, dS]; exact hi
  have z0 : s.size ≤ 100000 := by omega
  have X1 : Hid (s.extract 0 n = ⟨P.toArray⟩) := by show _ = _; rw [← eS, extract_mk]; simp [t1]
  have X2 : Hid (s.extract (n + 1) s.size = ⟨Q.toArray⟩) := by
    show _ = _
    rw [zS, ← eS, extract_mk, List.take_of_length_le (by simp), t2]
  have n0 : (n : Int) + 1 ≤ (s.size : Int) := by omega
  have n1 : (n : Int) ≤ (s.size : Int) := by omega
  clear hi cu zS eS lS dS hl t1 t2 hRl hn hno
  go_enter Tryd.func38, Tryd.ntmps38
  go_wp2_with (first | (go_at_call 14; refine (ibyte_same _ _ _).mono ?_; rintro e w' ⟨rfl, rfl⟩; rw [IX.out]))
  rw [X1.out, X2.out]
  go_ret2
  exact ⟨rfl, rfl⟩
set_option maxHeartbeats 2000000 in
theorem hFitsOk (m n N : Nat) (w : World) (hm : m ≤ 4096) (hn : n ≤ 4096) (hN : N ≤ 100000) (h1 : m * (2 * n) ≤ N) (h2 : m ≤ N) : Calls Tryd.prog 36 #[.int .i64 m, .int .i64 n, .int .i64 N] w fun e w' => e = .returned (.bool true) ∧ w = w' := by
  by_cases h0 : m = 0
  · subst h0
    clear h1
    go_enter Tryd.func36, Tryd.ntmps36
    go_wp2
    go_ret
    exact ⟨rfl, rfl⟩
  · have h0' : ¬ (m : Int) ≤ 0 := by omega
    by_cases h3 : n = 0
    · subst h3
      have h2' : (m : Int) ≤ (N : Int) := by omega
      clear h1
      go_enter Tryd.func36, Tryd.ntmps36
      go_wp2
      go_ret
      exact ⟨by simp [h2], rfl⟩
    · have h1' : ¬ (n : Int) ≤ 0 := by omega
      have n2 : (0 : Int) < 2 * (n : Int) := by omega
      have hq : (m : Int) ≤ (N : Int) / (2 * (n : Int)) := by
        have e : m ≤ N / (2 * n) := by rw [Nat.le_div_iff_mul_le (by omega)]; exact h1
        have := Int.ofNat_le.2 e
        simpa using this
      have h5 : (n : Int) ≤ (N : Int) / 2 := by
        have : 1 * (2 * n) ≤ m * (2 * n) := Nat.mul_le_mul_right _ (by omega)
        omega
      obtain ⟨q, hqq⟩ : ∃ q, (N : Int) / (2 * (n : Int)) = q := ⟨_, rfl⟩
      rw [hqq] at hq
      have q0 : 0 ≤ q := by omega
      have q1 : q ≤ 100000 := by rw [← hqq]; exact Int.le_trans (Int.ediv_le_self _ (by omega)) (by omega)
      clear h1
      go_enter Tryd.func36, Tryd.ntmps36
      go_wp2
      go_ret
      exact ⟨by simp [h5, hq], rfl⟩
set_option maxRecDepth 100000 in
set_option maxHeartbeats 4000000 in
theorem hSizeOk (u : Nat) (w : World) (hu : u ≤ 4096) (hT : Tabs w) :
    Calls Tryd.prog 39 #[.string ⟨(Lib.decDigits u).toArray⟩, .bool true] w fun e w' => e = .returned (.tuple #[.int .i64 u, .bool true]) ∧ Below w.heap.size w w' := by
  obtain ⟨s, eS, zS, lS, dS⟩ := str_ob (Lib.decDigits u)
  have z20 : s.size ≤ 20 := by rw [zS]; exact dec_len64 u (by omega)
  have AT : Hid (Lib.atoiAll s.data.toList = .ok (u : Int)) := by
    have := atoi_itoa (u : Int) (by omega) (by omega)
    rw [Lib.itoa_nonneg] at this
    show _ = _
    rw [dS]
    exact this
  have HT := Lib.hid hT
  have ES := Lib.hid eS
  have N : (s.toList == s.toList) = true := beq_self_eq_true _
  have u0 : ¬ (u : Int) < 0 := by omega
  have u1 : ¬ (4096 : Int) < (u : Int) := by omega
  rw [eS]
  clear hT eS zS lS dS
  go_enter Tryd.func39, Tryd.ntmps39
  go_wp2_with fail
  refine (atoi_below s u _ (by omega) AT.out).mono ?_
  rintro e w1 ⟨rfl, hb1⟩
  have B1 := Lib.hid hb1
  have HT1 := Lib.hid (HT.out.below hb1)
  clear hb1
  go_wp2_with fail
  refine (itoa_nat u _ (by omega) HT1.out).mono ?_
  rintro e w2 ⟨rfl, hb2⟩
  rw [ES.out]
  have B2 := Lib.hid (B1.out.trans (hb2.mono B1.out.size))
  clear hb2
  go_wp2
  go_ret2
  exact ⟨rfl, B2.out⟩
end Go.Proofs.YtaamonmkfgonmaaDoor
