/-
  Texts put together: MatC MatD MatE MatF MatG.
-/
import Derived.Test.YtpakpgjbgehhjaaGreatProg
import Derived.Test.YtpakpgjbgehhjaaGreatGrI
/-
  What mat's Check, New, At, Set, row return, in memory. Conditions: a matrix that is right; New of at most a million numbers.
-/
namespace Go.Proofs.YtpakpgjbgehhjaaGreat
open Go.RowKit
set_option linter.unusedVariables false

theorem mSize (n : Int) (w : World) : Calls Tryz.prog 56 #[.int .i64 n] w fun e w' => e = .returned (.bool (decide (0 ≤ n ∧ n ≤ 4096))) ∧ w' = w := by
  by_cases h : 0 ≤ n
  · by_cases h2 : n ≤ 4096
    · rw [decide_eq_true (⟨h, h2⟩ : 0 ≤ n ∧ n ≤ 4096)]
      go_enter Tryz.func56, Tryz.ntmps56
      go_wp2
      go_ret
      exact ⟨ret_eq rfl, rfl⟩
    · rw [decide_eq_false (fun g => h2 g.2 : ¬ (0 ≤ n ∧ n ≤ 4096))]
      go_enter Tryz.func56, Tryz.ntmps56
      go_wp2
      go_ret
      exact ⟨ret_eq rfl, rfl⟩
  · rw [decide_eq_false (fun g => h g.1 : ¬ (0 ≤ n ∧ n ≤ 4096))]
    go_enter Tryz.func56, Tryz.ntmps56
    go_wp2
    go_ret
    exact ⟨ret_eq rfl, rfl⟩
/-- It is right. -/
def Rgt (R C S : Int) (len : Nat) : Prop := 0 ≤ R ∧ R ≤ 4096 ∧ 0 ≤ C ∧ C ≤ 4096 ∧ C ≤ S ∧ S ≤ 1099511627776 ∧ (R = 0 ∨ C = 0 ∨ (R - 1) * S + C ≤ (len : Int))
theorem mul_rng (a b : Int) (a0 : 0 ≤ a) (a1 : a ≤ 4096) (b0 : 0 ≤ b) (b1 : b ≤ 1099511627776) : 0 ≤ a * b ∧ a * b ≤ 4503599627370496 :=
  ⟨Int.mul_nonneg a0 b0, Int.le_trans (Int.mul_le_mul a1 b1 b0 (by decide)) (by decide)⟩
set_option maxHeartbeats 2000000 in
set_option maxRecDepth 100000 in
theorem mCheck (R C S : Int) (a : Option Addr) (len cap : Nat) (w : World) (hl : (len : Int) ≤ 9223372036854775807) (hS : S ≤ 9223372036854775807) :
    Calls Tryz.prog 34 #[.agg #[.int .i64 R, .int .i64 C, .int .i64 S, .slice a len cap]] w fun e w' => (e = .returned (.int .i64 0) ∧ Rgt R C S len ∨ e = .returned (.int .i64 4) ∧ ¬ Rgt R C S len) ∧ Below w.heap.size w w' := by
  have B0 : Hid (∀ o, Below w.heap.size w (w.alloc o)) := fun o => (Below.refl _ _).alloc (Nat.le_refl _) _
  by_cases hR : 0 ≤ R ∧ R ≤ 4096
  · by_cases hC : 0 ≤ C ∧ C ≤ 4096
    · have D1 : Hid (decide (0 ≤ R ∧ R ≤ 4096) = true) := decide_eq_true hR
      have D2 : Hid (decide (0 ≤ C ∧ C ≤ 4096) = true) := decide_eq_true hC
      obtain ⟨r0, r1⟩ := hR
      obtain ⟨c0, c1⟩ := hC
      by_cases h1 : S < C
      · have N : Hid (¬ Rgt R C S len) := fun g => by obtain ⟨_, _, _, _, g, _⟩ := g; omega
        go_enter Tryz.func34, Tryz.ntmps34
        go_wp2_with (go_at_call 56; refine (mSize _ _).mono ?_; rintro e w' ⟨rfl, rfl⟩; first | rw [D1.out] | rw [D2.out])
        go_ret
        exact ⟨.inr ⟨ret_eq rfl, N.out⟩, B0.out _⟩
      · by_cases h2 : 1099511627776 < S
        · have N : Hid (¬ Rgt R C S len) := fun g => by obtain ⟨_, _, _, _, _, g, _⟩ := g; omega
          go_enter Tryz.func34, Tryz.ntmps34
          go_wp2_with (go_at_call 56; refine (mSize _ _).mono ?_; rintro e w' ⟨rfl, rfl⟩; first | rw [D1.out] | rw [D2.out])
          go_ret
          exact ⟨.inr ⟨ret_eq rfl, N.out⟩, B0.out _⟩
        · by_cases h3 : R = 0
          · have N : Hid (Rgt R C S len) := ⟨r0, r1, c0, c1, by omega, by omega, .inl h3⟩
            subst h3
            go_enter Tryz.func34, Tryz.ntmps34
            go_wp2_with (go_at_call 56; refine (mSize _ _).mono ?_; rintro e w' ⟨rfl, rfl⟩; first | rw [D1.out] | rw [D2.out])
            go_ret
            exact ⟨.inl ⟨ret_eq rfl, N.out⟩, B0.out _⟩
          · by_cases h4 : C = 0
            · have N : Hid (Rgt R C S len) := ⟨r0, r1, c0, c1, by omega, by omega, .inr (.inl h4)⟩
              subst h4
              go_enter Tryz.func34, Tryz.ntmps34
              go_wp2_with (go_at_call 56; refine (mSize _ _).mono ?_; rintro e w' ⟨rfl, rfl⟩; first | rw [D1.out] | rw [D2.out])
              go_ret
              exact ⟨.inl ⟨ret_eq rfl, N.out⟩, B0.out _⟩
            · have hr0 : (R == 0) = false := by rw [beq_eq_false_iff_ne]; exact h3
              have hc0 : (C == 0) = false := by rw [beq_eq_false_iff_ne]; exact h4
              obtain ⟨m0, m1⟩ := mul_rng (R - 1) S (by omega) (by omega) (by omega) (by omega)
              have N : Hid (Rgt R C S len ↔ (R - 1) * S + C ≤ (len : Int)) := by
                constructor
                · rintro ⟨_, _, _, _, _, _, g | g | g⟩
                  · exact absurd g h3
                  · exact absurd g h4
                  · exact g
                · exact fun g => ⟨r0, r1, c0, c1, by omega, by omega, .inr (.inr g)⟩
              obtain ⟨P, hP⟩ : ∃ P, (R - 1) * S = P := ⟨_, rfl⟩
              have hw : IntKind.i64.wrap ((R - 1) * S) = P := by rw [IntKind.wrap_i64, hP]; omega
              rw [hP] at m0 m1 N
              clear hP
              by_cases h5 : (len : Int) < P + C
              · have N2 : Hid (¬ Rgt R C S len) := fun g => by have := N.out.1 g; omega
                clear N
                go_enter Tryz.func34, Tryz.ntmps34
                go_wp2_with (go_at_call 56; refine (mSize _ _).mono ?_; rintro e w' ⟨rfl, rfl⟩; first | rw [D1.out] | rw [D2.out])
                go_ret
                exact ⟨.inr ⟨ret_eq rfl, N2.out⟩, B0.out _⟩
              · have N2 : Hid (Rgt R C S len) := N.out.2 (by omega)
                clear N
                go_enter Tryz.func34, Tryz.ntmps34
                go_wp2_with (go_at_call 56; refine (mSize _ _).mono ?_; rintro e w' ⟨rfl, rfl⟩; first | rw [D1.out] | rw [D2.out])
                go_ret
                exact ⟨.inl ⟨ret_eq rfl, N2.out⟩, B0.out _⟩
    · have D1 : Hid (decide (0 ≤ R ∧ R ≤ 4096) = true) := decide_eq_true hR
      have D2 : Hid (decide (0 ≤ C ∧ C ≤ 4096) = false) := decide_eq_false hC
      have N : Hid (¬ Rgt R C S len) := fun g => by obtain ⟨_, _, g1, g2, _⟩ := g; exact hC ⟨g1, g2⟩
      clear hC
      go_enter Tryz.func34, Tryz.ntmps34
      go_wp2_with (go_at_call 56; refine (mSize _ _).mono ?_; rintro e w' ⟨rfl, rfl⟩; first | rw [D1.out] | rw [D2.out])
      go_ret
      exact ⟨.inr ⟨ret_eq rfl, N.out⟩, B0.out _⟩
  · have D1 : Hid (decide (0 ≤ R ∧ R ≤ 4096) = false) := decide_eq_false hR
    have N : Hid (¬ Rgt R C S len) := fun g => by obtain ⟨g1, g2, _⟩ := g; exact hR ⟨g1, g2⟩
    clear hR
    go_enter Tryz.func34, Tryz.ntmps34
    go_wp2_with (first | (go_at_call_of 56 R; refine (mSize _ _).mono ?_; rintro e w' ⟨rfl, rfl⟩; rw [D1.out]))
    go_ret
    exact ⟨.inr ⟨ret_eq rfl, N.out⟩, B0.out _⟩
/-- What stands in a matrix: a place that is there lies in its Data. -/
theorem Rgt.at {R C S : Int} {len : Nat} (h : Rgt R C S len) (i k : Int) (i0 : 0 ≤ i) (i1 : i < R) (k0 : 0 ≤ k) (k1 : k < C) : 0 ≤ i * S ∧ i * S ≤ 4503599627370496 ∧ i * S + k < (len : Int) := by
  obtain ⟨r0, r1, c0, c1, s0, s1, g⟩ := h
  obtain ⟨m0, m1⟩ := mul_rng i S i0 (by omega) (by omega) s1
  refine ⟨m0, m1, ?_⟩
  have h2 : i * S ≤ (R - 1) * S := Int.mul_le_mul_of_nonneg_right (by omega) (by omega)
  rcases g with g | g | g <;> omega
set_option maxHeartbeats 1000000 in
theorem mNew (R C : Nat) (w : World) (hR : R ≤ 4096) (hC : C ≤ 4096) (hn : R * C ≤ 1000000) :
    Calls Tryz.prog 26 #[.int .i64 (R : Int), .int .i64 (C : Int)] w fun e w' => e = .returned (.agg #[.int .i64 (R : Int), .int .i64 (C : Int), .int .i64 (C : Int), .slice (some ⟨w.heap.size + 1, 0, none⟩) (R * C) (R * C)]) ∧ (∀ Z, Row1 w' (w.heap.size + 1) (R * C) 0 Z) ∧ RowU w' (w.heap.size + 1) (List.replicate (R * C) 0) ∧ Below w.heap.size w w' := by
  have D1 : Hid (decide (0 ≤ (R : Int) ∧ (R : Int) ≤ 4096) = true) := decide_eq_true ⟨by omega, by omega⟩
  have D2 : Hid (decide (0 ≤ (C : Int) ∧ (C : Int) ≤ 4096) = true) := decide_eq_true ⟨by omega, by omega⟩
  have mk := mk_run (R * C) hn
  have hw : IntKind.i64.wrap ((R : Int) * (C : Int)) = ((R * C : Nat) : Int) := by rw [IntKind.wrap_i64, ← Int.natCast_mul]; omega
  obtain ⟨n, hN⟩ : ∃ n, n = R * C := ⟨_, rfl⟩
  obtain ⟨O, hO⟩ : ∃ O, O = ((List.replicate n (0 : Int)).map (Value.int .u64)).toArray := ⟨_, rfl⟩
  rw [← hN] at mk hw hn ⊢
  rw [← hO] at mk
  have HO : Hid (_ = _) := hO
  clear hN hO
  go_enter Tryz.func26, Tryz.ntmps26
  go_wp2_with (go_at_call 56; refine (mSize _ _).mono ?_; rintro e w' ⟨rfl, rfl⟩; first | rw [D1.out] | rw [D2.out])
  refine bodyPost_ret (v := .agg #[.int .i64 (R : Int), .int .i64 (C : Int), .int .i64 (C : Int), .slice (some ⟨w.heap.size + 1, 0, none⟩) n n]) (by simp [results, Tryz.results26, go_sem]) rfl ⟨rfl, ?_, ?_, ((Below.refl _ _).alloc (Nat.le_refl _) _).alloc (by simp) _⟩
  · intro Z
    rw [HO.out]
    have := Row1.new (w.alloc (.cells #[.int .i64 (R : Int), .int .i64 (C : Int), .int .i64 (C : Int), .slice (some ⟨w.heap.size + 1, 0, none⟩) n n] 25)) n Z
    simp only [World.size_alloc] at this
    exact this
  · rw [HO.out]
    have := heap_alloc_new (w.alloc (.cells #[.int .i64 (R : Int), .int .i64 (C : Int), .int .i64 (C : Int), .slice (some ⟨w.heap.size + 1, 0, none⟩) n n] 25)) (.cells ((List.replicate n (0 : Int)).map (Value.int .u64)).toArray 36)
    simp only [World.size_alloc] at this
    exact this
set_option maxHeartbeats 2000000 in
theorem mHas (R C S : Int) (a : Option Addr) (len cap : Nat) (i k : Int) (w : World) (h : Rgt R C S len) (hl : (len : Int) ≤ 9223372036854775807) :
    Calls Tryz.prog 41 #[.agg #[.int .i64 R, .int .i64 C, .int .i64 S, .slice a len cap], .int .i64 i, .int .i64 k] w fun e w' => e = .returned (.bool (decide (0 ≤ i ∧ i < R ∧ 0 ≤ k ∧ k < C))) ∧ Below w.heap.size w w' := by
  have B0 : Hid (∀ o, Below w.heap.size w (w.alloc o)) := fun o => (Below.refl _ _).alloc (Nat.le_refl _) _
  by_cases h1 : 0 ≤ i
  · by_cases h2 : i < R
    · by_cases h3 : 0 ≤ k
      · by_cases h4 : k < C
        · rw [decide_eq_true (⟨h1, h2, h3, h4⟩ : 0 ≤ i ∧ i < R ∧ 0 ≤ k ∧ k < C)]
          obtain ⟨m0, m1, m2⟩ := h.at i k h1 h2 h3 h4
          obtain ⟨P, hP⟩ : ∃ P, i * S = P := ⟨_, rfl⟩
          have hw : IntKind.i64.wrap (i * S) = P := by rw [IntKind.wrap_i64, hP]; omega
          have hc : C ≤ 4096 := h.2.2.2.1
          rw [hP] at m0 m1 m2
          clear hP h
          go_enter Tryz.func41, Tryz.ntmps41
          go_wp2
          go_ret
          exact ⟨ret_eq rfl, B0.out _⟩
        · rw [decide_eq_false (fun g => h4 g.2.2.2 : ¬ (0 ≤ i ∧ i < R ∧ 0 ≤ k ∧ k < C))]
          clear h
          go_enter Tryz.func41, Tryz.ntmps41
          go_wp2
          go_ret
          exact ⟨ret_eq rfl, B0.out _⟩
      · rw [decide_eq_false (fun g => h3 g.2.2.1 : ¬ (0 ≤ i ∧ i < R ∧ 0 ≤ k ∧ k < C))]
        clear h
        go_enter Tryz.func41, Tryz.ntmps41
        go_wp2
        go_ret
        exact ⟨ret_eq rfl, B0.out _⟩
    · rw [decide_eq_false (fun g => h2 g.2.1 : ¬ (0 ≤ i ∧ i < R ∧ 0 ≤ k ∧ k < C))]
      clear h
      go_enter Tryz.func41, Tryz.ntmps41
      go_wp2
      go_ret
      exact ⟨ret_eq rfl, B0.out _⟩
  · rw [decide_eq_false (fun g => h1 g.1 : ¬ (0 ≤ i ∧ i < R ∧ 0 ≤ k ∧ k < C))]
    clear h
    go_enter Tryz.func41, Tryz.ntmps41
    go_wp2
    go_ret
    exact ⟨ret_eq rfl, B0.out _⟩
end Go.Proofs.YtpakpgjbgehhjaaGreat

/-
  What mat's At, Set and row return, in memory. Conditions: a matrix that is right.
-/
namespace Go.Proofs.YtpakpgjbgehhjaaGreat
open Go.RowKit
set_option linter.unusedVariables false

theorem URow.lenB {w : World} {a : Option Addr} {len cap : Nat} {Z : Nat → Int} (h : URow w a len cap Z) : (len : Int) ≤ 9223372036854775807 ∧ (cap : Int) ≤ 9223372036854775807 := by
  have := h.1; have := h.2.1; unfold maxLen at this; omega
set_option maxHeartbeats 1000000 in
theorem mAt (R C S : Int) (a : Option Addr) (len cap : Nat) (Z : Nat → Int) (i k : Int) (w : World) (h : Rgt R C S len) (hx : URow w a len cap Z) (hi : 0 ≤ i ∧ i < R ∧ 0 ≤ k ∧ k < C) :
    Calls Tryz.prog 13 #[.agg #[.int .i64 R, .int .i64 C, .int .i64 S, .slice a len cap], .int .i64 i, .int .i64 k] w fun e w' => e = .returned (.int .u64 (Z (i * S + k).toNat)) ∧ Below w.heap.size w w' := by
  have D : Hid (decide (0 ≤ i ∧ i < R ∧ 0 ≤ k ∧ k < C) = true) := decide_eq_true hi
  obtain ⟨i0, i1, k0, k1⟩ := hi
  obtain ⟨m0, m1, m2⟩ := h.at i k i0 i1 k0 k1
  obtain ⟨lb, cb⟩ := hx.lenB
  have hc : C ≤ 4096 := h.2.2.2.1
  obtain ⟨P, hP⟩ : ∃ P : Nat, i * S = (P : Int) := ⟨(i * S).toNat, by omega⟩
  obtain ⟨kn, hk⟩ : ∃ n : Nat, k = (n : Int) := ⟨k.toNat, by omega⟩
  subst hk
  have hw : IntKind.i64.wrap (i * S) = (P : Int) := by rw [IntKind.wrap_i64, hP]; omega
  rw [hP] at m0 m1 m2 ⊢
  rw [show ((P : Int) + (kn : Int)).toNat = P + kn by omega]
  obtain ⟨b, o, rfl, hb, hcell⟩ := hx.2.2.2 (by omega)
  have q := hcell (P + kn) (by omega)
  obtain ⟨Q, hQ⟩ : ∃ Q, P + kn = Q := ⟨_, rfl⟩
  rw [hQ] at q ⊢
  have hw2 : IntKind.i64.wrap ((P : Int) + (kn : Int)) = (Q : Int) := by rw [IntKind.wrap_i64]; omega
  have hQ2 : (Q : Int) < (len : Int) := by omega
  have HH : Hid (Rgt R C S len) := h
  clear hcell hx h hP hQ
  go_enter Tryz.func13, Tryz.ntmps13
  go_wp2_with fail
  refine (mHas R C S _ len cap i kn _ HH.out lb).mono ?_
  rintro e w1 ⟨rfl, hb1⟩
  rw [D.out]
  have B1 : Hid (Below w.heap.size w w1) := bstep ((Below.refl _ _).alloc (Nat.le_refl _) _) hb1
  have c3 := hb1.cell (p := ⟨w.heap.size, 3, none⟩) (by simp)
  have c2 := hb1.cell (p := ⟨w.heap.size, 2, none⟩) (by simp)
  simp [go_sem] at c3 c2
  have q1 := (B1.out.cell (p := ⟨b, o + Q, none⟩) hb).trans q
  clear hb1
  go_wp2
  go_ret
  exact ⟨ret_eq rfl, B1.out⟩
set_option maxHeartbeats 1000000 in
/-- Set, where Data is block g, from its beginning on. -/
theorem mSet (R C S : Int) (g len cap : Nat) (xs : List Int) (i k x : Int) (w : World) (h : Rgt R C S len) (hx : RowU w g xs) (hl : xs.length = len) (lc : len ≤ cap) (hm : cap ≤ 100000000) (hi : 0 ≤ i ∧ i < R ∧ 0 ≤ k ∧ k < C) :
    Calls Tryz.prog 27 #[.agg #[.int .i64 R, .int .i64 C, .int .i64 S, .slice (some ⟨g, 0, none⟩) len cap], .int .i64 i, .int .i64 k, .int .u64 x] w fun e w' => e = .returned (.tuple #[]) ∧ RowU w' g (xs.set (i * S + k).toNat x) ∧ Bes (some g) w w' := by
  have D : Hid (decide (0 ≤ i ∧ i < R ∧ 0 ≤ k ∧ k < C) = true) := decide_eq_true hi
  obtain ⟨i0, i1, k0, k1⟩ := hi
  obtain ⟨m0, m1, m2⟩ := h.at i k i0 i1 k0 k1
  have hc : C ≤ 4096 := h.2.2.2.1
  obtain ⟨P, hP⟩ : ∃ P : Nat, i * S = (P : Int) := ⟨(i * S).toNat, by omega⟩
  obtain ⟨kn, hk⟩ : ∃ n : Nat, k = (n : Int) := ⟨k.toNat, by omega⟩
  subst hk
  have hw : IntKind.i64.wrap (i * S) = (P : Int) := by rw [IntKind.wrap_i64, hP]; omega
  rw [hP] at m0 m1 m2 ⊢
  rw [show ((P : Int) + (kn : Int)).toNat = P + kn by omega]
  have q := hx.cell (P + kn) (by omega)
  have qf := hx.frozen (P + kn)
  obtain ⟨Q, hQ⟩ : ∃ Q, P + kn = Q := ⟨_, rfl⟩
  rw [hQ] at q qf ⊢
  have hw2 : IntKind.i64.wrap ((P : Int) + (kn : Int)) = (Q : Int) := by rw [IntKind.wrap_i64]; omega
  have hQ2 : (Q : Int) < (len : Int) := by omega
  have HH : Hid (Rgt R C S len) := h
  have HX : Hid (RowU w g xs) := hx
  have hb := hx.lt
  clear hx h hP hQ
  go_enter Tryz.func27, Tryz.ntmps27
  go_wp2_with fail
  refine (mHas R C S _ len cap i kn _ HH.out (by omega)).mono ?_
  rintro e w1 ⟨rfl, hb1⟩
  rw [D.out]
  have B1 : Hid (Below w.heap.size w w1) := bstep ((Below.refl _ _).alloc (Nat.le_refl _) _) hb1
  have c3 := hb1.cell (p := ⟨w.heap.size, 3, none⟩) (by simp)
  have c2 := hb1.cell (p := ⟨w.heap.size, 2, none⟩) (by simp)
  simp [go_sem] at c3 c2
  have q1 := (B1.out.cell (p := ⟨g, Q, none⟩) hb).trans q
  have q2 := (B1.out.frozen (p := ⟨g, Q, none⟩) hb).trans qf
  clear hb1 q qf
  go_wp2
  refine bodyPost_end (results_none rfl _ _ _) rfl ?_
  exact ⟨rfl, (HX.out.below B1.out).set _ _, (Bes.of B1.out).set (p := ⟨g, Q, none⟩) (.inr rfl) _⟩
set_option maxHeartbeats 1000000 in
theorem mRow (R C S : Int) (a : Option Addr) (len cap : Nat) (Z : Nat → Int) (i : Int) (w : World) (h : Rgt R C S len) (hx : URow w a len cap Z) (i0 : 0 ≤ i) (i1 : i < R) :
    Calls Tryz.prog 35 #[.agg #[.int .i64 R, .int .i64 C, .int .i64 S, .slice a len cap], .int .i64 i] w fun e w' => (∃ a' c', e = .returned (.slice a' C.toNat c') ∧ URow w' a' C.toNat c' (fun k => Z ((i * S).toNat + k)) ∧ (0 < C → ∃ b o, a = some ⟨b, o, none⟩ ∧ a' = some ⟨b, o + (i * S).toNat, none⟩)) ∧ Below w.heap.size w w' := by
  have HX : Hid (URow w a len cap Z) := hx
  have hZ : ∀ n, 0 ≤ Z n ∧ Z n < 18446744073709551616 := hx.2.2.1
  by_cases hC : C = 0
  · subst hC
    have B0 : Hid (∀ o, Below w.heap.size w (w.alloc o)) := fun o => (Below.refl _ _).alloc (Nat.le_refl _) _
    have HZ : Hid (∀ n, 0 ≤ Z n ∧ Z n < 18446744073709551616) := hZ
    clear hx h hZ
    go_enter Tryz.func35, Tryz.ntmps35
    go_wp2
    go_ret
    exact ⟨⟨none, 0, ret_eq rfl, ⟨Nat.le_refl _, Nat.zero_le _, fun k => HZ.out _, fun hp => absurd hp (Nat.lt_irrefl 0)⟩, fun hp => absurd hp (by decide)⟩, B0.out _⟩
  · have c0 : 0 < C := by have := h.2.2.1; omega
    have hc0 : (C == 0) = false := by rw [beq_eq_false_iff_ne]; exact hC
    obtain ⟨m0, m1, m2⟩ := h.at i (C - 1) i0 i1 (by omega) (by omega)
    obtain ⟨lb, cb⟩ := hx.lenB
    have hlc := hx.1
    have hc : C ≤ 4096 := h.2.2.2.1
    obtain ⟨P, hP⟩ : ∃ P : Nat, i * S = (P : Int) := ⟨(i * S).toNat, by omega⟩
    obtain ⟨cn, hcn⟩ : ∃ n : Nat, C = (n : Int) := ⟨C.toNat, by omega⟩
    subst hcn
    have hw : IntKind.i64.wrap (i * S) = (P : Int) := by rw [IntKind.wrap_i64, hP]; omega
    rw [hP] at m0 m1 m2 ⊢
    rw [Int.toNat_natCast, Int.toNat_natCast]
    obtain ⟨b, o, rfl, hb, hcell⟩ := hx.2.2.2 (by omega)
    obtain ⟨Q, hQ⟩ : ∃ Q, P + cn = Q := ⟨_, rfl⟩
    have hw2 : IntKind.i64.wrap ((P : Int) + (cn : Int)) = (Q : Int) := by rw [IntKind.wrap_i64]; omega
    have HC : Hid (∀ j, j < len → w.cell? ⟨b, o + j, none⟩ = some (.int .u64 (Z j))) := hcell
    have HZ : Hid (∀ n, 0 ≤ Z n ∧ Z n < 18446744073709551616) := hZ
    have q1 : (P : Int) ≤ (Q : Int) := by omega
    have q2 : (Q : Int) ≤ (len : Int) := by omega
    have q3 : (Q : Int) ≤ (cap : Int) := by omega
    have hcm := hx.2.1
    have HQ : Hid (P + cn = Q) := hQ
    clear hcell hx h hP hQ hZ
    go_enter Tryz.func35, Tryz.ntmps35
    go_wp2
    go_ret
    have e : Q - P = cn := by have := HQ.out; omega
    refine ⟨⟨some ⟨b, o + P, none⟩, cap - P, ret_eq (by simp [e]), ⟨by omega, by omega, fun k => HZ.out _, fun _ => ⟨b, o + P, rfl, by simp; omega, fun k hk => ?_⟩⟩, fun _ => ⟨b, o, rfl, rfl⟩⟩, (Below.refl _ _).alloc (Nat.le_refl _) _⟩
    have hq := HQ.out
    have := HC.out (P + k) (by omega)
    rw [Nat.add_assoc]
    exact (((Below.refl w.heap.size w).alloc (Nat.le_refl _) _).cell (p := ⟨b, o + (P + k), none⟩) hb).trans this
end Go.Proofs.YtpakpgjbgehhjaaGreat

/-
  What mat's Finite, greatest and power return. Conditions: a matrix that is right.
-/
namespace Go.Proofs.YtpakpgjbgehhjaaGreat
open Go.RowKit
set_option linter.unusedVariables false

/-- A matrix variable: its four cells. -/
def MBox (w : World) (b : Nat) (R C S : Int) (s : Value) : Prop := w.cell? ⟨b, 0, none⟩ = some (.int .i64 R) ∧ w.cell? ⟨b, 1, none⟩ = some (.int .i64 C) ∧ w.cell? ⟨b, 2, none⟩ = some (.int .i64 S) ∧ w.cell? ⟨b, 3, none⟩ = some s ∧ b < w.heap.size
theorem MBox.made (w : World) (R C S : Int) (s : Value) : MBox (w.alloc (.cells #[.int .i64 R, .int .i64 C, .int .i64 S, s] 25)) w.heap.size R C S s := by
  refine ⟨?_, ?_, ?_, ?_, by simp⟩ <;> simp [go_sem]
theorem MBox.below {w w' : World} {b : Nat} {R C S : Int} {s : Value} (h : MBox w b R C S s) (hb : Below w.heap.size w w') : MBox w' b R C S s := by
  obtain ⟨h0, h1, h2, h3, h4⟩ := h
  exact ⟨(hb.cell (p := ⟨b, 0, none⟩) h4).trans h0, (hb.cell (p := ⟨b, 1, none⟩) h4).trans h1, (hb.cell (p := ⟨b, 2, none⟩) h4).trans h2, (hb.cell (p := ⟨b, 3, none⟩) h4).trans h3, Nat.lt_of_lt_of_le h4 hb.size⟩
theorem MBox.bes {w w' : World} {c : Option Nat} {b : Nat} {R C S : Int} {s : Value} (h : MBox w b R C S s) (hb : Bes c w w') (hc : c ≠ some b) : MBox w' b R C S s := by
  obtain ⟨h0, h1, h2, h3, h4⟩ := h
  exact ⟨(hb.cell (p := ⟨b, 0, none⟩) h4 hc).trans h0, (hb.cell (p := ⟨b, 1, none⟩) h4 hc).trans h1, (hb.cell (p := ⟨b, 2, none⟩) h4 hc).trans h2, (hb.cell (p := ⟨b, 3, none⟩) h4 hc).trans h3, Nat.lt_of_lt_of_le h4 hb.size⟩
theorem nat_mul_int (i S : Nat) : ((i : Int) * (S : Int)).toNat = i * S := by rw [← Int.natCast_mul, Int.toNat_natCast]
/-- All numbers of a matrix are finite. -/
def AllF (Z : Nat → Int) (R C S : Nat) : Prop := ∀ i k, i < R → k < C → mag (Z (i * S + k)) < 9218868437227405312
set_option maxHeartbeats 2000000 in
theorem mFin (R C S : Nat) (a : Option Addr) (len cap : Nat) (Z : Nat → Int) (w : World) (h : Rgt (R : Int) (C : Int) (S : Int) len) (hx : URow w a len cap Z) :
    Calls Tryz.prog 9 #[.agg #[.int .i64 (R : Int), .int .i64 (C : Int), .int .i64 (S : Int), .slice a len cap]] w fun e w' => (e = .returned (.bool true) ∧ AllF Z R C S ∨ e = .returned (.bool false) ∧ ¬ AllF Z R C S) ∧ Below w.heap.size w w' := by
  have HX : Hid (URow w a len cap Z) := hx
  have HH : Hid (Rgt (R : Int) (C : Int) (S : Int) len) := h
  obtain ⟨lb, cb⟩ := hx.lenB
  have r1 : (R : Int) ≤ 4096 := h.2.1
  have c1 : (C : Int) ≤ 4096 := h.2.2.2.1
  have s1 : (S : Int) ≤ 1099511627776 := h.2.2.2.2.2.1
  have HB : Hid (MBox (w.alloc (.cells #[.int .i64 (R : Int), .int .i64 (C : Int), .int .i64 (S : Int), .slice a len cap] 25)) w.heap.size (R : Int) (C : Int) (S : Int) (.slice a len cap)) := MBox.made w _ _ _ _
  clear hx h
  go_enter Tryz.func9, Tryz.ntmps9
  go_wp2_with fail
  refine (mCheck _ _ _ _ _ _ _ lb (by omega)).mono ?_
  rintro e w1 ⟨⟨rfl, _⟩ | ⟨rfl, hN⟩, hb1⟩
  · have HB1 : Hid (MBox w1 _ _ _ _ _) := HB.out.below hb1
    have B1 : Hid (Below w.heap.size w w1) := bstep ((Below.refl _ _).alloc (Nat.le_refl _) _) hb1
    obtain ⟨q0, q1, q2, q3, q4⟩ := HB1.out
    clear hb1 HB
    go_wp2
    go_loopw [11] (fun i wr => ∃ n : Nat, i = .int .i64 (n : Int) ∧ n ≤ R ∧ Hid (∀ i k, i < n → k < C → mag (Z (i * S + k)) < 9218868437227405312) ∧ Hid (Below w1.heap.size w1 wr)) (fun i _ => R - (intOf i).toNat)
    case atStart => exact ⟨0, rfl, Nat.zero_le _, fun i k h => absurd h (Nat.not_lt_zero i), Below.refl _ _⟩
    case round =>
      obtain ⟨n, rfl, hn, A, B⟩ := hrel
      obtain ⟨p0, p1, p2, p3, p4⟩ := HB1.out.below B.out
      by_cases hlt : (n : Int) < (R : Int)
      · go_wp2_with fail
        refine (mRow _ _ _ _ _ _ Z _ _ HH.out (HX.out.below (bstep B1.out B.out)) (by omega) hlt).mono ?_
        rintro e w2 ⟨⟨a', c', rfl, hu, _⟩, hb2⟩
        rw [nat_mul_int, Int.toNat_natCast] at hu
        rw [Int.toNat_natCast]
        have HU : Hid (URow w2 a' C c' (fun k => Z (n * S + k))) := hu
        have B2 : Hid (Below w1.heap.size w1 w2) := B.out.trans (hb2.mono B.out.size)
        have hc' := hu.lenB
        clear hu hb2 B p0 p1 p2 p3 p4
        go_wp2
        go_loopw [18] (fun i wr => ∃ m : Nat, i = .int .i64 (m : Int) ∧ m ≤ C ∧ Hid (∀ k, k < m → mag (Z (n * S + k)) < 9218868437227405312) ∧ wr = w2) (fun i _ => C - (intOf i).toNat)
        case atStart => exact ⟨0, rfl, Nat.zero_le _, fun k h => absurd h (Nat.not_lt_zero k), rfl⟩
        case round =>
          obtain ⟨m, rfl, hm, A2, rfl⟩ := hrel
          by_cases hlt2 : (m : Int) < (C : Int)
          · obtain ⟨_, _, zx, fx⟩ := HU.out
            obtain ⟨b1, o1, rfl, l1, e1⟩ := fx (by omega)
            have x1 := e1 m (by omega)
            obtain ⟨x0, x2⟩ := zx m
            clear zx fx e1
            have K1 : Hid (mag (Z (n * S + m)) < 9218868437227405312 → ∀ k, k < m + 1 → mag (Z (n * S + k)) < 9218868437227405312) := by
              intro g k hk
              rcases Nat.lt_or_ge k m with h | h
              · exact A2.out k h
              · rw [show k = m by omega]; exact g
            have K2 : Hid (¬ mag (Z (n * S + m)) < 9218868437227405312 → ¬ AllF Z R C S) := fun g f => g (f n m (by omega) (by omega))
            simp only at x1 x0 x2
            obtain ⟨x, hx⟩ : ∃ x, Z (n * S + m) = x := ⟨_, rfl⟩
            rw [hx] at x1 x0 x2 K1 K2
            clear hx A2
            have FM : Hid (decide (x / 4503599627370496 % 2048 < 2047) = decide (mag x < 9218868437227405312)) := by
              show _ = _
              rw [decide_eq_decide]
              exact fin_mag x
            by_cases hf : mag x < 9218868437227405312
            · have K3 : Hid (∀ k, k < m + 1 → mag (Z (n * S + k)) < 9218868437227405312) := K1.out hf
              have FT : Hid (decide (x / 4503599627370496 % 2048 < 2047) = true) := FM.out.trans (decide_eq_true hf)
              clear K1 K2 FM hf
              go_wp2_with (go_at_call 10; refine (finite_any _ _ x0 x2).mono ?_; rintro e w' ⟨rfl, hw⟩; rw [FT.out]; have hw2 := hw.symm; clear hw; subst hw2)
              go_roundw
              case rel => exact ⟨m + 1, by go_num, by omega, K3, by first | rfl | trivial⟩
              case measure => simp [intOf]; omega
            · have K3 : Hid (¬ AllF Z R C S) := K2.out hf
              have FT : Hid (decide (x / 4503599627370496 % 2048 < 2047) = false) := FM.out.trans (decide_eq_false hf)
              clear K1 K2 FM hf
              go_wp2_with (go_at_call 10; refine (finite_any _ _ x0 x2).mono ?_; rintro e w' ⟨rfl, hw⟩; rw [FT.out]; have hw2 := hw.symm; clear hw; subst hw2)
              go_ret
              exact ⟨.inr ⟨ret_eq rfl, K3.out⟩, bstep B1.out B2.out⟩
          · obtain rfl : m = C := by omega
            have A3 : Hid (∀ i k, i < n + 1 → k < m → mag (Z (i * S + k)) < 9218868437227405312) := by
              intro i k hi hk
              rcases Nat.lt_or_ge i n with h | h
              · exact A.out i k h hk
              · rw [show i = n by omega]; exact A2.out k hk
            go_wp2
            go_roundw
            case rel => exact ⟨n + 1, by go_num, by omega, A3, B2⟩
            case measure => simp [intOf]; omega
      · obtain rfl : n = R := by omega
        go_wp2
        go_ret
        exact ⟨.inl ⟨ret_eq rfl, A.out⟩, bstep B1.out B.out⟩
  · exact absurd HH.out hN
end Go.Proofs.YtpakpgjbgehhjaaGreat

/-
  What mat's greatest and power return. Conditions: a matrix that is right.
-/
namespace Go.Proofs.YtpakpgjbgehhjaaGreat
open Go.RowKit
set_option linter.unusedVariables false

/-- B is the greatest of the first n rows, and of m of row n, without their signs. -/
def GrM (Z : Nat → Int) (C S n m : Nat) (B : Int) : Prop :=
  0 ≤ B ∧ B < 9223372036854775808 ∧ (∀ i k, (i < n ∧ k < C) ∨ (i = n ∧ k < m) → Z (i * S + k) % 9223372036854775808 ≤ B) ∧ (B = 0 ∨ ∃ i k, ((i < n ∧ k < C) ∨ (i = n ∧ k < m)) ∧ B = Z (i * S + k) % 9223372036854775808)
theorem GrM.zero (Z : Nat → Int) (C S : Nat) : GrM Z C S 0 0 0 := ⟨by decide, by decide, fun i k h => by omega, .inl rfl⟩
theorem GrM.next {Z : Nat → Int} {C S n : Nat} {B : Int} (h : GrM Z C S n C B) : GrM Z C S (n + 1) 0 B := by
  obtain ⟨h0, h1, h2, h3⟩ := h
  refine ⟨h0, h1, fun i k hi => h2 i k (by omega), ?_⟩
  rcases h3 with g | ⟨i, k, hi, e⟩
  · exact .inl g
  · exact .inr ⟨i, k, by omega, e⟩
theorem GrM.take {Z : Nat → Int} {C S n m : Nat} {B y : Int} (h : GrM Z C S n m B) (hy : Z (n * S + m) % 9223372036854775808 = y) : GrM Z C S n (m + 1) (if B < y then y else B) := by
  obtain ⟨h0, h1, h2, h3⟩ := h
  split
  · refine ⟨by omega, by omega, fun i k hi => ?_, .inr ⟨n, m, by omega, hy.symm⟩⟩
    by_cases e : i = n ∧ k = m
    · rw [e.1, e.2, hy]; exact Int.le_refl _
    · have := h2 i k (by omega); omega
  · refine ⟨h0, h1, fun i k hi => ?_, ?_⟩
    · by_cases e : i = n ∧ k = m
      · rw [e.1, e.2, hy]; omega
      · exact h2 i k (by omega)
    · rcases h3 with g | ⟨i, k, hi, e⟩
      · exact .inl g
      · exact .inr ⟨i, k, by omega, e⟩
end Go.Proofs.YtpakpgjbgehhjaaGreat

/-
  What mat's Scale and Unit return: a new matrix, each number Scaled, and all flags. Conditions: a matrix that is right, of at most a million numbers.
-/
namespace Go.Proofs.YtpakpgjbgehhjaaGreat
open Go.RowKit
set_option linter.unusedVariables false

/-- The flags of Scaling the first n, on top of F. -/
def scF (F : Int) (X : Nat → Int) (N : Int) : Nat → Int
  | 0 => F
  | n + 1 => bits .or .u8 (scF F X N n) (scaleS (X n) N).2
def scV (X : Nat → Int) (N : Int) : Nat → Int := fun n => (scaleS (X n) N).1
theorem MBox.set {w : World} {b : Nat} {R C S : Int} {s : Value} (h : MBox w b R C S s) {p : Addr} (hp : p.block ≠ b) (u : Value) : MBox (w.setCell p u) b R C S s := by
  obtain ⟨h0, h1, h2, h3, h4⟩ := h
  have k : ∀ j, (w.setCell p u).cell? ⟨b, j, none⟩ = w.cell? ⟨b, j, none⟩ := fun j => World.cell?_setCell_far w p ⟨b, j, none⟩ u hp
  exact ⟨(k 0).trans h0, (k 1).trans h1, (k 2).trans h2, (k 3).trans h3, by simpa [World.setCell] using h4⟩
/-- A matrix variable that may be written. -/
def WBox (w : World) (b : Nat) (R C S : Int) (s : Value) : Prop := MBox w b R C S s ∧ ∀ j, w.frozen? ⟨b, j, none⟩ = false
theorem WBox.made (w : World) (R C S : Int) (s : Value) : WBox (w.alloc (.cells #[.int .i64 R, .int .i64 C, .int .i64 S, s] 25)) w.heap.size R C S s :=
  ⟨MBox.made w R C S s, fun j => by simp [go_sem]⟩
theorem WBox.bes {w w' : World} {c : Option Nat} {b : Nat} {R C S : Int} {s : Value} (h : WBox w b R C S s) (hb : Bes c w w') (hc : c ≠ some b) : WBox w' b R C S s :=
  ⟨h.1.bes hb hc, fun j => (hb.frozen (p := ⟨b, j, none⟩) h.1.2.2.2.2 hc).trans (h.2 j)⟩
theorem WBox.below {w w' : World} {b : Nat} {R C S : Int} {s : Value} (h : WBox w b R C S s) (hb : Below w.heap.size w w') : WBox w' b R C S s := h.bes (c := none) (Bes.of hb) (fun e => by cases e)
/-- What a store into one block leaves. -/
theorem Bes.put (w : World) (g i : Nat) (u : Value) : Bes (some g) w (w.setCell ⟨g, i, none⟩ u) := (Bes.refl _ w).set (p := ⟨g, i, none⟩) (.inr rfl) u
theorem ne_some {g b : Nat} (h : g ≠ b) : (some g : Option Nat) ≠ some b := fun e => h (Option.some.inj e)
theorem row_lt (C i k R : Nat) (hi : i < R) (hk : k < C) : i * C + k < R * C := by
  have : (i + 1) * C ≤ R * C := Nat.mul_le_mul_right _ hi
  rw [Nat.succ_mul] at this
  omega
theorem tight (R C : Nat) (hR : R ≤ 4096) (hC : C ≤ 4096) : Rgt (R : Int) (C : Int) (C : Int) (R * C) := by
  refine ⟨by omega, by omega, by omega, by omega, Int.le_refl _, by omega, ?_⟩
  rcases Nat.eq_zero_or_pos R with h | h
  · exact .inl (by omega)
  · refine .inr (.inr ?_)
    obtain ⟨r, rfl⟩ : ∃ r, R = r + 1 := ⟨R - 1, by omega⟩
    have : (r + 1) * C = r * C + C := Nat.succ_mul r C
    rw [this, show ((r + 1 : Nat) : Int) - 1 = (r : Int) by omega, ← Int.natCast_mul]
    omega
set_option maxHeartbeats 1000000 in
/-- A row's slice, of whatever memory. -/
theorem mRowS (R C S : Int) (b o len cap : Nat) (i : Int) (w : World) (h : Rgt R C S len) (hlc : len ≤ cap) (hcm : cap ≤ 100000000) (i0 : 0 ≤ i) (i1 : i < R) :
    Calls Tryz.prog 35 #[.agg #[.int .i64 R, .int .i64 C, .int .i64 S, .slice (some ⟨b, o, none⟩) len cap], .int .i64 i] w fun e w' => (∃ a' c', e = .returned (.slice a' C.toNat c') ∧ C.toNat ≤ c' ∧ c' ≤ cap ∧ (0 < C → a' = some ⟨b, o + (i * S).toNat, none⟩)) ∧ Below w.heap.size w w' := by
  by_cases hC : C = 0
  · subst hC
    have B0 : Hid (∀ o, Below w.heap.size w (w.alloc o)) := fun o => (Below.refl _ _).alloc (Nat.le_refl _) _
    clear h
    go_enter Tryz.func35, Tryz.ntmps35
    go_wp2
    go_ret
    exact ⟨⟨none, 0, ret_eq rfl, Nat.le_refl _, Nat.zero_le _, fun hp => absurd hp (by decide)⟩, B0.out _⟩
  · have c0 : 0 < C := by have := h.2.2.1; omega
    have hc0 : (C == 0) = false := by rw [beq_eq_false_iff_ne]; exact hC
    obtain ⟨m0, m1, m2⟩ := h.at i (C - 1) i0 i1 (by omega) (by omega)
    have hc : C ≤ 4096 := h.2.2.2.1
    obtain ⟨P, hP⟩ : ∃ P : Nat, i * S = (P : Int) := ⟨(i * S).toNat, by omega⟩
    obtain ⟨cn, hcn⟩ : ∃ n : Nat, C = (n : Int) := ⟨C.toNat, by omega⟩
    subst hcn
    have hw : IntKind.i64.wrap (i * S) = (P : Int) := by rw [IntKind.wrap_i64, hP]; omega
    rw [hP] at m0 m1 m2 ⊢
    rw [Int.toNat_natCast, Int.toNat_natCast]
    obtain ⟨Q, hQ⟩ : ∃ Q, P + cn = Q := ⟨_, rfl⟩
    have hw2 : IntKind.i64.wrap ((P : Int) + (cn : Int)) = (Q : Int) := by rw [IntKind.wrap_i64]; omega
    have q1 : (P : Int) ≤ (Q : Int) := by omega
    have q2 : (Q : Int) ≤ (len : Int) := by omega
    have q3 : (Q : Int) ≤ (cap : Int) := by omega
    have HQ : Hid (P + cn = Q) := hQ
    clear h hP hQ
    go_enter Tryz.func35, Tryz.ntmps35
    go_wp2
    go_ret
    have e : Q - P = cn := by have := HQ.out; omega
    refine ⟨⟨some ⟨b, o + P, none⟩, cap - P, ret_eq (by simp [e]), by have := HQ.out; omega, by omega, fun _ => rfl⟩, (Below.refl _ _).alloc (Nat.le_refl _) _⟩
/-- The world while 'each' runs: m in b0, what is made in b5, the answer's place b4; the first k numbers stand in gm. -/
structure EachI (w wr : World) (R C S : Nat) (s0 : Value) (X : Nat → Int) (N F : Int) (b0 b4 b5 gm ba k : Nat) : Prop where
  m : MBox wr b0 (R : Int) (C : Int) (S : Int) s0
  made : MBox wr b5 (R : Int) (C : Int) (C : Int) (.slice (some ⟨gm, 0, none⟩) (R * C) (R * C))
  ans : WBox wr b4 0 0 0 (.slice none 0 0)
  row : Row1 wr gm (R * C) k (scV X N)
  flg : IsCalc wr (.pointer (some ⟨ba, 0, none⟩)) (some ba) (scF F X N k)
  bes : Bes (some ba) w wr
theorem EachI.below {w wr wr' : World} {R C S : Nat} {s0 : Value} {X : Nat → Int} {N F : Int} {b0 b4 b5 gm ba k : Nat} (h : EachI w wr R C S s0 X N F b0 b4 b5 gm ba k) (hb : Below wr.heap.size wr wr') : EachI w wr' R C S s0 X N F b0 b4 b5 gm ba k :=
  ⟨h.m.below hb, h.made.below hb, h.ans.below hb, h.row.below hb, h.flg.later hb, h.bes.step hb⟩
end Go.Proofs.YtpakpgjbgehhjaaGreat
