/-
  What next of Matrix of package hex, readSize and fits return at anything. Conditions: short texts; what is laid of Go's library.
-/
import Derived.Test.YtaamonmkfgonmaaDoorHexB
namespace Go.Proofs.YtaamonmkfgonmaaDoor
open Go.RowKit
set_option linter.unusedVariables false
set_option linter.unusedSimpArgs false

/-- The variable in block b holds the text R. -/
def InS (w : World) (b : Nat) (R : List UInt8) : Prop := w.cell? ⟨b, 0, none⟩ = some (.string ⟨R.toArray⟩) ∧ w.frozen? ⟨b, 0, none⟩ = false ∧ b < w.heap.size
theorem InS.below {w w' : World} {b B : Nat} {R : List UInt8} (h : InS w b R) (hb : Below B w w') (hB : b < B) : InS w' b R :=
  ⟨(hb.cell (p := ⟨b, 0, none⟩) hB).trans h.1, (hb.frozen (p := ⟨b, 0, none⟩) hB).trans h.2.1, Nat.lt_of_lt_of_le h.2.2 hb.size⟩
theorem InS.put {w : World} {b : Nat} {R : List UInt8} (h : InS w b R) (R' : List UInt8) : InS (w.setCell ⟨b, 0, none⟩ (.string ⟨R'.toArray⟩)) b R' :=
  ⟨World.cell?_setCell_same _ _ _ h.1, by simp [go_sem, h.2.1], by simpa [World.setCell] using h.2.2⟩
theorem ix_split (l : List UInt8) (c : UInt8) (n : Nat) (h : Lib.indexByte l c = (n : Int)) : n < l.length ∧ l = l.take n ++ [c] ++ l.drop (n + 1) ∧ c ∉ l.take n := by
  have hr := ix_rng l c
  obtain ⟨h1, h2⟩ := Lib.indexByte_some h
  have hn : n < l.length := by omega
  refine ⟨hn, ?_, ?_⟩
  · rw [List.getElem?_eq_getElem hn] at h1
    have e := Option.some.inj h1
    rw [← e, List.append_assoc, List.singleton_append, ← List.drop_eq_getElem_cons hn, List.take_append_drop]
  · intro hm
    obtain ⟨k, hk, e⟩ := List.mem_iff_getElem.1 hm
    rw [List.length_take] at hk
    have := h2 k (by omega)
    rw [List.getElem_take] at e
    rw [List.getElem?_eq_getElem (by omega), e] at this
    exact this rfl
set_option maxRecDepth 100000 in
set_option maxHeartbeats 4000000 in
theorem hNext (c : UInt8) (z : Int) (hz : z = (c.toNat : Int)) (b : Nat) (R : List UInt8) (w : World) (h : InS w b R) (hl : R.length ≤ 1000) :
    Calls Tryd.prog 38 #[.int .u8 z, .pointer (some ⟨b, 0, none⟩)] w fun e w' => (e = .returned (.tuple #[.string ⟨#[]⟩, .bool false]) ∧ w' = w) ∨ (∃ P Q : List UInt8, R = P ++ [c] ++ Q ∧ c ∉ P ∧ e = .returned (.tuple #[.string ⟨P.toArray⟩, .bool true]) ∧ w' = w.setCell ⟨b, 0, none⟩ (.string ⟨Q.toArray⟩)) := by
  obtain ⟨h1, h2, h3⟩ := h
  obtain ⟨s, eS, zS, lS, dS⟩ := str_ob R
  rw [eS] at h1
  have cu : z.toNat.toUInt8 = c := by rw [hz]; simp
  clear hz
  obtain ⟨i, hi⟩ : ∃ i, Lib.indexByte s.data.toList z.toNat.toUInt8 = i := ⟨_, rfl⟩
  have rg := ix_rng s.data.toList z.toNat.toUInt8
  rw [hi] at rg
  have IX := Lib.hid hi
  have i0 : -1 ≤ i := rg.1
  have z0 : s.size ≤ 1000 := by omega
  by_cases hn : i < 0
  · clear rg hi cu
    go_enter Tryd.func38, Tryd.ntmps38
    go_wp2_with (first | (go_at_call 14; refine (ibyte_same _ _ _).mono ?_; rintro e w' ⟨rfl, rfl⟩; rw [IX.out]))
    go_ret2
    exact .inl ⟨rfl, rfl⟩
  · obtain ⟨n, rfl⟩ : ∃ n : Nat, i = (n : Int) := ⟨i.toNat, by omega⟩
    rw [cu, dS] at hi
    obtain ⟨hn1, hsp, hno⟩ := ix_split R c n hi
    have X1 : Hid (s.extract 0 n = ⟨(R.take n).toArray⟩) := by show _ = _; rw [← eS, extract_mk]; simp
    have X2 : Hid (s.extract (n + 1) s.size = ⟨(R.drop (n + 1)).toArray⟩) := by
      show _ = _
      rw [zS, ← eS, extract_mk, List.take_of_length_le (by simp)]
    have n0 : (n : Int) + 1 ≤ (s.size : Int) := by omega
    have n1 : (n : Int) ≤ (s.size : Int) := by omega
    have HSP := Lib.hid hsp
    have HNO := Lib.hid hno
    clear rg hi hsp hno hn cu zS eS lS dS hl
    go_enter Tryd.func38, Tryd.ntmps38
    go_wp2_with (first | (go_at_call 14; refine (ibyte_same _ _ _).mono ?_; rintro e w' ⟨rfl, rfl⟩; rw [IX.out]))
    rw [X1.out, X2.out]
    go_ret2
    exact .inr ⟨_, _, HSP.out, HNO.out, rfl, rfl⟩
/-- fits, at anything: where it says yes there are few. -/
theorem fit_math (m n N : Nat) (h : (m : Int) ≤ (N : Int) / (2 * (n : Int))) (hn : 0 < n) : m * n ≤ N := by
  have e : m ≤ N / (2 * n) := by
    have : ((N / (2 * n) : Nat) : Int) = (N : Int) / (2 * (n : Int)) := by simp
    omega
  rw [Nat.le_div_iff_mul_le (by omega)] at e
  have : m * (2 * n) = 2 * (m * n) := by rw [Nat.mul_left_comm]
  omega
/-- A bool that says that there are few. -/
def FitE (m n : Nat) (e : Ending) : Prop := ∃ f : Bool, e = .returned (.bool f) ∧ (f = true → m * n ≤ 1000)
set_option maxHeartbeats 2000000 in
theorem hFitsAny (m n N : Nat) (w : World) (hm : m ≤ 4096) (hn : n ≤ 4096) (hN : N ≤ 1000) : Calls Tryd.prog 36 #[.int .i64 m, .int .i64 n, .int .i64 N] w fun e w' => FitE m n e ∧ w = w' := by
  by_cases h0 : m = 0
  · subst h0
    go_enter Tryd.func36, Tryd.ntmps36
    go_wp2
    go_ret
    exact ⟨⟨_, rfl, fun _ => by simp⟩, rfl⟩
  · have h0' : ¬ (m : Int) ≤ 0 := by omega
    by_cases h1 : n = 0
    · subst h1
      go_enter Tryd.func36, Tryd.ntmps36
      go_wp2
      go_ret
      exact ⟨⟨_, rfl, fun _ => by simp⟩, rfl⟩
    · have h1' : ¬ (n : Int) ≤ 0 := by omega
      have n2 : (0 : Int) < 2 * (n : Int) := by omega
      obtain ⟨q, hq⟩ : ∃ q, (N : Int) / (2 * (n : Int)) = q := ⟨_, rfl⟩
      have q0 : 0 ≤ q := by rw [← hq]; exact Int.ediv_nonneg (by omega) (by omega)
      have q1 : q ≤ 1000 := by rw [← hq]; exact Int.le_trans (Int.ediv_le_self _ (by omega)) (by omega)
      by_cases h2 : (n : Int) ≤ (N : Int) / 2
      · by_cases h3 : (m : Int) ≤ q
        · have := fit_math m n N (by rw [hq]; exact h3) (by omega)
          have R := Lib.hid (show m * n ≤ 1000 by omega)
          clear this
          go_enter Tryd.func36, Tryd.ntmps36
          go_wp2
          go_ret
          exact ⟨⟨_, rfl, fun _ => R.out⟩, rfl⟩
        · have d3 : decide ((m : Int) ≤ q) = false := decide_eq_false h3
          go_enter Tryd.func36, Tryd.ntmps36
          go_wp2
          go_ret
          refine ⟨⟨_, rfl, fun h => ?_⟩, rfl⟩
          first | (cases h) | (simp [h3] at h)
      · have d2 : decide ((n : Int) ≤ (N : Int) / 2) = false := decide_eq_false h2
        go_enter Tryd.func36, Tryd.ntmps36
        go_wp2
        go_ret
        refine ⟨⟨_, rfl, fun h => ?_⟩, rfl⟩
        first | (cases h) | (simp [h2] at h)
/-- Nothing, or the number that the text is of. -/
def SizeE (l : List UInt8) (found : Bool) (e : Ending) : Prop := e = .returned (.tuple #[.int .i64 0, .bool false]) ∨ ∃ u : Nat, u ≤ 4096 ∧ l = Lib.decDigits u ∧ found = true ∧ e = .returned (.tuple #[.int .i64 u, .bool true])
set_option maxRecDepth 100000 in
set_option maxHeartbeats 4000000 in
theorem hSizeAny (l : List UInt8) (found : Bool) (w : World) (hl : l.length ≤ 1000) (hT : Tabs w) (hE : ErrVars w) :
    Calls Tryd.prog 39 #[.string ⟨l.toArray⟩, .bool found] w fun e w' => SizeE l found e ∧ Below w.heap.size w w' := by
  obtain ⟨s, eS, zS, lS, dS⟩ := str_ob l
  have HT := Lib.hid hT
  have HE := Lib.hid hE
  rw [eS]
  clear hT hE
  go_enter Tryd.func39, Tryd.ntmps39
  go_wp2_with fail
  refine (atoiAny s _ (by omega) HE.out).mono ?_
  rintro e w1 ⟨hc, hb1⟩
  have B1 := Lib.hid hb1
  have HT1 := Lib.hid (HT.out.below hb1)
  clear hb1
  cases found with
  | false =>
    rcases hc with ⟨v, rfl, v0, v1⟩ | ⟨v, t, p, rfl⟩
    · go_wp2
      go_ret2
      exact ⟨.inl rfl, B1.out⟩
    · go_wp2
      go_ret2
      exact ⟨.inl rfl, B1.out⟩
  | true =>
    rcases hc with ⟨v, rfl, v0, v1⟩ | ⟨v, t, p, rfl⟩
    · go_wp2_with fail
      refine (Tryd.strconv_Itoa v v0 v1 _ HT1.out.2).mono ?_
      rintro e w2 ⟨rfl, k_, os, rfl⟩
      obtain ⟨T, eT, zT, lT, dT⟩ := str_ob (Lib.itoa v)
      rw [eT]
      have B2 := Lib.hid (B1.out.trans ((grow_below w1 k_ os).mono B1.out.size))
      by_cases hq : Lib.itoa v = l
      · have N : (T.toList == s.toList) = true := by rw [lT, lS, hq, beq_self_eq_true]
        by_cases hneg : v < 0
        · clear eT zT lT dT eS lS dS
          go_wp2
          go_ret2
          exact ⟨.inl rfl, B2.out⟩
        · by_cases hbig : 4096 < v
          · clear eT zT lT dT eS lS dS
            go_wp2
            go_ret2
            exact ⟨.inl rfl, B2.out⟩
          · obtain ⟨u, rfl⟩ : ∃ u : Nat, v = (u : Int) := ⟨v.toNat, by omega⟩
            rw [Lib.itoa_nonneg] at hq
            have HQ := Lib.hid hq
            have hu : u ≤ 4096 := by omega
            clear eT zT lT dT eS lS dS hq
            go_wp2
            go_ret2
            exact ⟨.inr ⟨u, hu, HQ.out.symm, rfl, rfl⟩, B2.out⟩
      · have N : (T.toList == s.toList) = false := by rw [lT, lS, beq_eq_false_iff_ne]; exact hq
        clear eT zT lT dT eS lS dS hq
        go_wp2
        go_ret2
        exact ⟨.inl rfl, B2.out⟩
    · go_wp2
      go_ret2
      exact ⟨.inl rfl, B1.out⟩
end Go.Proofs.YtaamonmkfgonmaaDoor
