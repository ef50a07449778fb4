/-
  What strings.IndexRune returns where the digits are asked for a rune that is no ASCII: there is none. Conditions: the rune is one that a text can bear.
-/
import Derived.Test.YtaamonmkfgonmaaDoorHexG
import Derived.Laws.Runes
import Derived.WalkMore
namespace Go.Proofs.YtaamonmkfgonmaaDoor
open Go.RowKit
set_option linter.unusedVariables false
set_option linter.unusedSimpArgs false

theorem ibyte_same (s : ByteArray) (c : Int) (w : World) : Calls Tryd.prog 14 #[.string s, .int .u8 c] w fun e w' => e = .returned (.int .i64 (Lib.indexByte s.data.toList c.toNat.toUInt8)) ∧ w = w' := (Tryd.strings_IndexByte s c w).mono fun e w' ⟨p, q⟩ => ⟨p, q.symm⟩
theorem valid_same (r : Int) (w : World) : Calls Tryd.prog 85 #[.int .i32 r] w fun e w' => e = .returned (.bool (Lib.validRune r)) ∧ w = w' := (Tryd.utf8_ValidRune r w).mono fun e w' ⟨p, q⟩ => ⟨p, q.symm⟩
theorem ix_none (l : List UInt8) (c : UInt8) (h : ∀ x ∈ l, x ≠ c) : Lib.indexByte l c = -1 := by
  induction l with
  | nil => rfl
  | cons x l ih =>
    unfold Lib.indexByte
    rw [if_neg (by simp; exact h x (by simp)), ih (fun y hy => h y (by simp [hy])), if_pos (by simp)]
theorem lit_low : ∀ i : Fin 16, (⟨#[48, 49, 50, 51, 52, 53, 54, 55, 56, 57, 97, 98, 99, 100, 101, 102]⟩ : ByteArray)[i.val]!.toNat < 128 := by decide +kernel
theorem dig_tail (n : Nat) (c : UInt8) (h : 128 ≤ c.toNat) : ∀ x ∈ ([48, 49, 50, 51, 52, 53, 54, 55, 56, 57, 97, 98, 99, 100, 101, 102] : List UInt8).drop n, x ≠ c := by
  intro x hx e
  have hm := List.mem_of_mem_drop hx
  have key : ∀ y ∈ ([48, 49, 50, 51, 52, 53, 54, 55, 56, 57, 97, 98, 99, 100, 101, 102] : List UInt8), y.toNat < 128 := by decide +kernel
  have := key x hm
  rw [e] at this
  omega
set_option maxRecDepth 100000 in
set_option maxHeartbeats 4000000 in
theorem hIdxErr (w : World) : Calls Tryd.prog 66 #[.string ⟨#[48, 49, 50, 51, 52, 53, 54, 55, 56, 57, 97, 98, 99, 100, 101, 102]⟩, .int .i32 65533] w fun e w' => e = .returned (.int .i64 (-1)) ∧ Below w.heap.size w w' := by
  obtain ⟨s, hs⟩ : ∃ s : ByteArray, ⟨#[48, 49, 50, 51, 52, 53, 54, 55, 56, 57, 97, 98, 99, 100, 101, 102]⟩ = s := ⟨_, rfl⟩
  have zs : s.size = 16 := by rw [← hs]; rfl
  have low : ∀ (i : Nat) (h : i < s.size), (s[i]'h).toNat < 128 := by
    intro i h
    have := lit_low ⟨i, by omega⟩
    simp only [hs] at this
    rw [getElem!_pos s i h] at this
    exact this
  have LOW := Lib.hid low
  rw [hs]
  clear hs low
  go_enter Tryd.func66, Tryd.ntmps66
  go_wp2
  go_loopw [176] (fun _ wr => ∃ pos : Nat, pos ≤ s.size ∧ wr.heap[w.heap.size]? = some (.stringIter s pos) ∧ Hid (Below w.heap.size w wr)) (fun _ wr => s.size - wr.iterPos w.heap.size)
  case atStart => exact ⟨0, Nat.zero_le _, World.iter_heap w s 0, (Below.refl _ _).alloc (Nat.le_refl _) _⟩
  case round =>
    obtain ⟨pos, hps, hk, HB⟩ := hrel
    have hmu : wr.iterPos w.heap.size = pos := by simp [World.iterPos, hk]
    by_cases hp : pos < s.size
    · have hlo := LOW.out pos hp
      obtain ⟨c, hc⟩ : ∃ c : Int, ((s[pos]'hp).toNat : Int) = c := ⟨_, rfl⟩
      have c0 : (c == 65533) = false := by rw [beq_eq_false_iff_ne]; omega
      have hnext : ∀ ty, (Instr.next (.pointer (some ⟨w.heap.size, 0, none⟩)) true ty).run Tryd.prog wr = .ok (.tuple #[.bool true, .int .i64 pos, .int .i32 c]) (wr.iterAt w.heap.size s (pos + 1)) := fun ty => by
        rw [Lib.run_next_ascii_at wr w.heap.size s pos ty hk hp hlo, hc]
      have hk1 := Lib.iterAt_heap wr w.heap.size s pos (pos + 1) hk
      have hnx1 : Below w.heap.size w (wr.iterAt w.heap.size s (pos + 1)) := Lib.below_iterAt HB.out (by omega) s (pos + 1)
      generalize wr.iterAt w.heap.size s (pos + 1) = W1 at hnext hk1 hnx1
      clear hc hlo
      go_wp2
      go_roundw
      case rel => exact ⟨pos + 1, by omega, hk1, hnx1⟩
      case measure =>
        have hmu2 : W1.iterPos w.heap.size = pos + 1 := by simp [World.iterPos, hk1]
        rw [hmu, hmu2]
        omega
    · have hnext : ∀ ty, (Instr.next (.pointer (some ⟨w.heap.size, 0, none⟩)) true ty).run Tryd.prog wr = _ := fun ty => Lib.run_next_end_at wr w.heap.size s pos ty hk hp
      go_wp2
      go_ret
      exact ⟨rfl, HB.out⟩
theorem enc_ob (r : Int) (hv : Utf8.valid r = true) (h : 128 ≤ r) : ∃ (E : ByteArray) (c : UInt8), Utf8.encode r = E ∧ 2 ≤ E.size ∧ E.size ≤ 4 ∧ 128 ≤ c.toNat ∧ ∀ (z : Int) (W : World), z = (E.size : Int) - 1 → (Instr.index 9 (.string E) (.int .i64 z)).run Tryd.prog W = .ok (.int .u8 (c.toNat : Int)) W := by
  obtain ⟨h1, h2, h3⟩ := encode_facts r hv h
  generalize Utf8.encode r = E at *
  refine ⟨E, E[E.size - 1]'(by omega), rfl, h1, h2, h3 (by omega), ?_⟩
  intro z W hz
  rw [run_index_string W 9 E .i64 z Tryd.underlying9, dif_pos ⟨by omega, by omega⟩]
  have : z.toNat = E.size - 1 := by omega
  simp only [this]
set_option maxRecDepth 100000 in
set_option maxHeartbeats 4000000 in
theorem hIdxHigh (r : Int) (w : World) (h0 : 128 ≤ r) (h1 : r ≤ 1114111) (hv : Utf8.valid r = true) (hne : r ≠ 65533) : Calls Tryd.prog 66 #[.string ⟨#[48, 49, 50, 51, 52, 53, 54, 55, 56, 57, 97, 98, 99, 100, 101, 102]⟩, .int .i32 r] w fun e w' => e = .returned (.int .i64 (-1)) ∧ Below w.heap.size w w' := by
  obtain ⟨E, c, hE, e2, e4, hc, hix⟩ := enc_ob r hv h0
  have hb : (r == 65533) = false := by rw [beq_eq_false_iff_ne]; exact hne
  have r1 : ¬ r < 128 := by omega
  have hvv : (0 ≤ r ∧ r < 55296) ∨ (57344 ≤ r ∧ r ≤ 1114111) := by unfold Utf8.valid at hv; simp at hv; omega
  have VR : Hid (Lib.validRune r = true) := by show _ = _; unfold Lib.validRune; simp; omega
  obtain ⟨cc, hcc⟩ : ∃ x : Int, (c.toNat : Int) = x := ⟨_, rfl⟩
  have c128 : 128 ≤ cc := by omega
  have c256 : cc < 256 := by have := c.toNat_lt; omega
  have cu : cc.toNat.toUInt8 = c := by rw [← hcc]; simp
  have IN := Lib.hid (fun n => ix_none _ c (dig_tail n c hc))
  rw [hcc] at hix
  have SZ : E.size = 2 ∨ E.size = 3 ∨ E.size = 4 := by omega
  clear hv hvv hne
  rcases SZ with z | z | z
  · have i1 := fun W => hix 1 W (by rw [z]; rfl)
    have nq : (49 != cc) = true := by rw [bne_iff_ne]; omega
    have nd : ((((⟨#[48, 49, 50, 51, 52, 53, 54, 55, 56, 57, 97, 98, 99, 100, 101, 102]⟩ : ByteArray)[1]'(by decide)).toNat : Nat) : Int) = 49 := by decide
    have IB : Hid (Lib.indexByte (⟨#[48, 49, 50, 51, 52, 53, 54, 55, 56, 57, 97, 98, 99, 100, 101, 102]⟩ : ByteArray).data.toList c = -1) := IN.out 0
    have IX : Hid (Lib.indexByte ((⟨#[48, 49, 50, 51, 52, 53, 54, 55, 56, 57, 97, 98, 99, 100, 101, 102]⟩ : ByteArray).extract 2 16).data.toList cc.toNat.toUInt8 = -1) := by
      show _ = _
      rw [cu]
      exact IN.out 2
    go_enter Tryd.func66, Tryd.ntmps66
    go_wp2_with (first | (go_at_call 85; refine (valid_same _ _).mono ?_; rintro e w' ⟨rfl, rfl⟩; rw [VR.out]))
    go_step3
    go_wp2
    go_loopw [9, 10] (fun v9 v10 wr => v9 = .int .i64 1 ∧ v10 = .int .i64 0 ∧ wr = w) (fun _ _ _ => 0)
    case atStart => exact ⟨rfl, rfl, rfl⟩
    case round =>
      obtain ⟨rfl, rfl, rfl⟩ := hrel
      go_wp2
      go_step3
      go_wp2
      go_region
      go_wp2
      go_region_with (go_at_call 14; refine (ibyte_same _ _ _).mono ?_; rintro e w' ⟨rfl, rfl⟩; rw [IX.out])
      all_goals
        go_wp2
        rw [Exit.noGoto_ret]
        go_wp2
        rw [Exit.noGoto_ret]
        go_wp2
        go_ret
        exact ⟨rfl, (Below.refl _ _).drew.drew⟩
  · have i1 := fun W => hix 2 W (by rw [z]; rfl)
    have nq : (50 != cc) = true := by rw [bne_iff_ne]; omega
    have nd : ((((⟨#[48, 49, 50, 51, 52, 53, 54, 55, 56, 57, 97, 98, 99, 100, 101, 102]⟩ : ByteArray)[2]'(by decide)).toNat : Nat) : Int) = 50 := by decide
    have IB : Hid (Lib.indexByte (⟨#[48, 49, 50, 51, 52, 53, 54, 55, 56, 57, 97, 98, 99, 100, 101, 102]⟩ : ByteArray).data.toList c = -1) := IN.out 0
    have IX : Hid (Lib.indexByte ((⟨#[48, 49, 50, 51, 52, 53, 54, 55, 56, 57, 97, 98, 99, 100, 101, 102]⟩ : ByteArray).extract 3 16).data.toList cc.toNat.toUInt8 = -1) := by
      show _ = _
      rw [cu]
      exact IN.out 3
    go_enter Tryd.func66, Tryd.ntmps66
    go_wp2_with (first | (go_at_call 85; refine (valid_same _ _).mono ?_; rintro e w' ⟨rfl, rfl⟩; rw [VR.out]))
    go_step3
    go_wp2
    go_loopw [9, 10] (fun v9 v10 wr => v9 = .int .i64 2 ∧ v10 = .int .i64 0 ∧ wr = w) (fun _ _ _ => 0)
    case atStart => exact ⟨rfl, rfl, rfl⟩
    case round =>
      obtain ⟨rfl, rfl, rfl⟩ := hrel
      go_wp2
      go_step3
      go_wp2
      go_region
      go_wp2
      go_region_with (go_at_call 14; refine (ibyte_same _ _ _).mono ?_; rintro e w' ⟨rfl, rfl⟩; rw [IX.out])
      all_goals
        go_wp2
        rw [Exit.noGoto_ret]
        go_wp2
        rw [Exit.noGoto_ret]
        go_wp2
        go_ret
        exact ⟨rfl, (Below.refl _ _).drew.drew⟩
  · have i1 := fun W => hix 3 W (by rw [z]; rfl)
    have nq : (51 != cc) = true := by rw [bne_iff_ne]; omega
    have nd : ((((⟨#[48, 49, 50, 51, 52, 53, 54, 55, 56, 57, 97, 98, 99, 100, 101, 102]⟩ : ByteArray)[3]'(by decide)).toNat : Nat) : Int) = 51 := by decide
    have IB : Hid (Lib.indexByte (⟨#[48, 49, 50, 51, 52, 53, 54, 55, 56, 57, 97, 98, 99, 100, 101, 102]⟩ : ByteArray).data.toList c = -1) := IN.out 0
    have IX : Hid (Lib.indexByte ((⟨#[48, 49, 50, 51, 52, 53, 54, 55, 56, 57, 97, 98, 99, 100, 101, 102]⟩ : ByteArray).extract 4 16).data.toList cc.toNat.toUInt8 = -1) := by
      show _ = _
      rw [cu]
      exact IN.out 4
    go_enter Tryd.func66, Tryd.ntmps66
    go_wp2_with (first | (go_at_call 85; refine (valid_same _ _).mono ?_; rintro e w' ⟨rfl, rfl⟩; rw [VR.out]))
    go_step3
    go_wp2
    go_loopw [9, 10] (fun v9 v10 wr => v9 = .int .i64 3 ∧ v10 = .int .i64 0 ∧ wr = w) (fun _ _ _ => 0)
    case atStart => exact ⟨rfl, rfl, rfl⟩
    case round =>
      obtain ⟨rfl, rfl, rfl⟩ := hrel
      go_wp2
      go_step3
      go_wp2
      go_region
      go_wp2
      go_region_with (go_at_call 14; refine (ibyte_same _ _ _).mono ?_; rintro e w' ⟨rfl, rfl⟩; rw [IX.out])
      all_goals
        go_wp2
        rw [Exit.noGoto_ret]
        go_wp2
        rw [Exit.noGoto_ret]
        go_wp2
        go_ret
        exact ⟨rfl, (Below.refl _ _).drew.drew⟩
end Go.Proofs.YtaamonmkfgonmaaDoor
