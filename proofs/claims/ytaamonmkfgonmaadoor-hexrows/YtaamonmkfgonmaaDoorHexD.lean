/-
  What digits of the statements of layer 8 returns at base 16 and at base 10. No conditions.
-/
import Derived.Test.YtaamonmkfgonmaaDoorHexU
namespace Go.Proofs.YtaamonmkfgonmaaDoor
open Go.RowKit
set_option linter.unusedVariables false
set_option linter.unusedSimpArgs false

theorem sig_fin : ∀ d : Fin 16, (⟨#[48, 49, 50, 51, 52, 53, 54, 55, 56, 57, 97, 98, 99, 100, 101, 102]⟩ : ByteArray).extract d.val (d.val + 1) = ⟨#[hxB d.val]⟩ := by decide +kernel
theorem sig_slice (x : Int) (d : Nat) (hx : x = (d : Int)) (hd : d < 16) (W : World) :
    (Instr.slice 9 (.string ⟨#[48, 49, 50, 51, 52, 53, 54, 55, 56, 57, 97, 98, 99, 100, 101, 102]⟩) (some (.int .u64 x)) (some (.int .u64 (x + 1))) none).run Tryd.prog W = .ok (.string ⟨#[hxB d]⟩) W := by
  subst hx
  have hsz : (⟨#[48, 49, 50, 51, 52, 53, 54, 55, 56, 57, 97, 98, 99, 100, 101, 102]⟩ : ByteArray).size = 16 := by decide
  rw [run_slice_string W 9 _ .u64 .u64 _ _ Tryd.underlying9 (by omega) (by omega) (by rw [hsz]; omega)]
  have e := sig_fin ⟨d, hd⟩
  simp only at e
  rw [show ((d : Int)).toNat = d by omega, show ((d : Int) + 1).toNat = d + 1 by omega, e]
theorem dec_hxB (d : Nat) (h : d < 10) : UInt8.ofNat (48 + d) = hxB d := by unfold hxB; rw [if_pos h]
theorem dec_small' (u : Nat) (h : u < 10) : Lib.decDigits u = [hxB u] := by rw [dec_small u h, dec_hxB u h]
theorem dec_big' (u : Nat) (h : ¬ u < 10) : Lib.decDigits u = Lib.decDigits (u / 10) ++ [hxB (u % 10)] := by rw [dec_big u h, dec_hxB _ (Nat.mod_lt _ (by decide))]
theorem dec_len64 (u : Nat) (h : u < 18446744073709551616) : (Lib.decDigits u).length ≤ 20 := by rw [Lib.decDigits_length]; exact Lib.nDigits_le20 u h
theorem cons_mk (c : UInt8) (l : List UInt8) : (⟨#[c]⟩ : ByteArray) ++ ⟨l.toArray⟩ = ⟨(c :: l).toArray⟩ := by
  rw [show (⟨#[c]⟩ : ByteArray) = ⟨([c] : List UInt8).toArray⟩ from rfl, ByteArray.mk_append_mk]; rfl
set_option maxRecDepth 100000 in
set_option maxHeartbeats 1000000 in
theorem lDig16 (N : Nat) (w : World) (hN : N < 18446744073709551616) :
    Calls Tryd.prog 17 #[.int .u64 N, .int .u64 16] w fun e w' => e = .returned (.string ⟨(hxD N).toArray⟩) ∧ Below w.heap.size w w' := by
  have hS := fun W => sig_slice ((N : Int) % 16) (N % 16) (by omega) (by omega) W
  go_enter Tryd.func17, Tryd.ntmps17
  go_wp2
  go_region
  clear hS
  go_wp2
  go_loopw [0, 6] (fun vn vo wr => ∃ (n : Nat) (ds : List UInt8), vn = .int .u64 (n : Int) ∧ vo = .string ⟨ds.toArray⟩ ∧ n < 18446744073709551616 ∧ ds.length ≤ 16 ∧ Hid (hxD N = (if n = 0 then [] else hxD n) ++ ds) ∧ Hid (Below w.heap.size w wr)) (fun vn _ _ => (intOf vn).toNat)
  case atStart =>
    refine ⟨N / 16, [hxB (N % 16)], by go_num, rfl, by omega, by simp, ?_, (Below.refl _ _).drew⟩
    show _ = _
    by_cases h : N < 16
    · rw [if_pos (by omega), hxD_small N h, Nat.mod_eq_of_lt h]; rfl
    · rw [if_neg (by omega), ← hxD_big N h]
  case round =>
    obtain ⟨n, ds, rfl, rfl, hn, hl, HD, HB⟩ := hrel
    by_cases h0 : n = 0
    · subst h0
      have E : Hid (hxD N = ds) := by show _ = _; rw [HD.out]; rfl
      clear HD
      go_wp2
      go_ret
      exact ⟨by rw [E.out]; rfl, HB.out⟩
    · have h0' : (0 : Int) < (n : Int) := by omega
      have hS := fun W => sig_slice ((n : Int) % 16) (n % 16) (by omega) (by omega) W
      have hlen : ds.length < 16 := by
        have := congrArg List.length HD.out
        rw [if_neg h0, List.length_append] at this
        have h2 := hxD_len64 N hN
        have h3 : 1 ≤ (hxD n).length := by
          by_cases h : n < 16
          · rw [hxD_small n h]; exact Nat.le_refl _
          · rw [hxD_big n h]; simp
        omega
      obtain ⟨S, eS⟩ : ∃ S : ByteArray, ⟨ds.toArray⟩ = S := ⟨_, rfl⟩
      have zS : S.size ≤ 16 := by rw [← eS, size_of_list]; omega
      have ES := Lib.hid eS
      rw [eS]
      clear eS
      go_wp2
      go_region
      go_wp2
      go_roundw
      case rel =>
        refine ⟨n / 16, hxB (n % 16) :: ds, by go_num, ?_, by omega, by simp; omega, ?_, HB.out.drew⟩
        · rw [← ES.out, cons_mk]
        · show _ = _
          rw [HD.out, if_neg h0]
          by_cases h : n < 16
          · rw [if_pos (by omega), hxD_small n h, Nat.mod_eq_of_lt h]; rfl
          · rw [if_neg (by omega), hxD_big n h, List.append_assoc]; rfl
      case measure => simp [intOf] <;> omega
set_option maxRecDepth 100000 in
set_option maxHeartbeats 1000000 in
theorem lDig10 (N : Nat) (w : World) (hN : N < 18446744073709551616) :
    Calls Tryd.prog 17 #[.int .u64 N, .int .u64 10] w fun e w' => e = .returned (.string ⟨(Lib.decDigits N).toArray⟩) ∧ Below w.heap.size w w' := by
  have hS := fun W => sig_slice ((N : Int) % 10) (N % 10) (by omega) (by omega) W
  go_enter Tryd.func17, Tryd.ntmps17
  go_wp2
  go_region
  clear hS
  go_wp2
  go_loopw [0, 6] (fun vn vo wr => ∃ (n : Nat) (ds : List UInt8), vn = .int .u64 (n : Int) ∧ vo = .string ⟨ds.toArray⟩ ∧ n < 18446744073709551616 ∧ ds.length ≤ 20 ∧ Hid (Lib.decDigits N = (if n = 0 then [] else Lib.decDigits n) ++ ds) ∧ Hid (Below w.heap.size w wr)) (fun vn _ _ => (intOf vn).toNat)
  case atStart =>
    refine ⟨N / 10, [hxB (N % 10)], by go_num, rfl, by omega, by simp, ?_, (Below.refl _ _).drew⟩
    show _ = _
    by_cases h : N < 10
    · rw [if_pos (by omega), dec_small' N h, Nat.mod_eq_of_lt h]; rfl
    · rw [if_neg (by omega), ← dec_big' N h]
  case round =>
    obtain ⟨n, ds, rfl, rfl, hn, hl, HD, HB⟩ := hrel
    by_cases h0 : n = 0
    · subst h0
      have E : Hid (Lib.decDigits N = ds) := by show _ = _; rw [HD.out]; rfl
      clear HD
      go_wp2
      go_ret
      exact ⟨by rw [E.out]; rfl, HB.out⟩
    · have h0' : (0 : Int) < (n : Int) := by omega
      have hS := fun W => sig_slice ((n : Int) % 10) (n % 10) (by omega) (by omega) W
      have hlen : ds.length < 20 := by
        have := congrArg List.length HD.out
        rw [if_neg h0, List.length_append] at this
        have h2 := dec_len64 N hN
        have h3 : 1 ≤ (Lib.decDigits n).length := by
          by_cases h : n < 10
          · rw [dec_small' n h]; exact Nat.le_refl _
          · rw [dec_big' n h]; simp
        omega
      obtain ⟨S, eS⟩ : ∃ S : ByteArray, ⟨ds.toArray⟩ = S := ⟨_, rfl⟩
      have zS : S.size ≤ 20 := by rw [← eS, size_of_list]; omega
      have ES := Lib.hid eS
      rw [eS]
      clear eS
      go_wp2
      go_region
      go_wp2
      go_roundw
      case rel =>
        refine ⟨n / 10, hxB (n % 10) :: ds, by go_num, ?_, by omega, by simp; omega, ?_, HB.out.drew⟩
        · rw [← ES.out, cons_mk]
        · show _ = _
          rw [HD.out, if_neg h0]
          by_cases h : n < 10
          · rw [if_pos (by omega), dec_small' n h, Nat.mod_eq_of_lt h]; rfl
          · rw [if_neg (by omega), dec_big' n h, List.append_assoc]; rfl
      case measure => simp [intOf] <;> omega
end Go.Proofs.YtaamonmkfgonmaaDoor
