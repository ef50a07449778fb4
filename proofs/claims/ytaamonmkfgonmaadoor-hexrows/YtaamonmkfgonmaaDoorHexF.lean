/-
  What strconv.FormatUint returns at base 16. Conditions: the table of math/bits is as it is laid.
-/
import Derived.Test.YtaamonmkfgonmaaDoorHexM
import Derived.Test.YtaamonmkfgonmaaDoorShelf
namespace Go.Proofs.YtaamonmkfgonmaaDoor
open Go.RowKit
set_option linter.unusedVariables false
set_option linter.unusedSimpArgs false

/-- The table of math/bits that finds a lowest bit. -/
def TabZ (w : World) : Prop := TabAt (Tryd.lays7_29_ren.g 1) Lib.deBruijn64tab w
theorem cell_lt {w : World} {p : Addr} {v : Value} (h : w.cell? p = some v) : p.block < w.heap.size := by
  rcases Nat.lt_or_ge p.block w.heap.size with h1 | h1
  · exact h1
  · exfalso
    unfold World.cell? at h
    rw [Array.getElem?_eq_none h1] at h
    simp at h
theorem TabZ.below {w w' : World} (h : TabZ w) (hb : Below w.heap.size w w') : TabZ w' := fun j hj => (hb.cell (cell_lt (h j hj))).trans (h j hj)
set_option maxHeartbeats 1000000 in
theorem fTz16 (w : World) (hT : TabZ w) : Calls Tryd.prog 94 #[.int .u64 16] w fun e w' => e = .returned (.int .i64 4) ∧ w' = w := by
  have C : Hid (Lib.ctz 64 16 = 4) := by show _ = _; decide
  go_enter Tryd.func94, Tryd.ntmps94
  go_wp2_with (first | (go_at_call 42; refine (Tryd.bits_TrailingZeros64 16 (by decide) _ (fun _ => hT)).mono ?_; rintro e w' ⟨rfl, rfl⟩; rw [C.out]))
  go_ret
  exact ⟨rfl, rfl⟩
theorem arr_made (w : World) : Arr65 (w.alloc (.cells Tryd.zeroCells119 119)) w.heap.size 65 [] := by
  refine ⟨by simp, fun t ht => ?_, fun j hj => by simp at hj⟩
  have e : Tryd.zeroCells119 = Array.replicate 65 (.int .u8 0) := by kernel_rfl
  refine ⟨⟨.int .u8 0, ?_⟩, World.frozen?_alloc_new _ _ _ _⟩
  rw [World.cell?_alloc_new, e, Array.getElem?_replicate, if_pos ht]
def digS : ByteArray := ⟨#[48, 49, 50, 51, 52, 53, 54, 55, 56, 57, 97, 98, 99, 100, 101, 102, 103, 104, 105, 106, 107, 108, 109, 110, 111, 112, 113, 114, 115, 116, 117, 118, 119, 120, 121, 122]⟩
theorem dig_fin : ∀ p : Fin 16, digS.data.toList.getD p.val 0 = hxB p.val := by decide +kernel
theorem idx_dig (w : World) (z : Int) (i : Nat) (hz : z = (i : Int)) (hi : i < 16) : (Instr.index 9 (.string digS) (.int .u64 z)).run Tryd.prog w = .ok (.int .u8 ((hxB i).toNat : Int)) w := by
  subst hz
  have hsz : digS.size = 36 := by decide
  rw [run_index_string w 9 digS .u64 _ Tryd.underlying9, dif_pos ⟨by omega, by rw [hsz]; omega⟩]
  have e : ((i : Int)).toNat = i := by omega
  simp only [e]
  rw [Lib.getD_at digS i (by rw [hsz]; omega), dig_fin ⟨i, hi⟩]
theorem idx_lit (w : World) (z : Int) (i : Nat) (hz : z = (i : Int)) (hi : i < 16) : (Instr.index 9 (.string ⟨#[48, 49, 50, 51, 52, 53, 54, 55, 56, 57, 97, 98, 99, 100, 101, 102, 103, 104, 105, 106, 107, 108, 109, 110, 111, 112, 113, 114, 115, 116, 117, 118, 119, 120, 121, 122]⟩) (.int .u64 z)).run Tryd.prog w = .ok (.int .u8 ((hxB i).toNat : Int)) w := idx_dig w z i hz hi
theorem and_15_u (n : Int) : bits .and .u64 n 15 = n % 16 := by
  have h127 : (BitVec.ofInt 64 15).toNat = 2 ^ 4 - 1 := by decide
  have key : (BitVec.ofInt 64 n &&& BitVec.ofInt 64 15).toNat = (n % ((2 ^ 64 : Nat) : Int)).toNat % 2 ^ 4 := by
    rw [BitVec.toNat_and, BitVec.toNat_ofInt, h127, Nat.and_two_pow_sub_one_eq_mod]
  show IntKind.u64.wrap ((BitVec.ofInt 64 n &&& BitVec.ofInt 64 15).toNat : Nat) = n % 16
  rw [key, IntKind.wrap_u64]
  omega
theorem arr_slice (b m : Nat) (hm : m < 65) (W : World) : (Instr.sliceAt 119 (.pointer (some ⟨b, 0, none⟩)) (some (.int .i64 (m : Int))) none none).run Tryd.prog W = .ok (.slice (some ⟨b, m, none⟩) (65 - m) (65 - m)) W := by
  have hal : Tryd.prog.arrayLen 119 = 65 := by simp [Program.arrayLen, Tryd.underlying119]
  rw [run_sliceAt_array_l W 119 ⟨b, 0, none⟩ (by simp [Program.arrayLen, Program.elem, Tryd.underlying119]) .i64 (m : Int) (by omega) (by rw [hal]; omega)]
  go_simp
  omega
theorem arr_string (w : World) (b i : Nat) (ds : List UInt8) (h : Arr65 w b i ds) (c : Nat) (n : Nat) (hn : n = ds.length) : (convert 46 9 (.slice (some ⟨b, i, none⟩) n c)).run Tryd.prog w = .ok (.string ⟨ds.toArray⟩) w := by
  subst hn
  exact run_convert_bytes_back (P := Tryd.prog) w 46 9 5 ⟨b, i, none⟩ c ds Tryd.underlying46 Tryd.underlying5 Tryd.underlying9 (fun j hj => by rw [Lib.add_plain]; exact h.2.2 j hj)
set_option maxRecDepth 100000 in
set_option maxHeartbeats 2000000 in
theorem fBits (U : Nat) (w : World) (hU : U < 18446744073709551616) (hT : TabZ w) :
    Calls Tryd.prog 77 #[.slice none 0 0, .int .u64 U, .int .i64 16, .bool false, .bool false] w fun e w' => e = .returned (.tuple #[.slice none 0 0, .string ⟨(hxD U).toArray⟩]) ∧ Below w.heap.size w w' := by
  have HT : Hid (TabZ w) := hT
  clear hT
  go_enter Tryd.func77, Tryd.ntmps77
  go_wp2_with (first | (go_at_call 94; refine (fTz16 _ (HT.out.below ((Below.refl _ _).alloc (Nat.le_refl _) _))).mono ?_; rintro e w' ⟨rfl, rfl⟩) | (go_at_call 93; go_in))
  go_loopw [1, 13] (fun vu vi wr => ∃ (u i : Nat) (ds : List UInt8), vu = .int .u64 (u : Int) ∧ vi = .int .i64 (i : Int) ∧ u < 18446744073709551616 ∧ i ≤ 65 ∧ ds.length + i = 65 ∧ Hid (hxD U = hxD u ++ ds) ∧ Hid (Arr65 wr w.heap.size i ds) ∧ Hid (Below w.heap.size w wr)) (fun vu _ _ => (intOf vu).toNat)
  case atStart => exact ⟨U, 65, [], rfl, rfl, hU, Nat.le_refl _, rfl, (List.append_nil _).symm, arr_made w, (Below.refl _ _).alloc (Nat.le_refl _) _⟩
  case round =>
    obtain ⟨u, i, ds, rfl, rfl, hu, hi, hl, HD, HA, HB⟩ := hrel
    have hlen : (hxD u).length + ds.length ≤ 16 := by
      have := congrArg List.length HD.out
      rw [List.length_append] at this
      have h2 := hxD_len64 U hU
      omega
    have hp := hxD_pos u
    obtain ⟨m, rfl⟩ : ∃ m, i = m + 1 := ⟨i - 1, by omega⟩
    have hm : m < 65 := by omega
    have hm1 : (m : Int) < 65 := by omega
    have hcf := HA.out.2.1 m hm
    obtain ⟨⟨cv, hcv⟩, hfv⟩ := hcf
    have hms : ((m + 1 : Nat) : Int) - 1 = (m : Int) := by omega
    by_cases h16 : u < 16
    · have h16' : ¬ (16 : Int) ≤ (u : Int) := by omega
      have hX := fun w => idx_lit w (u : Int) u rfl h16
      have E : Hid (hxD U = hxB u :: ds) := by show _ = _; rw [HD.out, hxD_small u h16]; rfl
      clear HD
      have hsl := arr_slice w.heap.size m hm
      have HP := HA.out.push hm (hxB u)
      have hcv' := fun c => arr_string _ _ _ _ HP c (65 - m) (by simp; omega)
      go_wp2
      go_ret2
      exact ⟨by rw [E.out]; rfl, HB.out.setCell (p := ⟨w.heap.size, m, none⟩) (Nat.le_refl _) _⟩
    · have h16' : (16 : Int) ≤ (u : Int) := by omega
      have hX := fun w => idx_lit w ((u : Int) % 16) (u % 16) (by omega) (Nat.mod_lt _ (by decide))
      have ha : bits .and .u64 (u : Int) 15 = (u : Int) % 16 := and_15_u _
      go_wp2
      go_roundw
      case rel =>
        refine ⟨u / 16, m, hxB (u % 16) :: ds, by go_num, by go_num, by omega, by omega, by simp; omega, ?_, HA.out.push hm _, HB.out.setCell (p := ⟨w.heap.size, m, none⟩) (Nat.le_refl _) _⟩
        show _ = _
        rw [HD.out, hxD_big u h16, List.append_assoc]
        rfl
      case measure => simp [intOf] <;> omega
set_option maxRecDepth 100000 in
set_option maxHeartbeats 2000000 in
theorem fFormat16 (U : Nat) (w : World) (hU : U < 18446744073709551616) (hT : TabZ w) :
    Calls Tryd.prog 43 #[.int .u64 U, .int .i64 16] w fun e w' => e = .returned (.string ⟨(hxD U).toArray⟩) ∧ Below w.heap.size w w' := by
  go_enter Tryd.func43, Tryd.ntmps43
  go_wp2_with (first | (go_at_call 60; go_in) | (go_at_call 77; refine (fBits U _ hU hT).mono ?_; rintro e w1 ⟨rfl, hb1⟩))
  go_ret
  exact ⟨rfl, hb1⟩
end Go.Proofs.YtaamonmkfgonmaaDoor
