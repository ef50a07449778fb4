/-
  What the readers of package hex return at the text of a pattern: signOf, build, readWhole, strings.Cut. Conditions: as stated.
-/
import Derived.Test.YtaamonmkfgonmaaDoorHexL
import Derived.Lib.OthersKept
import Derived.Lib.AtoiErrMem
namespace Go.Proofs.YtaamonmkfgonmaaDoor
open Go.RowKit
set_option linter.unusedVariables false
set_option linter.unusedSimpArgs false

theorem make_same (n : Bool) (x b : Int) (w : World) (h0 : 0 ≤ b) (h1 : b < 18446744073709551616) : Calls Tryd.prog 62 #[.bool n, .int .i64 x, .int .u64 b] w fun e w' => e = .returned (.int .u64 (wMake n x b)) ∧ w = w' := (make_any n x b w h0 h1).mono fun e w' ⟨p, q⟩ => ⟨p, q.symm⟩
theorem hSignOf (n : Bool) (w : World) : Calls Tryd.prog 46 #[.bool n] w fun e w' => e = .returned (.int .u64 (if n then 9223372036854775808 else 0)) ∧ w = w' := by
  obtain ⟨v, hv⟩ : ∃ v : Int, (if n then 9223372036854775808 else 0) = v := ⟨_, rfl⟩
  have E : Hid (wMake n 0 0 = v) := by show _ = _; rw [← hv]; cases n <;> rfl
  rw [hv]
  clear hv
  go_enter Tryd.func46, Tryd.ntmps46
  go_wp2_with (first | (go_at_call 62; refine (make_same _ _ _ _ (by decide) (by decide)).mono ?_; rintro e w' ⟨rfl, rfl⟩; rw [E.out]))
  go_ret
  exact ⟨rfl, rfl⟩
theorem bitLen_le : ∀ (k x : Nat), k ≤ 64 → x < 2 ^ k → Lib.bitLen x ≤ k
  | 0, x, _, h => by
    obtain rfl : x = 0 := by simpa using h
    decide
  | k + 1, x, hk, h => by
    by_cases h0 : x = 0
    · subst h0; exact Nat.le_trans (by decide : Lib.bitLen 0 ≤ 0) (Nat.zero_le _)
    · have h64 : x < 2 ^ 64 := Nat.lt_of_lt_of_le h (Nat.pow_le_pow_right (by decide) hk)
      rw [Lib.bitLen_half x h0 h64]
      have := bitLen_le k (x / 2) (by omega) (by rw [Nat.pow_succ] at h; omega)
      omega
theorem bitLen_53 (M : Nat) (h0 : 4503599627370496 ≤ M) (h1 : M < 9007199254740992) : Lib.bitLen M = 53 := by
  rw [Lib.bitLen_shift 52 M (by omega) (by omega), show M / 2 ^ 52 = 1 by omega]
  decide
theorem bitLen_part (M z A : Nat) (hA : 0 < A) (h : M = 2 ^ z * A) (h1 : M < 9007199254740992) : Lib.bitLen M = z + Lib.bitLen A := by
  have hz : 2 ^ z ≤ M := by rw [h]; exact Nat.le_mul_of_pos_right _ hA
  rw [Lib.bitLen_shift z M hz (by omega), h, Nat.mul_div_cancel_left _ (Nat.two_pow_pos z)]
theorem len_same (x : Int) (w : World) (h0 : 0 ≤ x) (h1 : x ≤ 18446744073709551615) : Calls Tryd.prog 67 #[.int .u64 x] w fun e w' => e = .returned (.int .i64 (Lib.bitLen x.toNat)) ∧ w = w' := (Tryd.bits_Len64 x w h0 h1).mono fun e w' ⟨p, q⟩ => ⟨p, q.symm⟩
set_option maxRecDepth 100000 in
set_option maxHeartbeats 2000000 in
/-- build at a pattern's whole number without its noughts. -/
theorem hBuild (b : Int) (M z A : Nat) (P : Int) (w : World) (h0 : 0 ≤ b) (h1 : b < 18446744073709551616) (hk : wKind b = 2 ∨ wKind b = 3) (hM : wMant b = (M : Int)) (hP : wPow b = P) (hA : 0 < A) (hMA : M = 2 ^ z * A) :
    Calls Tryd.prog 50 #[.bool (decide (9223372036854775808 ≤ b)), .int .u64 A, .int .i64 (P + (z : Int))] w fun e w' => e = .returned (.tuple #[.int .u64 b, .bool true]) ∧ w = w' := by
  have KF := kind_facts b h0 h1
  rw [hM, hP] at KF
  have hM1 : M < 9007199254740992 := by omega
  have hAM : A ≤ M := by rw [hMA]; exact Nat.le_mul_of_pos_left _ (Nat.two_pow_pos z)
  have L := bitLen_part M z A hA hMA hM1
  obtain ⟨ln, hln⟩ : ∃ l, Lib.bitLen A = l := ⟨_, rfl⟩
  rw [hln] at L
  have hz60 : z ≤ 52 := by
    rcases Nat.lt_or_ge z 53 with h | h
    · omega
    · exfalso
      have h2 : 2 ^ 53 ≤ 2 ^ z := Nat.pow_le_pow_right (by decide) h
      have h3 : 2 ^ z * 1 ≤ 2 ^ z * A := Nat.mul_le_mul_left _ hA
      omega
  have hsh : (A : Int) * 2 ^ z = (M : Int) := by rw [hMA, Nat.mul_comm]; push_cast; rfl
  have hshw : IntKind.u64.wrap ((A : Int) * 2 ^ z) = (M : Int) := by rw [hsh, IntKind.wrap_u64]; omega
  have LA : Hid (Lib.bitLen ((A : Int)).toNat = ln) := by show _ = _; rw [Int.toNat_natCast]; exact hln
  obtain ⟨sg_, hsg⟩ : ∃ s, decide (9223372036854775808 ≤ b) = s := ⟨_, rfl⟩
  have HSG := Lib.hid hsg
  rw [hsg]
  obtain ⟨X, hX⟩ : ∃ X, P + (z : Int) = X := ⟨_, rfl⟩
  rw [hX]
  rcases KF with ⟨k, _⟩ | ⟨k, e0, f0, hm, hp⟩ | ⟨k, e0, e1, hm, hp⟩ | ⟨k, _⟩ | ⟨k, _⟩
  · omega
  · have l52 : Lib.bitLen M ≤ 52 := bitLen_le 52 M (by decide) (by omega)
    have R : Hid (wMake sg_ 0 (M : Int) = b) := by
      show _ = _
      have := HSG.out
      unfold wMake
      cases sg_ <;> simp at this ⊢ <;> omega
    have x0 : -1074 ≤ X := by omega
    have x1 : X ≤ 1023 := by omega
    have hmin : min (53 - (ln : Int)) (X + 1074) = (z : Int) := by omega
    have s52 : (M : Int) / 4503599627370496 = 0 := by omega
    clear hsg L hln l52 hm f0 e0 k hM hP hMA hsh hX hp
    go_enter Tryd.func50, Tryd.ntmps50
    go_wp2_with (first | (go_at_call 67; refine (len_same _ _ (by omega) (by omega)).mono ?_; rintro e w' ⟨rfl, rfl⟩; rw [LA.out]) | (go_at_call 62; refine (make_same _ _ _ _ (by omega) (by omega)).mono ?_; rintro e w' ⟨rfl, rfl⟩; rw [R.out]))
    all_goals go_ret2
    all_goals exact ⟨rfl, rfl⟩
  · have l53 := bitLen_53 M (by omega) hM1
    obtain ⟨E, hE⟩ : ∃ E, b / 4503599627370496 % 2048 = E := ⟨_, rfl⟩
    have R : Hid (wMake sg_ E (M : Int) = b) := by
      show _ = _
      have := HSG.out
      unfold wMake
      cases sg_ <;> simp at this ⊢ <;> omega
    have x0 : -1074 ≤ X := by omega
    have x1 : X ≤ 1023 := by omega
    have hmin : min (53 - (ln : Int)) (X + 1074) = (z : Int) := by omega
    have s52 : (M : Int) / 4503599627370496 = 1 := by omega
    have st : X - (z : Int) + 1075 = E := by omega
    have E2 : E ≤ 2046 := by omega
    have E3 : 0 ≤ E := by omega
    clear hsg L hln l53 hm e0 e1 k hM hP hMA hsh hX hp hE
    go_enter Tryd.func50, Tryd.ntmps50
    go_wp2_with (first | (go_at_call 67; refine (len_same _ _ (by omega) (by omega)).mono ?_; rintro e w' ⟨rfl, rfl⟩; rw [LA.out]) | (go_at_call 62; refine (make_same _ _ _ _ (by omega) (by omega)).mono ?_; rintro e w' ⟨rfl, rfl⟩; rw [R.out]))
    all_goals go_ret2
    all_goals exact ⟨rfl, rfl⟩
  · omega
  · omega
theorem or_low4 (a d : Int) (h0 : 0 ≤ a) (h1 : a < 1152921504606846976) (d0 : 0 ≤ d) (d1 : d < 16) : bits .or .u64 (a * 16) d = a * 16 + d := by
  rw [u64_or _ _ (by omega) (by omega) d0 (by omega)]
  rw [nat_join 4 (a * 16).toNat d.toNat (by omega) (by omega)]
  omega
theorem dix_fin : ∀ d : Fin 16, Lib.indexByte [48, 49, 50, 51, 52, 53, 54, 55, 56, 57, 97, 98, 99, 100, 101, 102] (hxB d.val) = (d.val : Int) ∧ (hxB d.val).toNat < 128 ∧ (((hxB d.val).toNat : Int)).toNat.toUInt8 = hxB d.val := by decide +kernel
/-- Nothing but digits of base 16. -/
def HexL (l : List UInt8) : Prop := ∀ c ∈ l, ∃ d, d < 16 ∧ c = hxB d
theorem hxD_hex (u : Nat) : HexL (hxD u) := by
  induction u using Nat.strongRecOn with
  | _ u ih =>
    by_cases h : u < 16
    · rw [hxD_small u h]
      intro c hc
      rw [List.mem_singleton.1 hc]
      exact ⟨u, h, rfl⟩
    · rw [hxD_big u h]
      intro c hc
      rcases List.mem_append.1 hc with hc | hc
      · exact ih (u / 16) (by omega) c hc
      · rw [List.mem_singleton.1 hc]
        exact ⟨u % 16, Nat.mod_lt _ (by decide), rfl⟩
theorem hval_snoc (l : List UInt8) (c : UInt8) : hval (l ++ [c]) = hval l * 16 + unB c := by
  unfold hval; rw [List.foldl_append]; rfl
theorem hval_lt (l : List UInt8) (h : HexL l) (k : Nat) (hk : k ≤ l.length) : hval (l.take k) < 16 ^ k := by
  induction k with
  | zero => simp [hval]
  | succ k ih =>
    rw [List.take_succ_eq_append_getElem (by omega), hval_snoc]
    have := ih (by omega)
    obtain ⟨d, hd, e⟩ := h _ (List.getElem_mem (l := l) (n := k) (by omega))
    rw [e, unB_hxB d hd, Nat.pow_succ]
    omega
theorem idx_same (s : ByteArray) (r : Int) (w : World) (h0 : 0 ≤ r) (h1 : r < 128) : Calls Tryd.prog 66 #[.string s, .int .i32 r] w fun e w' => e = .returned (.int .i64 (Lib.indexByte s.data.toList r.toNat.toUInt8)) ∧ w = w' := (Tryd.strings_IndexRune_ascii s r w h0 h1).mono fun e w' ⟨p, q⟩ => ⟨p, q.symm⟩
set_option maxRecDepth 100000 in
set_option maxHeartbeats 2000000 in
theorem hWhole (l : List UInt8) (w : World) (hl : HexL l) (hn : l.length ≤ 16) :
    Calls Tryd.prog 49 #[.string ⟨l.toArray⟩] w fun e w' => e = .returned (.tuple #[.int .u64 (hval l), .bool true]) ∧ Below w.heap.size w w' := by
  obtain ⟨s, hs⟩ : ∃ s : ByteArray, ⟨l.toArray⟩ = s := ⟨_, rfl⟩
  have hsz : s.size = l.length := by rw [← hs, size_of_list]
  have hat : ∀ (i : Nat) (h : i < s.size) (hq : i < l.length), s[i]'h = l[i]'hq := by
    intro i h hq
    subst hs
    rw [Lib.getD_at]
    simp [hq]
  have HAT := Lib.hid hat
  have HL := Lib.hid hl
  rw [hs]
  clear hs hl hat
  go_enter Tryd.func49, Tryd.ntmps49
  go_wp2
  go_loopw [4] (fun v wr => ∃ pos : Nat, v = .int .u64 (hval (l.take pos) : Int) ∧ pos ≤ s.size ∧ wr.heap[w.heap.size]? = some (.stringIter s pos) ∧ Hid (Below w.heap.size w wr)) (fun _ wr => s.size - wr.iterPos w.heap.size)
  case atStart => exact ⟨0, by simp [hval], Nat.zero_le _, World.iter_heap w s 0, (Below.refl _ _).alloc (Nat.le_refl _) _⟩
  case round =>
    obtain ⟨pos, rfl, hps, hk, HB⟩ := hrel
    have hmu : wr.iterPos w.heap.size = pos := by simp [World.iterPos, hk]
    by_cases hp : pos < s.size
    · have hpl : pos < l.length := by omega
      obtain ⟨d, hd, ed⟩ := HL.out _ (List.getElem_mem (l := l) (n := pos) hpl)
      have es : s[pos]'hp = hxB d := (HAT.out pos hp hpl).trans ed
      obtain ⟨D1, D2, D3⟩ := dix_fin ⟨d, hd⟩
      simp only at D1 D2 D3
      have hnext : ∀ ty, (Instr.next (.pointer (some ⟨w.heap.size, 0, none⟩)) true ty).run Tryd.prog wr = .ok (.tuple #[.bool true, .int .i64 pos, .int .i32 ((hxB d).toNat : Int)]) (wr.iterAt w.heap.size s (pos + 1)) := fun ty => by
        rw [Lib.run_next_ascii_at wr w.heap.size s pos ty hk hp (by rw [es]; exact D2), es]
      have hk1 := Lib.iterAt_heap wr w.heap.size s pos (pos + 1) hk
      have hnx1 : Below w.heap.size w (wr.iterAt w.heap.size s (pos + 1)) := Lib.below_iterAt HB.out (by omega) s (pos + 1)
      have v0 := hval_lt l HL.out pos (by omega)
      have v1 : hval (l.take (pos + 1)) = hval (l.take pos) * 16 + d := by
        rw [List.take_succ_eq_append_getElem hpl, hval_snoc, ed, unB_hxB d hd]
      have v2 : hval (l.take pos) < 1152921504606846976 := Nat.lt_of_lt_of_le v0 (Nat.le_trans (Nat.pow_le_pow_right (by decide) (show pos ≤ 15 by omega)) (by decide))
      obtain ⟨V, hV⟩ : ∃ V : Int, (hval (l.take pos) : Int) = V := ⟨_, rfl⟩
      have V0 : 0 ≤ V := by omega
      have V1 : V < 1152921504606846976 := by omega
      obtain ⟨dd, hdd⟩ : ∃ x : Int, (d : Int) = x := ⟨_, rfl⟩
      have d0 : 0 ≤ dd := by omega
      have d1 : dd < 16 := by omega
      have OR := or_low4 V dd V0 V1 d0 d1
      have wr1 : IntKind.u64.wrap (V * 16) = V * 16 := by rw [IntKind.wrap_u64]; omega
      have wr2 : IntKind.u64.wrap dd = dd := by rw [IntKind.wrap_u64]; omega
      obtain ⟨rr, hrr⟩ : ∃ x : Int, ((hxB d).toNat : Int) = x := ⟨_, rfl⟩
      have r0 : 0 ≤ rr := by omega
      have r1 : rr < 128 := by omega
      have IX : Hid (Lib.indexByte [48, 49, 50, 51, 52, 53, 54, 55, 56, 57, 97, 98, 99, 100, 101, 102] rr.toNat.toUInt8 = dd) := by
        show _ = _
        rw [← hrr, D3, D1, hdd]
      have VN := Lib.hid v1
      have HV := Lib.hid hV
      have HDD := Lib.hid hdd
      rw [hV]
      rw [hrr] at hnext
      generalize wr.iterAt w.heap.size s (pos + 1) = W1 at hnext hk1 hnx1
      clear v0 v1 v2 hV hdd D1 D2 D3 hrr es ed
      go_wp2_with (first | (go_at_call 66; refine (idx_same _ _ _ r0 r1).mono ?_; rintro e w' ⟨rfl, rfl⟩; rw [show (⟨#[48, 49, 50, 51, 52, 53, 54, 55, 56, 57, 97, 98, 99, 100, 101, 102]⟩ : ByteArray).data.toList = [48, 49, 50, 51, 52, 53, 54, 55, 56, 57, 97, 98, 99, 100, 101, 102] from rfl, IX.out]))
      go_roundw
      case rel =>
        refine ⟨pos + 1, ?_, by omega, hk1, hnx1⟩
        rw [VN.out]
        have := HV.out
        have := HDD.out
        congr 1
        omega
      case measure =>
        have hmu2 : W1.iterPos w.heap.size = pos + 1 := by simp [World.iterPos, hk1]
        rw [hmu, hmu2]
        omega
    · have hnext : ∀ ty, (Instr.next (.pointer (some ⟨w.heap.size, 0, none⟩)) true ty).run Tryd.prog wr = _ := fun ty => Lib.run_next_end_at wr w.heap.size s pos ty hk hp
      have hall : l.take pos = l := List.take_of_length_le (by omega)
      rw [hall]
      go_wp2
      go_ret2
      exact ⟨rfl, HB.out⟩
end Go.Proofs.YtaamonmkfgonmaaDoor
