/-
  What readWhole, strings.Cut at a p, strconv.Atoi and build return at anything: something. Conditions: the texts are short; the errors of strconv are as they are laid.
-/
import Derived.Test.YtaamonmkfgonmaaDoorHexX
import Derived.Laws.RangeAny
namespace Go.Proofs.YtaamonmkfgonmaaDoor
open Go.RowKit
set_option linter.unusedVariables false
set_option linter.unusedSimpArgs false

theorem dec_valid (s : ByteArray) (pos : Nat) : Utf8.valid ((Utf8.decode s pos).1 : Int) = true ∧ (Utf8.decode s pos).1 ≤ 1114111 := by
  have hb : ∀ k, (s.get! (pos + k)).toNat < 256 := fun k => (s.get! (pos + k)).toNat_lt
  have h0 := hb 0; have h1 := hb 1; have h2 := hb 2; have h3 := hb 3
  simp only [Utf8.decode]
  repeat' split
  all_goals simp_all [Utf8.runeError, Utf8.valid]
  all_goals omega
theorem ix_rng (l : List UInt8) (c : UInt8) : -1 ≤ Lib.indexByte l c ∧ Lib.indexByte l c < (l.length : Int) := by
  induction l with
  | nil => simp [Lib.indexByte]
  | cons x l ih =>
    unfold Lib.indexByte
    split
    · simp <;> omega
    · split
      · simp
        omega
      · simp
        omega
theorem or_rng (a b : Int) : 0 ≤ bits .or .u64 a b ∧ bits .or .u64 a b < 18446744073709551616 := by
  show 0 ≤ IntKind.u64.wrap ((BitVec.ofInt 64 a ||| BitVec.ofInt 64 b).toNat : Nat) ∧ IntKind.u64.wrap ((BitVec.ofInt 64 a ||| BitVec.ofInt 64 b).toNat : Nat) < 18446744073709551616
  rw [IntKind.wrap_u64]
  omega
/-- A pattern and a bool. -/
def AnyPat (e : Ending) : Prop := ∃ (v : Int) (ok : Bool), e = .returned (.tuple #[.int .u64 v, .bool ok]) ∧ 0 ≤ v ∧ v < 18446744073709551616
set_option maxRecDepth 100000 in
set_option maxHeartbeats 4000000 in
theorem hWholeAny (s : ByteArray) (w : World) :
    Calls Tryd.prog 49 #[.string s] w fun e w' => AnyPat e ∧ Below w.heap.size w w' := by
  go_enter Tryd.func49, Tryd.ntmps49
  go_wp2
  go_loopw [4] (fun v wr => ∃ (pos : Nat) (V : Int), v = .int .u64 V ∧ 0 ≤ V ∧ V < 18446744073709551616 ∧ wr.heap[w.heap.size]? = some (.stringIter s pos) ∧ Hid (Below w.heap.size w wr)) (fun _ wr => s.size - wr.iterPos w.heap.size)
  case atStart => exact ⟨0, 0, rfl, by decide, by decide, World.iter_heap w s 0, (Below.refl _ _).alloc (Nat.le_refl _) _⟩
  case round =>
    obtain ⟨pos, V, rfl, V0, V1, hk, HB⟩ := hrel
    have hmu : wr.iterPos w.heap.size = pos := by simp [World.iterPos, hk]
    by_cases hp : pos < s.size
    · have hnext : ∀ ty, (Instr.next (.pointer (some ⟨w.heap.size, 0, none⟩)) true ty).run Tryd.prog wr = .ok (.tuple #[.bool true, .int .i64 pos, .int .i32 ((Utf8.decode s pos).1 : Int)]) (wr.iterAt w.heap.size s (pos + (Utf8.decode s pos).2)) := fun ty => Lib.run_next_any_at wr w.heap.size s pos ty hk hp
      obtain ⟨hv, hmx⟩ := dec_valid s pos
      have hcase : ((Utf8.decode s pos).1 < 128 ∨ 128 ≤ (Utf8.decode s pos).1) ∧ 1 ≤ (Utf8.decode s pos).2 := by
        by_cases ha : (s[pos]'hp).toNat < 128
        · rw [decode_ascii s pos hp ha]; exact ⟨.inl ha, Nat.le_refl _⟩
        · have := decode_high s pos hp (by omega); exact ⟨.inr this.1, this.2⟩
      obtain ⟨hcase, hw1⟩ := hcase
      obtain ⟨np, hnp⟩ : ∃ n, pos + (Utf8.decode s pos).2 = n := ⟨_, rfl⟩
      have hnp' : pos < np := by omega
      rw [hnp] at hnext
      obtain ⟨r, hr⟩ : ∃ r : Int, ((Utf8.decode s pos).1 : Int) = r := ⟨_, rfl⟩
      rw [hr] at hnext hv
      have r0 : 0 ≤ r := by omega
      have r1 : r ≤ 1114111 := by omega
      have hcase' : r < 128 ∨ 128 ≤ r := by omega
      have hk1 := Lib.iterAt_heap wr w.heap.size s pos np hk
      have hnx1 : Below w.heap.size w (wr.iterAt w.heap.size s np) := Lib.below_iterAt HB.out (by omega) s np
      generalize wr.iterAt w.heap.size s np = W1 at hnext hk1 hnx1
      have HN := Lib.hid hnx1
      clear hcase hnp hr hmx hw1 hnx1
      rcases hcase' with h128 | h128
      · obtain ⟨d, hd⟩ : ∃ d, Lib.indexByte [48, 49, 50, 51, 52, 53, 54, 55, 56, 57, 97, 98, 99, 100, 101, 102] r.toNat.toUInt8 = d := ⟨_, rfl⟩
        have hrg := ix_rng [48, 49, 50, 51, 52, 53, 54, 55, 56, 57, 97, 98, 99, 100, 101, 102] r.toNat.toUInt8
        rw [hd] at hrg
        have d0 : -1 ≤ d := hrg.1
        have d1 : d < 16 := by have := hrg.2; simpa using this
        have IX := Lib.hid hd
        clear hrg hd hv
        by_cases hneg : d < 0
        · go_wp2_with (first | (go_at_call 66; refine (idx_same _ _ _ r0 h128).mono ?_; rintro e w' ⟨rfl, rfl⟩; rw [show (⟨#[48, 49, 50, 51, 52, 53, 54, 55, 56, 57, 97, 98, 99, 100, 101, 102]⟩ : ByteArray).data.toList = [48, 49, 50, 51, 52, 53, 54, 55, 56, 57, 97, 98, 99, 100, 101, 102] from rfl, IX.out]))
          go_ret2
          exact ⟨⟨_, _, rfl, by decide, by decide⟩, HN.out⟩
        · go_wp2_with (first | (go_at_call 66; refine (idx_same _ _ _ r0 h128).mono ?_; rintro e w' ⟨rfl, rfl⟩; rw [show (⟨#[48, 49, 50, 51, 52, 53, 54, 55, 56, 57, 97, 98, 99, 100, 101, 102]⟩ : ByteArray).data.toList = [48, 49, 50, 51, 52, 53, 54, 55, 56, 57, 97, 98, 99, 100, 101, 102] from rfl, IX.out]))
          go_roundw
          case rel => exact ⟨np, _, rfl, (or_rng _ _).1, (or_rng _ _).2, hk1, HN.out⟩
          case measure =>
            have hmu2 : W1.iterPos w.heap.size = np := by simp [World.iterPos, hk1]
            rw [hmu, hmu2]
            omega
      · have I : Hid (Calls Tryd.prog 66 #[.string ⟨#[48, 49, 50, 51, 52, 53, 54, 55, 56, 57, 97, 98, 99, 100, 101, 102]⟩, .int .i32 r] W1 fun e w' => e = .returned (.int .i64 (-1)) ∧ Below W1.heap.size W1 w') := by
          by_cases h : r = 65533
          · subst h; exact hIdxErr W1
          · exact hIdxHigh r W1 h128 r1 hv h
        clear hv
        go_wp2_with (first | (go_at_call 66; refine I.out.mono ?_; rintro e W2 ⟨rfl, hb2⟩))
        go_ret2
        exact ⟨⟨_, _, rfl, by decide, by decide⟩, HN.out.trans (hb2.mono HN.out.size)⟩
    · have hnext : ∀ ty, (Instr.next (.pointer (some ⟨w.heap.size, 0, none⟩)) true ty).run Tryd.prog wr = _ := fun ty => Lib.run_next_end_at wr w.heap.size s pos ty hk hp
      go_wp2
      go_ret2
      exact ⟨⟨_, _, rfl, V0, V1⟩, HB.out⟩
set_option maxRecDepth 100000 in
set_option maxHeartbeats 4000000 in
theorem hCutAny0 (s : ByteArray) (w : World) (hs : s.size ≤ 1000) :
    Calls Tryd.prog 63 #[.string s, .string ⟨#[112]⟩] w fun e w' => (∃ F G f, e = .returned (.tuple #[.string F, .string G, .bool f]) ∧ F.size ≤ 1000 ∧ G.size ≤ 1000) ∧ Below w.heap.size w w' := by
  obtain ⟨i, hi⟩ : ∃ i, Lib.indexByte s.data.toList 112 = i := ⟨_, rfl⟩
  have rg := ix_rng s.data.toList 112
  rw [hi] at rg
  have IX := Lib.hid hi
  have i0 : -1 ≤ i := rg.1
  have i1 : i < (s.size : Int) := by have := rg.2; rw [← Lib.size_eq s] at this; exact this
  clear hi rg
  by_cases hn : i < 0
  · have hn' : ¬ 0 ≤ i := by omega
    go_enter Tryd.func63, Tryd.ntmps63
    go_wp2_with (first | (go_at_call 79; refine (index_same s 112 _).mono ?_; rintro e w' ⟨rfl, rfl⟩; rw [IX.out]))
    go_ret3
    exact ⟨⟨_, _, _, rfl, hs, by decide⟩, Below.refl _ _⟩
  · obtain ⟨n, rfl⟩ : ∃ n : Nat, i = (n : Int) := ⟨i.toNat, by omega⟩
    have n0 : (n : Int) + 1 ≤ (s.size : Int) := by omega
    have n1 : (n : Int) ≤ (s.size : Int) := by omega
    have n2 : (s.size : Int) ≤ 5000 := by omega
    have z1 : (s.extract 0 n).size ≤ 1000 := by simp [ByteArray.size_extract]; omega
    have z2 : (s.extract (n + 1) s.size).size ≤ 1000 := by simp [ByteArray.size_extract]; omega
    have Z1 := Lib.hid z1
    have Z2 := Lib.hid z2
    clear z1 z2 hn
    go_enter Tryd.func63, Tryd.ntmps63
    go_wp2_with (first | (go_at_call 79; refine (index_same s 112 _).mono ?_; rintro e w' ⟨rfl, rfl⟩; rw [IX.out]))
    go_region
    go_wp2
    go_ret3
    exact ⟨⟨_, _, _, rfl, Z1.out, Z2.out⟩, (Below.refl _ _).drew⟩
set_option maxRecDepth 100000 in
set_option maxHeartbeats 4000000 in
theorem hCutAny (s : ByteArray) (w : World) (hs : s.size ≤ 1000) :
    Calls Tryd.prog 47 #[.string s, .string ⟨#[112]⟩] w fun e w' => (∃ F G f, e = .returned (.tuple #[.string F, .string G, .bool f]) ∧ F.size ≤ 1000 ∧ G.size ≤ 1000) ∧ Below w.heap.size w w' := by
  go_enter Tryd.func47, Tryd.ntmps47
  go_wp2_with (first | (go_at_call 63; refine (hCutAny0 s _ hs).mono ?_; rintro e w1 ⟨⟨F, G, f, rfl, z1, z2⟩, hb1⟩; have Z1 := Lib.hid z1; have Z2 := Lib.hid z2; clear z1 z2))
  go_ret3
  exact ⟨⟨_, _, _, rfl, Z1.out, Z2.out⟩, hb1⟩
/-- The errors of strconv are values of an interface. -/
def ErrVars (w : World) : Prop := (∃ tp p, w.var? Tryd.prog "strconv.ErrSyntax" = some #[.iface tp p]) ∧ (∃ tp p, w.var? Tryd.prog "strconv.ErrRange" = some #[.iface tp p])
theorem var_keep {w w' : World} {n : String} {x : Array Value} (h : w.var? Tryd.prog n = some x) (hb : Below w.heap.size w w') : w'.var? Tryd.prog n = some x := by
  unfold World.var? at *
  cases hg : Tryd.prog.globalNamed n with
  | none => simp [hg] at h
  | some g =>
    simp only [hg, Option.bind_some] at h ⊢
    have hlt : g < w.heap.size := by
      rcases Nat.lt_or_ge g w.heap.size with h' | h'
      · exact h'
      · rw [Array.getElem?_eq_none h'] at h; simp at h
    rw [hb.block g hlt]
    exact h
theorem ErrVars.below {w w' : World} (h : ErrVars w) (hb : Below w.heap.size w w') : ErrVars w' := by
  obtain ⟨⟨t, p, h1⟩, ⟨u, q, h2⟩⟩ := h
  exact ⟨⟨t, p, var_keep h1 hb⟩, ⟨u, q, var_keep h2 hb⟩⟩
theorem atoiAny (s : ByteArray) (w : World) (hs : s.size ≤ 1000) (hE : ErrVars w) :
    Calls Tryd.prog 48 #[.string s] w fun e w' => ((∃ v : Int, e = .returned (.tuple #[.int .i64 v, .nilIface]) ∧ -9223372036854775808 ≤ v ∧ v ≤ 9223372036854775807) ∨ (∃ (v : Int) (t : TypeId) (p : Value), e = .returned (.tuple #[.int .i64 v, .iface t p]))) ∧ Below w.heap.size w w' := by
  obtain ⟨⟨t, p, h1⟩, ⟨u, q, h2⟩⟩ := hE
  cases h : Lib.atoiAll s.data.toList with
  | ok v => exact (atoi_below s v w (by omega) h).mono fun e w' ⟨a, b⟩ => ⟨.inl ⟨v, a, Lib.atoiAll_bounds h⟩, b⟩
  | «syntax» => exact (Tryd.strconv_Atoi_syntax_var s (by omega) h t p w h1).mono fun e w' ⟨N, a, _, _, b⟩ => ⟨.inr ⟨_, _, _, a⟩, b⟩
  | range => exact (Tryd.strconv_Atoi_range_var s (by omega) h u q w h2).mono fun e w' ⟨N, a, _, _, b⟩ => ⟨.inr ⟨_, _, _, a⟩, b⟩
set_option maxRecDepth 100000 in
set_option maxHeartbeats 4000000 in
theorem hBuildAny (n : Bool) (x e : Int) (w : World) (x0 : 0 ≤ x) (x1 : x < 18446744073709551616) (e0 : -9223372036854775808 ≤ e) (e1 : e ≤ 9223372036854775807) :
    Calls Tryd.prog 50 #[.bool n, .int .u64 x, .int .i64 e] w fun r w' => AnyPat r ∧ w = w' := by
  by_cases hr : e < -1074 ∨ 1023 < e
  · by_cases h1 : e < -1074
    · go_enter Tryd.func50, Tryd.ntmps50
      go_wp2
      go_ret2
      exact ⟨⟨_, _, rfl, by decide, by decide⟩, rfl⟩
    · have h2 : 1023 < e := by omega
      go_enter Tryd.func50, Tryd.ntmps50
      go_wp2
      go_ret2
      exact ⟨⟨_, _, rfl, by decide, by decide⟩, rfl⟩
  · have a0 : -1074 ≤ e := by omega
    have a1 : e ≤ 1023 := by omega
    obtain ⟨ln, hln⟩ : ∃ l, Lib.bitLen x.toNat = l := ⟨_, rfl⟩
    have LN := Lib.hid hln
    have l64 : ln ≤ 64 := by rw [← hln]; exact bitLen_le 64 x.toNat (by decide) (by omega)
    obtain ⟨sh, hsh⟩ : ∃ z, min (53 - (ln : Int)) (e + 1074) = z := ⟨_, rfl⟩
    have s0 : sh ≤ 53 := by omega
    have s1 : -11 ≤ sh := by omega
    have s2 : sh ≤ e + 1074 := by omega
    clear hr hln
    by_cases hneg : sh < 0
    · go_enter Tryd.func50, Tryd.ntmps50
      go_wp2_with (first | (go_at_call 67; refine (len_same _ _ (by omega) (by omega)).mono ?_; rintro e w' ⟨rfl, rfl⟩; rw [LN.out]))
      go_ret2
      exact ⟨⟨_, _, rfl, by decide, by decide⟩, rfl⟩
    · obtain ⟨k, rfl⟩ : ∃ k : Nat, sh = (k : Int) := ⟨sh.toNat, by omega⟩
      obtain ⟨X, hX⟩ : ∃ X, IntKind.u64.wrap (x * 2 ^ k) = X := ⟨_, rfl⟩
      have X0 : 0 ≤ X := by rw [← hX, IntKind.wrap_u64]; omega
      have X1 : X < 18446744073709551616 := by rw [← hX, IntKind.wrap_u64]; omega
      by_cases h52 : X / 4503599627370496 = 0
      · have h52' : (X / 4503599627370496 == 0) = true := by rw [h52]; rfl
        have BD := Lib.hid (wMake_bd n 0 X)
        go_enter Tryd.func50, Tryd.ntmps50
        go_wp2_with (first | (go_at_call 67; refine (len_same _ _ (by omega) (by omega)).mono ?_; rintro e w' ⟨rfl, rfl⟩; rw [LN.out]) | (go_at_call 62; refine (make_same _ _ _ _ X0 X1).mono ?_; rintro e w' ⟨rfl, rfl⟩))
        go_ret2
        exact ⟨⟨_, _, rfl, BD.out.1, BD.out.2⟩, rfl⟩
      · have h52' : (X / 4503599627370496 == 0) = false := by rw [beq_eq_false_iff_ne]; exact h52
        have BD := Lib.hid (fun y => wMake_bd n y X)
        go_enter Tryd.func50, Tryd.ntmps50
        go_wp2_with (first | (go_at_call 67; refine (len_same _ _ (by omega) (by omega)).mono ?_; rintro e w' ⟨rfl, rfl⟩; rw [LN.out]) | (go_at_call 62; refine (make_same _ _ _ _ X0 X1).mono ?_; rintro e w' ⟨rfl, rfl⟩))
        go_ret2
        exact ⟨⟨_, _, rfl, (BD.out _).1, (BD.out _).2⟩, rfl⟩
end Go.Proofs.YtaamonmkfgonmaaDoor
