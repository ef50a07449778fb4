/-
  What read and Parse of package hex return at any short text. Conditions: two tables and two errors of Go's library are as they are laid.
-/
import Derived.Test.YtaamonmkfgonmaaDoorHexY
import Derived.Stop.LaidErr
namespace Go.Proofs.YtaamonmkfgonmaaDoor
open Go.RowKit
set_option linter.unusedVariables false
set_option linter.unusedSimpArgs false

theorem sign_rng (c : Int) (g0 : 0 ≤ c) (g1 : c < 18446744073709551616) : 0 ≤ (9218868437227405312 : Int) % 9223372036854775808 + c / 9223372036854775808 * 9223372036854775808 ∧ (9218868437227405312 : Int) % 9223372036854775808 + c / 9223372036854775808 * 9223372036854775808 < 18446744073709551616 := by omega
set_option maxRecDepth 100000 in
set_option maxHeartbeats 4000000 in
theorem hReadAny (S : ByteArray) (w : World) (hS : S.size ≤ 1000) (hE : ErrVars w) :
    Calls Tryd.prog 25 #[.string S] w fun e w' => AnyPat e ∧ Below w.heap.size w w' := by
  have HE := Lib.hid hE
  obtain ⟨sg, hsg⟩ : ∃ b, Lib.hasPrefix S.data.toList [45] = b := ⟨_, rfl⟩
  obtain ⟨Z, eZ, zZ, lZ, dZ⟩ := str_ob (Lib.trimPrefix S.data.toList [45])
  have z1 : Z.size ≤ 1000 := by
    rw [zZ]
    have := Lib.trimPrefix_le S.data.toList [45]
    rw [← Lib.size_eq S] at this
    omega
  have C1 := Lib.hid eZ
  have C2 := Lib.hid hsg
  have HSG := Lib.hid (hSignOf sg)
  have VB : Hid (0 ≤ (if sg then (9223372036854775808 : Int) else 0) ∧ (if sg then (9223372036854775808 : Int) else 0) < 18446744073709551616) := by show _ ∧ _; cases sg <;> decide
  obtain ⟨vs, hvs⟩ : ∃ v : Int, (if sg then (9223372036854775808 : Int) else 0) = v := ⟨_, rfl⟩
  rw [hvs] at HSG VB
  have PB := Lib.hid (sign_rng vs VB.out.1 VB.out.2)
  clear hE hsg eZ zZ lZ dZ hvs
  obtain ⟨b1, hb1⟩ : ∃ b, (S.toList == [110, 97, 110]) = b := ⟨_, rfl⟩
  obtain ⟨b2, hb2⟩ : ∃ b, (Z.toList == [105, 110, 102]) = b := ⟨_, rfl⟩
  obtain ⟨b3, hb3⟩ : ∃ b, (Z.toList == [48]) = b := ⟨_, rfl⟩
  cases b1 with
  | true =>
    go_enter Tryd.func25, Tryd.ntmps25
    go_wp2
    go_ret2
    exact ⟨⟨_, _, rfl, by decide, by decide⟩, Below.refl _ _⟩
  | false =>
    cases b2 with
    | true =>
      go_enter Tryd.func25, Tryd.ntmps25
      go_wp2_with (first | (go_at_call 44; refine (cut_same _ _ _).mono ?_; rintro e w' ⟨rfl, rfl⟩; rw [show (⟨#[45]⟩ : ByteArray).data.toList = [45] from rfl, C1.out, C2.out]) | (go_at_call 46; refine (HSG.out _).mono ?_; rintro e w' ⟨rfl, rfl⟩) | (go_at_call 45; refine (sign_same _ _ _ (by decide) (by decide) VB.out.1 VB.out.2).mono ?_; rintro e w' ⟨rfl, rfl⟩))
      go_ret2
      exact ⟨⟨_, _, rfl, PB.out.1, PB.out.2⟩, Below.refl _ _⟩
    | false =>
      cases b3 with
      | true =>
        go_enter Tryd.func25, Tryd.ntmps25
        go_wp2_with (first | (go_at_call 44; refine (cut_same _ _ _).mono ?_; rintro e w' ⟨rfl, rfl⟩; rw [show (⟨#[45]⟩ : ByteArray).data.toList = [45] from rfl, C1.out, C2.out]) | (go_at_call 46; refine (HSG.out _).mono ?_; rintro e w' ⟨rfl, rfl⟩))
        go_ret2
        exact ⟨⟨_, _, rfl, VB.out.1, VB.out.2⟩, Below.refl _ _⟩
      | false =>
        go_enter Tryd.func25, Tryd.ntmps25
        go_wp2_with (first | (go_at_call 44; refine (cut_same _ _ _).mono ?_; rintro e w' ⟨rfl, rfl⟩; rw [show (⟨#[45]⟩ : ByteArray).data.toList = [45] from rfl, C1.out, C2.out]) | (go_at_call 47; refine (hCutAny Z _ z1).mono ?_; rintro e w1 ⟨⟨F, G, f, rfl, f1, g1⟩, hb1⟩; have HE1 := Lib.hid (HE.out.below hb1)))
        refine (atoiAny G _ g1 HE1.out).mono ?_
        rintro e w2 ⟨hc, hb2⟩
        have B2 := Lib.hid (bstep hb1 hb2)
        clear hb1 hb2 HE1
        rcases hc with ⟨v, rfl, v0, v1⟩ | ⟨v, t, p, rfl⟩
        · go_wp2_with fail
          refine (hWholeAny F _).mono ?_
          rintro e w3 ⟨⟨x, ok, rfl, x0, x1⟩, hb3⟩
          have B3 := Lib.hid (bstep B2.out hb3)
          clear hb3
          cases ok with
          | false =>
            go_wp2
            go_ret2
            exact ⟨⟨_, _, rfl, by decide, by decide⟩, B3.out⟩
          | true =>
            go_wp2_with fail
            refine (hBuildAny sg x v _ x0 x1 v0 v1).mono ?_
            rintro e w4 ⟨⟨y, o2, rfl, y0, y1⟩, rfl⟩
            go_wp2
            go_ret2
            exact ⟨⟨_, _, rfl, y0, y1⟩, B3.out⟩
        · go_wp2_with fail
          refine (hWholeAny F _).mono ?_
          rintro e w3 ⟨⟨x, ok, rfl, x0, x1⟩, hb3⟩
          have B3 := Lib.hid (bstep B2.out hb3)
          clear hb3
          go_wp2
          go_ret2
          exact ⟨⟨_, _, rfl, by decide, by decide⟩, B3.out⟩
set_option maxRecDepth 100000 in
set_option maxHeartbeats 4000000 in
/-- Parse at any text: what has it as its text, or nothing. -/
theorem hParseAny (S : ByteArray) (w : World) (hS : S.size ≤ 1000) (hT : Tabs w) (hE : ErrVars w) :
    Calls Tryd.prog 11 #[.string S] w fun e w' => (e = .returned (.tuple #[.int .u64 0, .int .i64 2]) ∨ ∃ v : Int, e = .returned (.tuple #[.int .u64 v, .int .i64 0]) ∧ 0 ≤ v ∧ v < 18446744073709551616 ∧ txt v = S.toList) ∧ Below w.heap.size w w' := by
  have HT := Lib.hid hT
  have HE := Lib.hid hE
  clear hT hE
  go_enter Tryd.func11, Tryd.ntmps11
  go_wp2_with fail
  refine (hReadAny S _ hS HE.out).mono ?_
  rintro e w1 ⟨⟨v, ok, rfl, v0, v1⟩, hb1⟩
  have HT1 := Lib.hid (HT.out.below hb1)
  have B1 := Lib.hid hb1
  clear hb1
  cases ok with
  | false =>
    go_wp2
    go_ret2
    exact ⟨.inl rfl, B1.out⟩
  | true =>
    obtain ⟨T, eT, zT, lT, dT⟩ := str_ob (txt v)
    have ET := Lib.hid eT
    go_wp2_with fail
    refine (hText _ _ v0 v1 HT1.out).mono ?_
    rintro e w2 ⟨rfl, hb2⟩
    rw [ET.out]
    have B2 := Lib.hid (bstep B1.out hb2)
    clear hb2 eT zT dT
    by_cases h : txt v = S.toList
    · have N : (T.toList == S.toList) = true := by rw [lT, h, beq_self_eq_true]
      have H := Lib.hid h
      clear lT h
      go_wp2
      go_ret2
      exact ⟨.inr ⟨v, rfl, v0, v1, H.out⟩, B2.out⟩
    · have N : (T.toList == S.toList) = false := by rw [lT, beq_eq_false_iff_ne]; exact h
      clear lT h
      go_wp2
      go_ret2
      exact ⟨.inl rfl, B2.out⟩
theorem star_eq : "*" ++ "errors.errorString" = "*errors.errorString" := by decide
theorem errvar_any {n : String} {text : List UInt8} {r : List (String × DataW Unit)} {W : World} {g : Nat} (hg : Tryd.prog.globalNamed n = some g) (ht : (Tryd.prog.globals[g]?).map (·.type) = some 51) (h : laidMet Tryd.prog ((n, .iface "*errors.errorString" (.ptr (.agg [.lit (.string text)]))) :: r) W) : ∃ tp p, W.var? Tryd.prog n = some #[.iface tp p] := by
  obtain ⟨a0, s0, hv0, -, -, -⟩ := laid_sentinel h hg ht Tryd.underlying51 (tp := 135) (fun u hu => typeName_ptr_named (nm := "errors.errorString") (by rw [star_eq]; kernel_rfl) (by kernel_rfl) (by decide) u (by rw [star_eq]; exact hu)) Tryd.underlying135 Tryd.underlying137 rfl rfl Tryd.underlying9 (by kernel_rfl) (by kernel_rfl)
  exact ⟨_, _, hv0⟩
end Go.Proofs.YtaamonmkfgonmaaDoor
