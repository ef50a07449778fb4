/-
  What Matrix of package hex returns at any short text. Conditions: what is laid of Go's library.
-/
import Derived.Test.YtaamonmkfgonmaaDoorHexW
namespace Go.Proofs.YtaamonmkfgonmaaDoor
open Go.RowKit
set_option linter.unusedVariables false
set_option linter.unusedSimpArgs false

theorem results_tmp4 {fn : Func} {t u v x : Tmp} (h : fn.results = #[.tmp t, .tmp u, .tmp v, .tmp x]) (tmps : Array Value) (P : Program) (w : World) :
    (results fn tmps).run P w = .ok (.tuple #[tmps.getD t undef, tmps.getD u undef, tmps.getD v undef, tmps.getD x undef]) w := by
  simp [results, h]
/-- Nothing, or a matrix that has this text. -/
def MatE (base : Nat) (R0 : List UInt8) (e : Ending) (w' : World) : Prop :=
  e = .returned (.tuple #[.int .i64 0, .int .i64 0, .slice none 0 0, .int .i64 2]) ∨ ∃ (m n : Nat) (v : Value) (vs : List Int), m ≤ 4096 ∧ n ≤ 4096 ∧ e = .returned (.tuple #[.int .i64 m, .int .i64 n, v, .int .i64 0]) ∧ OwnU w' base v vs ∧ vs.length = m * n ∧ (∀ x ∈ vs, 0 ≤ x ∧ x < 18446744073709551616) ∧ R0 = rowsT m n (atL n vs)
set_option maxRecDepth 100000 in
set_option maxHeartbeats 8000000 in
theorem hMatrixAny (R0 : List UInt8) (w : World) (hl : R0.length ≤ 1000) (hT : Tabs w) (hE : ErrVars w) :
    Calls Tryd.prog 19 #[.string ⟨R0.toArray⟩] w fun e w' => MatE w.heap.size R0 e w' ∧ Below w.heap.size w w' := by
  obtain ⟨S, eS⟩ : ∃ S : ByteArray, ⟨R0.toArray⟩ = S := ⟨_, rfl⟩
  obtain ⟨b, hb⟩ : ∃ b, w.heap.size = b := ⟨_, rfl⟩
  have HTE : Hid (∀ W, Below b w W → Tabs W ∧ ErrVars W) := fun W h => ⟨hT.below (hb ▸ h), hE.below (hb ▸ h)⟩
  have S0 : Hid (InS (w.alloc (.cells #[.string S] 9)) w.heap.size R0) := by
    show InS _ _ _
    rw [← eS]
    exact ⟨by simp [go_sem], by simp [go_sem], by simp⟩
  have B0 : Hid (Below b w (w.alloc (.cells #[.string S] 9))) := (Below.refl _ _).alloc (by omega) _
  rw [eS]
  rw [hb] at S0
  clear hT hE eS
  go_enter Tryd.func19, Tryd.ntmps19
  go_wp2_with fail
  generalize w.alloc (.cells #[.string S] 9) = wA at *
  refine (hNext 32 _ rfl b R0 wA S0.out hl).mono ?_
  rintro e w' hcasea
  rcases hcasea with ⟨rfl, rfl⟩ | ⟨Pa, Qa, eQa, hnoa, rfl, rfl⟩
  · go_wp2_with fail
    refine (hSizeAny [] false _ (by decide) (HTE.out _ B0.out).1 (HTE.out _ B0.out).2).mono ?_
    rintro e wza ⟨hse, hbz⟩
    have hsb := S0.out.2.2
    have Baz := Lib.hid (B0.out.trans (hbz.mono (Nat.le_of_lt hsb)))
    have Saz := Lib.hid (S0.out.below hbz hsb)
    clear hbz hsb
    rcases hse with rfl | ⟨u, _, _, hf, _⟩
    · go_wp2_with fail
      refine (hNext 10 _ rfl b R0 wza Saz.out hl).mono ?_
      rintro e w' hcaseb
      rcases hcaseb with ⟨rfl, rfl⟩ | ⟨Pb, Qb, eQb, hnob, rfl, rfl⟩
      · go_wp2_with fail
        refine (hSizeAny [] false _ (by decide) (HTE.out _ Baz.out).1 (HTE.out _ Baz.out).2).mono ?_
        rintro e wzb ⟨hse, hbz⟩
        have hsb := Saz.out.2.2
        have Bbz := Lib.hid (Baz.out.trans (hbz.mono (Nat.le_of_lt hsb)))
        have Sbz := Lib.hid (Saz.out.below hbz hsb)
        clear hbz hsb
        rcases hse with rfl | ⟨u, _, _, hf, _⟩
        · go_wp2
          try simp only [Exit.inBlock, Exit.then]
          refine bodyPost_ret (results_tmp4 rfl _ _ _) rfl ?_
          exact ⟨.inl rfl, hb ▸ Bbz.out⟩
        · cases hf
      · have hqb : Qb.length ≤ 1000 := by have := congrArg List.length eQb; have := hl; simp at *; omega
        have hpb : Pb.length ≤ 1000 := by have := congrArg List.length eQb; have := hl; simp at *; omega
        have BXb := Lib.hid (Baz.out.setCell (p := ⟨b, 0, none⟩) (Nat.le_refl b) (.string ⟨Qb.toArray⟩))
        have SXb := Lib.hid (Saz.out.put Qb)
        have EQb := Lib.hid eQb
        clear eQb hnob
        generalize wza.setCell ⟨b, 0, none⟩ (.string ⟨Qb.toArray⟩) = wxb at *
        go_wp2_with fail
        refine (hSizeAny Pb true _ hpb (HTE.out _ BXb.out).1 (HTE.out _ BXb.out).2).mono ?_
        rintro e wzb ⟨hse, hbz⟩
        have hsb := SXb.out.2.2
        have Bbz := Lib.hid (BXb.out.trans (hbz.mono (Nat.le_of_lt hsb)))
        have Sbz := Lib.hid (SXb.out.below hbz hsb)
        clear hbz hsb
        rcases hse with rfl | ⟨ub, hub, hPb, hf, rfl⟩
        · go_wp2
          try simp only [Exit.inBlock, Exit.then]
          refine bodyPost_ret (results_tmp4 rfl _ _ _) rfl ?_
          exact ⟨.inl rfl, hb ▸ Bbz.out⟩
        · have HPb := Lib.hid hPb
          clear hPb hf
          go_wp2
          try simp only [Exit.inBlock, Exit.then]
          refine bodyPost_ret (results_tmp4 rfl _ _ _) rfl ?_
          exact ⟨.inl rfl, hb ▸ Bbz.out⟩
    · cases hf
  · have hqa : Qa.length ≤ 1000 := by have := congrArg List.length eQa; have := hl; simp at *; omega
    have hpa : Pa.length ≤ 1000 := by have := congrArg List.length eQa; have := hl; simp at *; omega
    have BXa := Lib.hid (B0.out.setCell (p := ⟨b, 0, none⟩) (Nat.le_refl b) (.string ⟨Qa.toArray⟩))
    have SXa := Lib.hid (S0.out.put Qa)
    have EQa := Lib.hid eQa
    clear eQa hnoa
    generalize wA.setCell ⟨b, 0, none⟩ (.string ⟨Qa.toArray⟩) = wxa at *
    go_wp2_with fail
    refine (hSizeAny Pa true _ hpa (HTE.out _ BXa.out).1 (HTE.out _ BXa.out).2).mono ?_
    rintro e wza ⟨hse, hbz⟩
    have hsb := SXa.out.2.2
    have Baz := Lib.hid (BXa.out.trans (hbz.mono (Nat.le_of_lt hsb)))
    have Saz := Lib.hid (SXa.out.below hbz hsb)
    clear hbz hsb
    rcases hse with rfl | ⟨ua, hua, hPa, hf, rfl⟩
    · go_wp2_with fail
      refine (hNext 10 _ rfl b Qa wza Saz.out hqa).mono ?_
      rintro e w' hcaseb
      rcases hcaseb with ⟨rfl, rfl⟩ | ⟨Pb, Qb, eQb, hnob, rfl, rfl⟩
      · go_wp2_with fail
        refine (hSizeAny [] false _ (by decide) (HTE.out _ Baz.out).1 (HTE.out _ Baz.out).2).mono ?_
        rintro e wzb ⟨hse, hbz⟩
        have hsb := Saz.out.2.2
        have Bbz := Lib.hid (Baz.out.trans (hbz.mono (Nat.le_of_lt hsb)))
        have Sbz := Lib.hid (Saz.out.below hbz hsb)
        clear hbz hsb
        rcases hse with rfl | ⟨u, _, _, hf, _⟩
        · go_wp2
          try simp only [Exit.inBlock, Exit.then]
          refine bodyPost_ret (results_tmp4 rfl _ _ _) rfl ?_
          exact ⟨.inl rfl, hb ▸ Bbz.out⟩
        · cases hf
      · have hqb : Qb.length ≤ 1000 := by have := congrArg List.length eQb; have := hqa; simp at *; omega
        have hpb : Pb.length ≤ 1000 := by have := congrArg List.length eQb; have := hqa; simp at *; omega
        have BXb := Lib.hid (Baz.out.setCell (p := ⟨b, 0, none⟩) (Nat.le_refl b) (.string ⟨Qb.toArray⟩))
        have SXb := Lib.hid (Saz.out.put Qb)
        have EQb := Lib.hid eQb
        clear eQb hnob
        generalize wza.setCell ⟨b, 0, none⟩ (.string ⟨Qb.toArray⟩) = wxb at *
        go_wp2_with fail
        refine (hSizeAny Pb true _ hpb (HTE.out _ BXb.out).1 (HTE.out _ BXb.out).2).mono ?_
        rintro e wzb ⟨hse, hbz⟩
        have hsb := SXb.out.2.2
        have Bbz := Lib.hid (BXb.out.trans (hbz.mono (Nat.le_of_lt hsb)))
        have Sbz := Lib.hid (SXb.out.below hbz hsb)
        clear hbz hsb
        rcases hse with rfl | ⟨ub, hub, hPb, hf, rfl⟩
        · go_wp2
          try simp only [Exit.inBlock, Exit.then]
          refine bodyPost_ret (results_tmp4 rfl _ _ _) rfl ?_
          exact ⟨.inl rfl, hb ▸ Bbz.out⟩
        · have HPb := Lib.hid hPb
          clear hPb hf
          go_wp2
          try simp only [Exit.inBlock, Exit.then]
          refine bodyPost_ret (results_tmp4 rfl _ _ _) rfl ?_
          exact ⟨.inl rfl, hb ▸ Bbz.out⟩
    · have HPa := Lib.hid hPa
      clear hPa hf
      go_wp2_with fail
      refine (hNext 10 _ rfl b Qa wza Saz.out hqa).mono ?_
      rintro e w' hcaseb
      rcases hcaseb with ⟨rfl, rfl⟩ | ⟨Pb, Qb, eQb, hnob, rfl, rfl⟩
      · go_wp2_with fail
        refine (hSizeAny [] false _ (by decide) (HTE.out _ Baz.out).1 (HTE.out _ Baz.out).2).mono ?_
        rintro e wzb ⟨hse, hbz⟩
        have hsb := Saz.out.2.2
        have Bbz := Lib.hid (Baz.out.trans (hbz.mono (Nat.le_of_lt hsb)))
        have Sbz := Lib.hid (Saz.out.below hbz hsb)
        clear hbz hsb
        rcases hse with rfl | ⟨u, _, _, hf, _⟩
        · go_wp2
          try simp only [Exit.inBlock, Exit.then]
          refine bodyPost_ret (results_tmp4 rfl _ _ _) rfl ?_
          exact ⟨.inl rfl, hb ▸ Bbz.out⟩
        · cases hf
      · have hqb : Qb.length ≤ 1000 := by have := congrArg List.length eQb; have := hqa; simp at *; omega
        have hpb : Pb.length ≤ 1000 := by have := congrArg List.length eQb; have := hqa; simp at *; omega
        have BXb := Lib.hid (Baz.out.setCell (p := ⟨b, 0, none⟩) (Nat.le_refl b) (.string ⟨Qb.toArray⟩))
        have SXb := Lib.hid (Saz.out.put Qb)
        have EQb := Lib.hid eQb
        clear eQb hnob
        generalize wza.setCell ⟨b, 0, none⟩ (.string ⟨Qb.toArray⟩) = wxb at *
        go_wp2_with fail
        refine (hSizeAny Pb true _ hpb (HTE.out _ BXb.out).1 (HTE.out _ BXb.out).2).mono ?_
        rintro e wzb ⟨hse, hbz⟩
        have hsb := SXb.out.2.2
        have Bbz := Lib.hid (BXb.out.trans (hbz.mono (Nat.le_of_lt hsb)))
        have Sbz := Lib.hid (SXb.out.below hbz hsb)
        clear hbz hsb
        rcases hse with rfl | ⟨ub, hub, hPb, hf, rfl⟩
        · go_wp2
          try simp only [Exit.inBlock, Exit.then]
          refine bodyPost_ret (results_tmp4 rfl _ _ _) rfl ?_
          exact ⟨.inl rfl, hb ▸ Bbz.out⟩
        · have HPb := Lib.hid hPb
          clear hPb hf
          obtain ⟨sR, eR, zR, lR, dR⟩ := str_ob Qb
          have hcR : wzb.cell? ⟨b, 0, none⟩ = some (.string sR) := by rw [← eR]; exact Sbz.out.1
          go_wp2_with fail
          refine (hFitsAny ua ub Qb.length _ hua hub hqb).mono ?_
          rintro e w' ⟨⟨ft, rfl, hft⟩, rfl⟩
          cases ft with
          | false =>
            go_wp2
            try simp only [Exit.inBlock, Exit.then]
            refine bodyPost_ret (results_tmp4 rfl _ _ _) rfl ?_
            exact ⟨.inl rfl, hb ▸ Bbz.out⟩
          | true =>
            have hmn := hft rfl
            have hsz : b ≤ wzb.heap.size := Nat.le_of_lt Sbz.out.2.2
            have RR : Hid (Calls Tryd.prog 40 #[.int .i64 ua, .int .i64 ub, .func (.func 38) #[] #[.pointer (some ⟨b, 0, none⟩)]] wzb fun e w' => RowsE ua ub b wzb.heap.size Qb e w' ∧ Below b wzb w') := by
              rcases Nat.eq_zero_or_pos ub with h | h
              · subst h; exact hReadRows0 ua b Qb wzb hua Sbz.out hqb
              · exact hReadRows ua ub b Qb wzb hua hub h hmn Sbz.out hqb (fun W hW => HTE.out W (Bbz.out.trans hW))
            clear hft eR zR dR
            go_wp2_with fail
            refine RR.out.mono ?_
            rintro e w3 ⟨hre, hb3⟩
            have B3 := Lib.hid (Bbz.out.trans hb3)
            clear hb3 hcR
            rcases hre with rfl | ⟨v, vs, R1, rfl, own, hvl, hvr, hbody, hin⟩
            · go_wp2
              try simp only [Exit.inBlock, Exit.then]
              refine bodyPost_ret (results_tmp4 rfl _ _ _) rfl ?_
              exact ⟨.inl rfl, hb ▸ B3.out⟩
            · obtain ⟨sQ, eQ_, zQ, lQ, dQ⟩ := str_ob R1
              have hc3 : w3.cell? ⟨b, 0, none⟩ = some (.string sQ) := by rw [← eQ_]; exact hin.1
              have OW := Lib.hid (own.base hsz)
              have HB := Lib.hid hbody
              have HVR := Lib.hid hvr
              clear own hbody hvr hin eQ_ zQ dQ
              by_cases hR1 : R1 = []
              · have N : (sQ.toList == []) = true := by rw [lQ, hR1]; rfl
                have H1 := Lib.hid hR1
                clear lQ hR1
                go_wp2
                try simp only [Exit.inBlock, Exit.then]
                refine bodyPost_ret (results_tmp4 rfl _ _ _) rfl ?_
                refine ⟨.inr ⟨ua, ub, v, vs, hua, hub, rfl, hb ▸ OW.out, hvl, HVR.out, ?_⟩, hb ▸ B3.out⟩
                rw [EQa.out, EQb.out, HPa.out, HPb.out, HB.out, H1.out]
                unfold rowsT headT
                simp only [List.append_assoc, List.append_nil]
              · have N : (sQ.toList == []) = false := by rw [lQ, beq_eq_false_iff_ne]; exact hR1
                clear lQ hR1
                go_wp2
                try simp only [Exit.inBlock, Exit.then]
                refine bodyPost_ret (results_tmp4 rfl _ _ _) rfl ?_
                exact ⟨.inl rfl, hb ▸ B3.out⟩
end Go.Proofs.YtaamonmkfgonmaaDoor
