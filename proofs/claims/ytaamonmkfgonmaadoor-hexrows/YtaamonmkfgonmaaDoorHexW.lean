/-
  What readRows of package hex returns at anything. Conditions: few numbers; what is laid of Go's library.
-/
import Derived.Test.YtaamonmkfgonmaaDoorHexV
import Derived.Test.YtaamonmkfgonmaaDoorSeeU
import Derived.Laws.MakeOwn
namespace Go.Proofs.YtaamonmkfgonmaaDoor
open Go.RowKit
set_option linter.unusedVariables false
set_option linter.unusedSimpArgs false

theorem OwnU.set {w : World} {base : Nat} {v : Value} {xs : List Int} (h : OwnU w base v xs) {p : Addr} (hp : p.block < base) (u : Value) : OwnU (w.setCell p u) base v xs := by
  obtain ⟨h, hne⟩ := h
  refine ⟨⟨h.1, ?_⟩, hne⟩
  rcases h.2 with hn | ⟨g, cap, cur, rfl, hbg, hgg, rest⟩
  · exact .inl hn
  · refine .inr ⟨g, cap, cur, rfl, hbg, ?_, rest⟩
    rw [Below.heap_setCell _ _ _ _ (by omega)]
    exact hgg
theorem rowT_congr (g h : Nat → Int) : ∀ k, (∀ j, j < k → g j = h j) → rowT g k = rowT h k
  | 0, _ => rfl
  | k + 1, e => by
    unfold rowT
    rw [rowT_congr g h k (fun j hj => e j (by omega)), e k (by omega)]
theorem bodyT_congr (n : Nat) (f h : Nat → Nat → Int) : ∀ i, (∀ j k, j < i → k < n → f j k = h j k) → bodyT n f i = bodyT n h i
  | 0, _ => rfl
  | i + 1, e => by
    unfold bodyT
    rw [bodyT_congr n f h i (fun j k hj hk => e j k (by omega) hk), rowT_congr (f i) (h i) n (fun j hj => e i j (by omega) hj)]
/-- The number of a place in a list of rows. -/
def atL (n : Nat) (vs : List Int) (i k : Nat) : Int := vs.getD (i * n + k) 0
theorem atL_app (n : Nat) (vs ys : List Int) (i : Nat) (h : vs.length = i * n) (j k : Nat) (hj : j < i) (hk : k < n) : atL n (vs ++ ys) j k = atL n vs j k := by
  unfold atL
  have h1 : j * n + k < vs.length := by
    rw [h]
    have : (j + 1) * n ≤ i * n := Nat.mul_le_mul_right _ (by omega)
    rw [Nat.add_mul] at this
    omega
  simp [List.getD, List.getElem?_append_left h1]
theorem atL_new (n : Nat) (vs ys : List Int) (i : Nat) (h : vs.length = i * n) (k : Nat) (hk : k < ys.length) : atL n (vs ++ ys) i k = ys.getD k 0 := by
  unfold atL
  rw [← h]
  simp [List.getD, List.getElem?_append_right (Nat.le_add_right vs.length k), Nat.add_sub_cancel_left]
/-- What has been read of a row: so many numbers, each with the byte behind it. -/
def consT (n : Nat) (g : Nat → Int) (k : Nat) : List UInt8 := if k = 0 then [] else rowT g k ++ (if k = n then [10] else [32])
theorem consT_step (n : Nat) (g : Nat → Int) (k : Nat) (hk : k < n) : consT n g (k + 1) = consT n g k ++ txt (g k) ++ [if k + 1 = n then 10 else 32] := by
  unfold consT
  rw [if_neg (by omega), show rowT g (k + 1) = rowT g k ++ (if k = 0 then [] else [32]) ++ txt (g k) from rfl]
  by_cases h0 : k = 0
  · subst h0
    rw [if_pos rfl, if_pos rfl]
    split <;> simp [rowT]
  · rw [if_neg h0, if_neg h0, if_neg (show ¬ k = n by omega)]
    split <;> simp
/-- What readRows answers: nothing, or the numbers that stood there. -/
def RowsE (m n b base : Nat) (R0 : List UInt8) (e : Ending) (w' : World) : Prop :=
  e = .returned (.tuple #[.slice none 0 0, .bool false]) ∨ ∃ (v : Value) (vs : List Int) (R1 : List UInt8), e = .returned (.tuple #[v, .bool true]) ∧ OwnU w' base v vs ∧ vs.length = m * n ∧ (∀ x ∈ vs, 0 ≤ x ∧ x < 18446744073709551616) ∧ R0 = bodyT n (atL n vs) m ++ R1 ∧ InS w' b R1
theorem no_mem : Hid (∀ x ∈ ([] : List Int), 0 ≤ x ∧ x < 18446744073709551616) := by
  show ∀ x ∈ ([] : List Int), 0 ≤ x ∧ x < 18446744073709551616
  intro x hx
  cases hx
theorem consT_more (n : Nat) (ys : List Int) (v : Int) (k : Nat) (hk : k < n) (hy : ys.length = k) (R P Q Q' : List UInt8) (C : UInt8) (hC : C = if k + 1 = n then 10 else 32) (hR : R = consT n (fun j => ys.getD j 0) k ++ Q) (hQ : Q = P ++ [C] ++ Q') (hv : txt v = P) :
    R = consT n (fun j => (ys ++ [v]).getD j 0) (k + 1) ++ Q' := by
  have e1 : consT n (fun j => (ys ++ [v]).getD j 0) k = consT n (fun j => ys.getD j 0) k := by
    unfold consT
    rw [rowT_congr (fun j => (ys ++ [v]).getD j 0) (fun j => ys.getD j 0) k (fun j hj => by simp [List.getD, List.getElem?_append_left (show j < ys.length by omega)])]
  have e2 : (ys ++ [v]).getD k 0 = v := by simp [List.getD, hy ▸ List.getElem?_append_right (Nat.le_refl ys.length), ← hy]
  rw [consT_step n _ k hk, e1]
  simp only [e2]
  rw [hv, ← hC, hR, hQ]
  simp only [List.append_assoc]
theorem len_part {A B : List UInt8} {N : Nat} (R0 : List UInt8) (e : R0 = A ++ B) (h : R0.length ≤ N) : B.length ≤ N := by rw [e, List.length_append] at h; omega
set_option maxRecDepth 100000 in
set_option maxHeartbeats 8000000 in
theorem hReadRows (m n b : Nat) (R0 : List UInt8) (w : World) (hm : m ≤ 4096) (hn : n ≤ 4096) (n1 : 0 < n) (hmn : m * n ≤ 1000) (hS : InS w b R0) (hl : R0.length ≤ 1000) (hTE : ∀ W, Below b w W → Tabs W ∧ ErrVars W) :
    Calls Tryd.prog 40 #[.int .i64 m, .int .i64 n, .func (.func 38) #[] #[.pointer (some ⟨b, 0, none⟩)]] w fun e w' => RowsE m n b w.heap.size R0 e w' ∧ Below b w w' := by
  have HS := Lib.hid hS
  have HTE := Lib.hid hTE
  have hbw : b < w.heap.size := hS.2.2
  obtain ⟨c, hc⟩ : ∃ c : Nat, (m : Int) * (n : Int) = (c : Int) := ⟨m * n, by push_cast; rfl⟩
  have hcc : c ≤ 1000 := by have : ((m * n : Nat) : Int) = (c : Int) := by push_cast; exact hc
                            omega
  obtain ⟨ti, hi, hz, hsz, hby⟩ := info_parts Tryd.u64Info
  obtain ⟨w1, hmk, own1, hg1⟩ := run_makeSlice_owned (P := Tryd.prog) (w := w) w.heap.size 34 22 ti (.int .u64 0) 1 Tryd.underlying34 hi hz hsz .i64 .i64 c (by omega) (by rw [hby]; omega) (by unfold maxLen; omega) (Nat.le_refl _)
  have O1 : Hid (OwnU w1 w.heap.size (.slice (some ⟨w.heap.size, 0, none⟩) 0 c) []) := ⟨own1, by simp⟩
  have B1 : Hid (Below w.heap.size w w1) := (Below.refl _ w).grown hg1 (Nat.le_refl _) (fun k hk => by cases hk)
  clear own1 hg1 hi hz hsz hby hS hTE
  have S1 := Lib.hid (HS.out.below B1.out hbw)
  have BB := Lib.hid (B1.out.mono (show b ≤ w.heap.size by omega))
  go_enter Tryd.func40, Tryd.ntmps40
  go_wp2
  go_loopw [8, 22] (fun v8 v22 wr => ∃ (i : Nat) (vs : List Int) (R : List UInt8), v22 = .int .i64 (i : Int) ∧ i ≤ m ∧ Hid (OwnU wr w.heap.size v8 vs) ∧ vs.length = i * n ∧ Hid (∀ x ∈ vs, 0 ≤ x ∧ x < 18446744073709551616) ∧ Hid (R0 = bodyT n (atL n vs) i ++ R) ∧ Hid (InS wr b R) ∧ Hid (Below b w wr)) (fun _ v22 _ => m - (intOf v22).toNat)
  case atStart => exact ⟨0, [], R0, rfl, Nat.zero_le _, O1, by simp, no_mem, rfl, S1, BB⟩
  case round =>
    obtain ⟨i, vs, R, rfl, hi, OI, hvl, RI, TI, SI, BI⟩ := hrel
    rename World => wo
    have hRl := len_part R0 TI.out hl
    by_cases him : i < m
    · have him' : (i : Int) < (m : Int) := by omega
      have n0 : ((n : Int) == 0) = false := by rw [beq_eq_false_iff_ne]; omega
      have hin : i * n + n ≤ 1000 := by
        have : (i + 1) * n ≤ m * n := Nat.mul_le_mul_right _ (by omega)
        rw [Nat.add_mul] at this
        omega
      go_wp2
      go_loopw [8, 38] (fun v8 v38 wr => ∃ (k : Nat) (ys : List Int) (Q : List UInt8), v38 = .int .i64 (k : Int) ∧ k ≤ n ∧ Hid (OwnU wr w.heap.size v8 (vs ++ ys)) ∧ ys.length = k ∧ Hid (∀ x ∈ ys, 0 ≤ x ∧ x < 18446744073709551616) ∧ Hid (R = consT n (fun j => ys.getD j 0) k ++ Q) ∧ Hid (InS wr b Q) ∧ Hid (Below b w wr)) (fun _ v38 _ => n - (intOf v38).toNat)
      case atStart => exact ⟨0, [], R, rfl, Nat.zero_le _, by rw [List.append_nil]; exact OI, rfl, no_mem, rfl, SI, BI⟩
      case round =>
        obtain ⟨k, ys, Q, rfl, hk, OK, hyl, RK, TK, SK, BK⟩ := hrel
        rename World => wk
        have hQl := len_part R TK.out hRl
        by_cases hkn : k < n
        · have hkn' : (k : Int) < (n : Int) := by omega
          by_cases hlast : k + 1 = n
          · have hlk : (k : Int) = (n : Int) - 1 := by omega
            go_wp2_with fail
            refine (hNext 10 _ rfl b Q wk SK.out hQl).mono ?_
            rintro e w' hcase
            rcases hcase with ⟨rfl, rfl⟩ | ⟨P, Q', eQ, hno, rfl, rfl⟩
            · go_wp2_with fail
              refine (hParseAny ⟨#[]⟩ _ (by decide) (HTE.out _ BK.out).1 (HTE.out _ BK.out).2).mono ?_
              rintro e W2 ⟨hcs, hb2⟩
              have BZ := Lib.hid (BK.out.trans (hb2.mono (by have := SK.out.2.2; omega)))
              clear hb2
              rcases hcs with rfl | ⟨v, rfl, v0, v1, hv⟩
              · go_wp2
                go_ret2
                exact ⟨.inl rfl, BZ.out⟩
              · go_wp2
                go_ret2
                exact ⟨.inl rfl, BZ.out⟩
            · obtain ⟨PS, eP, zP, lP, dP⟩ := str_ob P
              rw [eP]
              have zl : PS.size ≤ 1000 := by rw [zP]; have := congrArg List.length eQ; simp at this; omega
              have EQ := Lib.hid eQ
              have LP := Lib.hid lP
              have BX := Lib.hid (BK.out.setCell (p := ⟨b, 0, none⟩) (Nat.le_refl b) (.string ⟨Q'.toArray⟩))
              have SX := Lib.hid (SK.out.put Q')
              have OX := Lib.hid (OK.out.set (p := ⟨b, 0, none⟩) hbw (.string ⟨Q'.toArray⟩))
              generalize wk.setCell ⟨b, 0, none⟩ (.string ⟨Q'.toArray⟩) = wx at *
              clear eQ hno eP zP lP dP
              go_wp2_with fail
              refine (hParseAny PS _ zl (HTE.out _ BX.out).1 (HTE.out _ BX.out).2).mono ?_
              rintro e W2 ⟨hcs, hb2⟩
              have hsx := SX.out.2.2
              have BZ := Lib.hid (BX.out.trans (hb2.mono (by omega)))
              have SZ := Lib.hid (SX.out.below hb2 hsx)
              have OZ := Lib.hid (OX.out.below hb2)
              have wz : w.heap.size ≤ W2.heap.size := BZ.out.size
              clear hb2
              rcases hcs with rfl | ⟨v, rfl, v0, v1, hv⟩
              · go_wp2
                go_ret2
                exact ⟨.inl rfl, BZ.out⟩
              · have HV := Lib.hid (hv.trans LP.out)
                have V01 := Lib.hid (And.intro v0 v1)
                clear hv
                go_wp2_with (at_builtin; refine wpListU_app rfl _ _ rfl w.heap.size _ (vs ++ ys) rfl (OZ.out.alloc _) _ [v] rfl (SeesU.one W2 v) (by simp; omega) (by simp; omega) ?_)
                intro v' W3 own3 bel3 _ _
                have O3 := Lib.hid own3
                have bel4 : Below w.heap.size W2 W3 := ((Below.refl _ W2).alloc wz _).trans bel3
                have B3 := Lib.hid (BZ.out.trans (bel4.mono (by omega)))
                have S3 := Lib.hid (SZ.out.below bel4 hbw)
                clear own3 bel3 bel4
                go_wp2
                go_roundw
                case rel =>
                  refine ⟨k + 1, ys ++ [v], Q', by go_num, by omega, O3, by simp; omega, ?_, consT_more n ys v k hkn hyl R P Q Q' 10 (by rw [if_pos hlast]) TK.out EQ.out HV.out, S3, B3⟩
                  show ∀ x ∈ ys ++ [v], 0 ≤ x ∧ x < 18446744073709551616
                  intro x hx
                  rcases List.mem_append.1 hx with hx | hx
                  · exact RK.out x hx
                  · rw [List.mem_singleton.1 hx]; exact V01.out
                case measure => simp [intOf] <;> omega
          · have hlk : ¬ (k : Int) = (n : Int) - 1 := by omega
            go_wp2_with fail
            refine (hNext 32 _ rfl b Q wk SK.out hQl).mono ?_
            rintro e w' hcase
            rcases hcase with ⟨rfl, rfl⟩ | ⟨P, Q', eQ, hno, rfl, rfl⟩
            · go_wp2_with fail
              refine (hParseAny ⟨#[]⟩ _ (by decide) (HTE.out _ BK.out).1 (HTE.out _ BK.out).2).mono ?_
              rintro e W2 ⟨hcs, hb2⟩
              have BZ := Lib.hid (BK.out.trans (hb2.mono (by have := SK.out.2.2; omega)))
              clear hb2
              rcases hcs with rfl | ⟨v, rfl, v0, v1, hv⟩
              · go_wp2
                go_ret2
                exact ⟨.inl rfl, BZ.out⟩
              · go_wp2
                go_ret2
                exact ⟨.inl rfl, BZ.out⟩
            · obtain ⟨PS, eP, zP, lP, dP⟩ := str_ob P
              rw [eP]
              have zl : PS.size ≤ 1000 := by rw [zP]; have := congrArg List.length eQ; simp at this; omega
              have EQ := Lib.hid eQ
              have LP := Lib.hid lP
              have BX := Lib.hid (BK.out.setCell (p := ⟨b, 0, none⟩) (Nat.le_refl b) (.string ⟨Q'.toArray⟩))
              have SX := Lib.hid (SK.out.put Q')
              have OX := Lib.hid (OK.out.set (p := ⟨b, 0, none⟩) hbw (.string ⟨Q'.toArray⟩))
              generalize wk.setCell ⟨b, 0, none⟩ (.string ⟨Q'.toArray⟩) = wx at *
              clear eQ hno eP zP lP dP
              go_wp2_with fail
              refine (hParseAny PS _ zl (HTE.out _ BX.out).1 (HTE.out _ BX.out).2).mono ?_
              rintro e W2 ⟨hcs, hb2⟩
              have hsx := SX.out.2.2
              have BZ := Lib.hid (BX.out.trans (hb2.mono (by omega)))
              have SZ := Lib.hid (SX.out.below hb2 hsx)
              have OZ := Lib.hid (OX.out.below hb2)
              have wz : w.heap.size ≤ W2.heap.size := BZ.out.size
              clear hb2
              rcases hcs with rfl | ⟨v, rfl, v0, v1, hv⟩
              · go_wp2
                go_ret2
                exact ⟨.inl rfl, BZ.out⟩
              · have HV := Lib.hid (hv.trans LP.out)
                have V01 := Lib.hid (And.intro v0 v1)
                clear hv
                go_wp2_with (at_builtin; refine wpListU_app rfl _ _ rfl w.heap.size _ (vs ++ ys) rfl (OZ.out.alloc _) _ [v] rfl (SeesU.one W2 v) (by simp; omega) (by simp; omega) ?_)
                intro v' W3 own3 bel3 _ _
                have O3 := Lib.hid own3
                have bel4 : Below w.heap.size W2 W3 := ((Below.refl _ W2).alloc wz _).trans bel3
                have B3 := Lib.hid (BZ.out.trans (bel4.mono (by omega)))
                have S3 := Lib.hid (SZ.out.below bel4 hbw)
                clear own3 bel3 bel4
                go_wp2
                go_roundw
                case rel =>
                  refine ⟨k + 1, ys ++ [v], Q', by go_num, by omega, O3, by simp; omega, ?_, consT_more n ys v k hkn hyl R P Q Q' 32 (by rw [if_neg hlast]) TK.out EQ.out HV.out, S3, B3⟩
                  show ∀ x ∈ ys ++ [v], 0 ≤ x ∧ x < 18446744073709551616
                  intro x hx
                  rcases List.mem_append.1 hx with hx | hx
                  · exact RK.out x hx
                  · rw [List.mem_singleton.1 hx]; exact V01.out
                case measure => simp [intOf] <;> omega
        · obtain rfl : k = n := by omega
          go_wp2
          go_roundw
          case rel =>
            refine ⟨i + 1, vs ++ ys, Q, by go_num, by omega, OK, by rw [List.length_append, hvl, hyl, Nat.add_mul]; omega, ?_, ?_, SK, BK⟩
            · show ∀ x ∈ vs ++ ys, 0 ≤ x ∧ x < 18446744073709551616
              intro x hx
              rcases List.mem_append.1 hx with hx | hx
              · exact RI.out x hx
              · exact RK.out x hx
            · show R0 = bodyT k (atL k (vs ++ ys)) (i + 1) ++ Q
              have e1 : bodyT k (atL k (vs ++ ys)) i = bodyT k (atL k vs) i := bodyT_congr k _ _ i (fun j x hj hx => atL_app k vs ys i hvl j x hj hx)
              have e2 : rowT (atL k (vs ++ ys) i) k = rowT (fun j => ys.getD j 0) k := rowT_congr _ _ k (fun j hj => atL_new k vs ys i hvl j (by omega))
              rw [show bodyT k (atL k (vs ++ ys)) (i + 1) = bodyT k (atL k (vs ++ ys)) i ++ rowT (atL k (vs ++ ys) i) k ++ [10] from rfl, e1, e2, TI.out, TK.out]
              unfold consT
              rw [if_neg (by omega), if_pos rfl]
              simp only [List.append_assoc]
          case measure => simp [intOf] <;> omega
    · obtain rfl : i = m := by omega
      go_wp2
      go_ret2
      exact ⟨.inr ⟨_, vs, R, rfl, OI.out, hvl, RI.out, TI.out, SI.out⟩, BI.out⟩
set_option maxRecDepth 100000 in
set_option maxHeartbeats 8000000 in
theorem hReadRows0 (m b : Nat) (R0 : List UInt8) (w : World) (hm : m ≤ 4096) (hS : InS w b R0) (hl : R0.length ≤ 1000) :
    Calls Tryd.prog 40 #[.int .i64 m, .int .i64 0, .func (.func 38) #[] #[.pointer (some ⟨b, 0, none⟩)]] w fun e w' => RowsE m 0 b w.heap.size R0 e w' ∧ Below b w w' := by
  have HS := Lib.hid hS
  have hbw : b < w.heap.size := hS.2.2
  obtain ⟨ti, hi, hz, hsz, hby⟩ := info_parts Tryd.u64Info
  obtain ⟨w1, hmk, own1, hg1⟩ := run_makeSlice_owned (P := Tryd.prog) (w := w) w.heap.size 34 22 ti (.int .u64 0) 1 Tryd.underlying34 hi hz hsz .i64 .i64 0 (by omega) (by rw [hby]; omega) (by unfold maxLen; omega) (Nat.le_refl _)
  have O1 : Hid (OwnU w1 w.heap.size (.slice (some ⟨w.heap.size, 0, none⟩) 0 0) []) := ⟨own1, by simp⟩
  have B1 : Hid (Below w.heap.size w w1) := (Below.refl _ w).grown hg1 (Nat.le_refl _) (fun k hk => by cases hk)
  clear own1 hg1 hi hz hsz hby hS
  have S1 := Lib.hid (HS.out.below B1.out hbw)
  have BB := Lib.hid (B1.out.mono (show b ≤ w.heap.size by omega))
  have hmk2 : (Instr.makeSlice 34 (.int .i64 0) (.int .i64 0)).run Tryd.prog w = .ok (.slice (some ⟨w.heap.size, 0, none⟩) 0 0) w1 := hmk
  clear hmk
  go_enter Tryd.func40, Tryd.ntmps40
  go_wp2
  go_loopw [8, 22] (fun v8 v22 wr => ∃ (i : Nat) (R : List UInt8), v22 = .int .i64 (i : Int) ∧ i ≤ m ∧ Hid (OwnU wr w.heap.size v8 []) ∧ Hid (R0 = bodyT 0 (atL 0 []) i ++ R) ∧ Hid (InS wr b R) ∧ Hid (Below b w wr)) (fun _ v22 _ => m - (intOf v22).toNat)
  case atStart => exact ⟨0, R0, rfl, Nat.zero_le _, O1, rfl, S1, BB⟩
  case round =>
    obtain ⟨i, R, rfl, hi, OI, TI, SI, BI⟩ := hrel
    rename World => wo
    have hRl := len_part R0 TI.out hl
    by_cases him : i < m
    · have him' : (i : Int) < (m : Int) := by omega
      go_wp2_with fail
      refine (hNext 10 _ rfl b R wo SI.out hRl).mono ?_
      rintro e w' hcase
      rcases hcase with ⟨rfl, rfl⟩ | ⟨P, Q', eQ, hno, rfl, rfl⟩
      · go_wp2
        go_ret2
        exact ⟨.inl rfl, BI.out⟩
      · obtain ⟨PS, eP, zP, lP, dP⟩ := str_ob P
        rw [eP]
        have EQ := Lib.hid eQ
        have BX := Lib.hid (BI.out.setCell (p := ⟨b, 0, none⟩) (Nat.le_refl b) (.string ⟨Q'.toArray⟩))
        have SX := Lib.hid (SI.out.put Q')
        have OX := Lib.hid (OI.out.set (p := ⟨b, 0, none⟩) hbw (.string ⟨Q'.toArray⟩))
        generalize wo.setCell ⟨b, 0, none⟩ (.string ⟨Q'.toArray⟩) = wx at *
        by_cases hP : P = []
        · have N : (PS.toList == []) = true := by rw [lP, hP]; rfl
          have HP := Lib.hid hP
          clear eQ hno eP zP lP dP hP
          go_wp2
          go_loopw [8, 38] (fun v8 v38 wr => v38 = .int .i64 0 ∧ wr = wx ∧ Hid (OwnU wx w.heap.size v8 [])) (fun _ _ _ => 0)
          case atStart => exact ⟨rfl, rfl, OX⟩
          case round =>
            obtain ⟨rfl, rfl, OY⟩ := hrel
            go_wp2
            go_roundw
            case rel =>
              refine ⟨i + 1, Q', by go_num, by omega, OY, ?_, SX, BX⟩
              show R0 = bodyT 0 (atL 0 []) (i + 1) ++ Q'
              rw [TI.out, EQ.out, HP.out, show bodyT 0 (atL 0 []) (i + 1) = bodyT 0 (atL 0 []) i ++ rowT (atL 0 [] i) 0 ++ [10] from rfl, show rowT (atL 0 [] i) 0 = [] from rfl]
              simp
            case measure => simp [intOf] <;> omega
        · have N : (PS.toList == []) = false := by rw [lP, beq_eq_false_iff_ne]; exact hP
          clear eQ hno eP zP lP dP hP
          go_wp2
          go_ret2
          exact ⟨.inl rfl, BX.out⟩
    · obtain rfl : i = m := by omega
      go_wp2
      go_ret2
      exact ⟨.inr ⟨_, [], R, rfl, OI.out, by simp, no_mem.out, TI.out, SI.out⟩, BI.out⟩
end Go.Proofs.YtaamonmkfgonmaaDoor
