/-
  The law SolveTimes returns true at every input (any size, any slice of patterns, either triangle), and leaves its arguments as they were. No conditions.
-/
import Derived.Test.YtpakpgjbgehhjaaRows
import Derived.WalkKit
import Derived.ProofKit
import Derived.OpenShut
import Derived.Test.YtpakpgjbgehhjaaGrAB
import Derived.Test.YtpakpgjbgehhjaaGrAC
import Derived.Test.YtpakpgjbgehhjaaGrU
import Derived.Test.YtpakpgjbgehhjaaGrZ
import Derived.ShutString
import Derived.ChangeOld
import Derived.Below
namespace Go.Proofs.Ytpakpgjbgehhjaa.solveTimes
open Go.ChangeShapes Go.WideShapes Go.ChangeAt Go.RowKit
open Go.ChangeMaps (open_string shut_string)
set_option linter.unusedVariables false

theorem own : ownKnob Try.prog.godebug = none := by kernel_rfl
theorem laidOut : laidOutB Try.prog = true := by kernel_rfl

/-- WHAT THE WALK IS TOLD OF A SLICE OF INTEGERS THAT CAME IN: it is nil; or it leads to a row of 'cap' cells, the numbers 'zs' (the first 'len' are its elements, the rest its spare room), each fitting its kind. -/
def IsRow (k : IntKind) (w : World) (a : Option Addr) (len cap : Nat) (zs : List Int) : Prop :=
  (a = none ∧ len = 0 ∧ cap = 0 ∧ zs = []) ∨
  ∃ x, a = some x ∧ len ≤ cap ∧ cap ≤ maxLen ∧ zs.length = cap ∧ (∀ i, i < zs.length → w.cell? (x.add i) = some (.int k (zs.getD i 0))) ∧ ∀ n ∈ zs, (Lit.int k n).wf = true

set_option linter.unusedSimpArgs false
theorem row_of (w : World) (a : Option Addr) (len cap : Nat) (zs : List Int) (h : IsRow .u64 w a len cap zs) : URow w a len cap (fun i => zs.getD i 0) := by
  rcases h with ⟨rfl, rfl, rfl, rfl⟩ | ⟨x, rfl, h1, h2, h3, h4, h5⟩
  · exact ⟨Nat.le_refl _, Nat.zero_le _, fun i => by simp, fun h => absurd h (Nat.lt_irrefl 0)⟩
  · refine ⟨h1, h2, fun i => ?_, fun hp => ?_⟩
    · show 0 ≤ zs.getD i 0 ∧ zs.getD i 0 < 18446744073709551616
      rcases Nat.lt_or_ge i zs.length with g | g
      · have hm : zs.getD i 0 ∈ zs := by
          rw [List.getD_eq_getElem?_getD, List.getElem?_eq_getElem g]
          exact List.getElem_mem g
        obtain ⟨q1, q2⟩ := bounds_u64 (h5 _ hm)
        exact ⟨q1, by omega⟩
      · rw [List.getD_eq_getElem?_getD, List.getElem?_eq_none g]
        simp
    · obtain ⟨b, o, s⟩ := x
      have hs : s = none := by simpa [Addr.add] using World.cell?_spot (h4 0 (by omega))
      subst hs
      have hb : b < w.heap.size := by
        have := World.block_lt_of_cell? _ _ (h4 0 (by omega))
        simpa [Addr.add] using this
      refine ⟨b, o, rfl, hb, fun i hi => ?_⟩
      have := h4 i (by omega)
      rw [add_plain] at this
      exact this
set_option maxRecDepth 100000 in
set_option maxHeartbeats 8000000 in
theorem walk (a0 : Int) (a1 : Option Addr) (len1 cap1 : Nat) (z1 : List Int) (a2 : Bool) (a3 : Bool) (w : World) (w0 : (Lit.int .i64 a0).wf = true) (w1 : IsRow .u64 w a1 len1 cap1 z1) :
    Calls Try.prog 7 #[.int .i64 a0, .slice a1 len1 cap1, .bool a2, .bool a3] w fun e w' => e = .returned (.bool true) ∧ Below w.heap.size w w' := by
  have hr := row_of w a1 len1 cap1 z1 w1
  generalize (fun i => z1.getD i 0) = U at hr
  clear w0 w1
  have a0e := and_7_i a0
  obtain ⟨N, hN⟩ : ∃ R : Nat, (R : Int) = a0 % 8 := ⟨(a0 % 8).toNat, by omega⟩
  rw [← hN] at a0e
  have hN7 : N ≤ 7 := by omega
  clear hN
  have hNN : N * N ≤ 49 := Nat.mul_le_mul hN7 hN7
  obtain ⟨lx, cx⟩ := hr.lenB
  have HR : Hid (URow _ _ _ _ _) := hr
  clear hr
  by_cases hl : 100 < len1
  · have hl2 : (100 : Int) < (len1 : Int) := by omega
    go_enter Try.func7, Try.ntmps7
    go_wp2_with fail
    refine (lHead12 _).mono ?_
    rintro e w1 ⟨rfl, hb1⟩
    go_wp2
    go_ret
    exact ⟨ret_eq rfl, hb1⟩
  have hl2 : ¬ (100 : Int) < (len1 : Int) := by omega
  have hdl : decide ((100 : Int) < (len1 : Int)) = false := decide_eq_false hl2
  obtain ⟨zM, hzM⟩ : ∃ z : Nat → Int, z = mC U len1 0 0 := ⟨_, rfl⟩
  obtain ⟨zX, hzX⟩ : ∃ z : Nat → Int, z = mC U len1 5 4607182418800017408 := ⟨_, rfl⟩
  have HzM : Hid (_ = _) := hzM
  have HzX : Hid (_ = _) := hzX
  clear hzM hzX
  have TM : Hid (Rgt (N : Int) (N : Int) (N : Int) (N * N)) := tight N N (by omega) (by omega)
  go_enter Try.func7, Try.ntmps7
  go_wp2_with fail
  refine (lHead12 _).mono ?_
  rintro e w1 ⟨rfl, hb1⟩
  have BW : Hid (Below w.heap.size w w1) := hb1
  have UA : Hid (URow w1 a1 len1 cap1 U) := HR.out.below hb1
  clear hb1 HR
  go_wp2_with fail
  refine (lMade12 N 0 a1 len1 cap1 U _ UA.out (by omega) (by omega) (by omega)).mono ?_
  rintro e w1_ ⟨gM, rfl, _, hU_, hb1_⟩
  rw [← HzM.out] at hU_
  replace BW : Hid (Below _ _ _) := bstep BW.out hb1_
  replace UA : Hid (URow _ _ _ _ _) := UA.out.below hb1_
  clear hb1_
  have UM : Hid (URow w1_ (some ⟨gM, 0, none⟩) (N * N) (N * N) zM) := hU_
  clear hU_
  go_wp2_with fail
  have m_ := MBox.made w1_ (N : Int) (N : Int) (N : Int) (.slice (some ⟨gM, 0, none⟩) (N * N) (N * N))
  have b_ : Below w1_.heap.size w1_ (w1_.alloc (.cells #[.int .i64 (N : Int), .int .i64 (N : Int), .int .i64 (N : Int), .slice (some ⟨gM, 0, none⟩) (N * N) (N * N)] 26)) := (Below.refl _ _).alloc (Nat.le_refl _) _
  obtain ⟨k_M, hk_M⟩ : ∃ k, k = w1_.heap.size := ⟨_, rfl⟩
  have L_M : Hid (w.heap.size ≤ k_M) := by rw [hk_M]; exact BW.out.size
  rw [← hk_M] at m_ ⊢
  generalize (w1_.alloc (.cells #[.int .i64 (N : Int), .int .i64 (N : Int), .int .i64 (N : Int), .slice (some ⟨gM, 0, none⟩) (N * N) (N * N)] 26)) = w2_ at m_ b_ ⊢
  replace BW : Hid (Below _ _ _) := bstep BW.out b_
  replace UA : Hid (URow _ _ _ _ _) := UA.out.below b_
  replace UM : Hid (URow _ _ _ _ _) := UM.out.below b_
  have M : Hid (MBox w2_ k_M (N : Int) (N : Int) (N : Int) (.slice (some ⟨gM, 0, none⟩) (N * N) (N * N))) := m_
  clear m_ b_ hk_M
  refine (lList12 N 5 a1 len1 cap1 U _ UA.out (by omega) (by omega) (by omega)).mono ?_
  rintro e w3_ ⟨gx, cx0, rfl, hgx_, hO_, hU_, hb3_⟩
  rw [← HzX.out] at hU_ hO_
  obtain ⟨BX, hBX⟩ : ∃ B, B = w2_.heap.size := ⟨_, rfl⟩
  rw [← hBX] at hO_ hgx_
  have LBX : Hid (w.heap.size ≤ BX) := by rw [hBX]; exact BW.out.size
  have HGX : Hid (BX ≤ gx) := hgx_
  have NMX : Hid (k_M ≠ gx) := by have := M.out.2.2.2.2; show _ ≠ _; omega
  have AMX : Hid (Apt (some gx) (some ⟨gM, 0, none⟩) (N * N)) := UM.out.apt (fun k e => by injection e with e; omega)
  clear hBX hgx_
  replace BW : Hid (Below _ _ _) := bstep BW.out hb3_
  replace UA : Hid (URow _ _ _ _ _) := UA.out.below hb3_
  replace UM : Hid (URow _ _ _ _ _) := UM.out.below hb3_
  replace M : Hid (MBox _ _ _ _ _ _) := M.out.below hb3_
  clear hb3_
  have Ux : Hid (URow w3_ (some ⟨gx, 0, none⟩) N cx0 zX) := hU_
  clear hU_
  have Ox : Hid (OwnU w3_ BX (.slice (some ⟨gx, 0, none⟩) N cx0) (lst zX N)) := hO_
  clear hO_
  clear UA
  obtain ⟨M_0, M_1, M_2, M_3, M_4⟩ := M.out
  go_wp2_with fail
  have nc_ := calc_new w3_
  replace nc_ := nc_.later (bmore (Below.refl _ _) (.cells #[.int .u8 0] 32))
  have nk_ := calc_new (w3_.alloc (.cells #[.int .u8 0] 32))
  simp only [World.size_alloc] at nk_
  have bV_ : Below w3_.heap.size w3_ ((w3_.alloc (.cells #[.int .u8 0] 32)).alloc (.cells #[.int .u8 0] 32)) := bmore (bmore (Below.refl _ _) _) _
  clear M_0 M_1 M_2 M_3 M_4
  generalize ((w3_.alloc (.cells #[.int .u8 0] 32)).alloc (.cells #[.int .u8 0] 32)) = w4_ at nc_ nk_ bV_ ⊢
  obtain ⟨kc, hkc_⟩ : ∃ k, k = w3_.heap.size := ⟨_, rfl⟩
  obtain ⟨kk, hkk_⟩ : ∃ k, k = w3_.heap.size + 1 := ⟨_, rfl⟩
  rw [← hkk_] at nk_ ⊢
  rw [← hkc_] at nc_ ⊢
  have Oc : Hid (w.heap.size ≤ kc) := by show _ ≤ _; have := BW.out.size; omega
  have A_c_UM : Hid (Apt (some kc) (some ⟨gM, 0, none⟩) (N * N)) := UM.out.apt (fun k e => by injection e with e; omega)
  have A_c_M : Hid (kc ≠ k_M) := by have := M.out.2.2.2.2; show _ ≠ _; omega
  have A_c_Ux : Hid (Apt (some kc) (some ⟨gx, 0, none⟩) N) := Ux.out.apt (fun k e => by injection e with e; omega)
  have A_c_Ox : Hid (kc ≠ gx) := by have := Ox.out.lt; show _ ≠ _; omega
  have Ok : Hid (w.heap.size ≤ kk) := by show _ ≤ _; have := BW.out.size; omega
  have A_k_UM : Hid (Apt (some kk) (some ⟨gM, 0, none⟩) (N * N)) := UM.out.apt (fun k e => by injection e with e; omega)
  have A_k_M : Hid (kk ≠ k_M) := by have := M.out.2.2.2.2; show _ ≠ _; omega
  have A_k_Ux : Hid (Apt (some kk) (some ⟨gx, 0, none⟩) N) := Ux.out.apt (fun k e => by injection e with e; omega)
  have A_k_Ox : Hid (kk ≠ gx) := by have := Ox.out.lt; show _ ≠ _; omega
  have A_c_k : Hid (kc ≠ kk) := by show _ ≠ _; omega
  have A_k_c : Hid (kk ≠ kc) := by show _ ≠ _; omega
  replace BW : Hid (Below _ _ _) := bstep BW.out bV_
  replace UM : Hid (URow _ _ _ _ _) := UM.out.below bV_
  replace M : Hid (MBox _ _ _ _ _ _) := M.out.below bV_
  replace Ux : Hid (URow _ _ _ _ _) := Ux.out.below bV_
  replace Ox : Hid (OwnU _ _ _ _) := Ox.out.below bV_
  clear bV_ hkc_ hkk_
  have Hc : Hid (IsCalc w4_ (.pointer (some ⟨kc, 0, none⟩)) (some kc) (0)) := nc_
  clear nc_
  have Hk : Hid (IsCalc w4_ (.pointer (some ⟨kk, 0, none⟩)) (some kk) (0)) := nk_
  clear nk_
  refine (sTrmv a2 a3 (.pointer (some ⟨kc, 0, none⟩)) (some kc) 0 N N _ _ _ zM _ _ zX _ Hc.out TM.out UM.out A_c_UM.out Ux.out A_c_Ux.out).mono ?_
  rintro e w5_ ⟨gy, rfl, hg_, hU_, hC_, hb5_⟩
  have Nkc_gy : Hid (kc ≠ gy) := fun e => absurd (Nat.lt_of_lt_of_le (Hc.out.lt _ rfl) hg_) (by rw [e]; exact Nat.lt_irrefl _)
  have Nkk_gy : Hid (kk ≠ gy) := fun e => absurd (Nat.lt_of_lt_of_le (Hk.out.lt _ rfl) hg_) (by rw [e]; exact Nat.lt_irrefl _)
  have NYX : Hid (gx ≠ gy) := fun e => absurd (Nat.lt_of_lt_of_le Ox.out.lt hg_) (by rw [e]; exact Nat.lt_irrefl _)
  clear hg_
  replace BW : Hid (Below _ _ _) := Bes.old BW.out hb5_ Oc.out
  replace UM : Hid (URow _ _ _ _ _) := UM.out.bes hb5_ A_c_UM.out
  replace M : Hid (MBox _ _ _ _ _ _) := M.out.bes hb5_ (ne_some A_c_M.out)
  replace Ux : Hid (URow _ _ _ _ _) := Ux.out.bes hb5_ A_c_Ux.out
  replace Ox : Hid (OwnU _ _ _ _) := Ox.out.bes hb5_ (ne_some A_c_Ox.out)
  replace Hk : Hid (IsCalc _ _ _ _) := Hk.out.bes hb5_ (fun j e1 e2 => A_c_k.out ((Option.some.inj e2).trans (Option.some.inj e1).symm))
  clear hb5_
  clear Hc
  have Hc : Hid (IsCalc w5_ (.pointer (some ⟨kc, 0, none⟩)) (some kc) (tmF a2 a3 0 zM N N zX N)) := hC_
  clear hC_
  have Uy : Hid (URow w5_ (some ⟨gy, 0, none⟩) N N (tmV a2 a3 zM N N zX)) := hU_
  clear hU_
  go_wp2_with fail
  go_loopw [15] (fun s15_ wr => ∃ n : Nat, s15_ = .int .i64 (n : Int) ∧ n ≤ N ∧ Hid (IsCalc wr (.pointer (some ⟨kk, 0, none⟩)) (some kk) (tmF a2 a3 0 zM N N zX n)) ∧ Hid (Bes (some kk) w5_ wr)) (fun s15_ _ => N - (intOf s15_).toNat)
  case atStart => exact ⟨0, rfl, Nat.zero_le _, Hk.out, Bes.refl _ _⟩
  case round =>
    clear Hk
    obtain ⟨n, rfl, hn_, Hk, HS6⟩ := hrel
    obtain ⟨w6_, rfl⟩ : ∃ x, x = wr := ⟨wr, rfl⟩
    replace BW : Hid (Below _ _ _) := Bes.old BW.out HS6.out Ok.out
    replace UM : Hid (URow _ _ _ _ _) := UM.out.bes HS6.out A_k_UM.out
    replace M : Hid (MBox _ _ _ _ _ _) := M.out.bes HS6.out (ne_some A_k_M.out)
    replace Ux : Hid (URow _ _ _ _ _) := Ux.out.bes HS6.out A_k_Ux.out
    replace Ox : Hid (OwnU _ _ _ _) := Ox.out.bes HS6.out (ne_some A_k_Ox.out)
    replace Hc : Hid (IsCalc _ _ _ _) := Hc.out.bes HS6.out (fun j e1 e2 => A_k_c.out ((Option.some.inj e2).trans (Option.some.inj e1).symm))
    replace Uy : Hid (URow _ _ _ _ _) := Uy.out.bes HS6.out (Apt.ne Nkk_gy.out)
    by_cases hlt : (n : Int) < (N : Int)
    · as_aux_lemma =>
        obtain ⟨l_q, q⟩ := Ux.out.cellg n (by omega)
        obtain ⟨x0, x1⟩ := Ux.out.2.2.1 n
        obtain ⟨d0, d1⟩ := UM.out.2.2.1 (n * N + n)
        have TV : Hid (gatV addS (tmf a3 zM N zX n) (fun k => zM (n * N + k)) zX (tb a2 n) (tn a2 N n) = tmV a2 a3 zM N N zX n) := rfl
        have TF : Hid (gatF addS (if a3 then tmF a2 a3 0 zM N N zX n else bits .or .u8 (tmF a2 a3 0 zM N N zX n) (mulS (zM (n * N + n)) (zX n)).2) (tmf a3 zM N zX n) (fun k => zM (n * N + k)) zX (tb a2 n) (tn a2 N n) = tmF a2 a3 0 zM N N zX (n + 1)) := rfl
        obtain ⟨FN, hFN⟩ : ∃ f, f = tmF a2 a3 0 zM N N zX n := ⟨_, rfl⟩
        rw [← hFN] at Hk TF
        obtain ⟨f, hf⟩ : ∃ f, f = tmf a3 zM N zX n := ⟨_, rfl⟩
        have HF : Hid (f = tmf a3 zM N zX n) := hf
        rw [← hf] at TV TF
        obtain ⟨F1, hF1⟩ : ∃ g, g = (if a3 then FN else bits .or .u8 FN (mulS (zM (n * N + n)) (zX n)).2) := ⟨_, rfl⟩
        have HF1 : Hid (F1 = (if a3 then FN else bits .or .u8 FN (mulS (zM (n * N + n)) (zX n)).2)) := hF1
        rw [← hF1] at TF
        obtain ⟨x, hx⟩ : ∃ x, zX n = x := ⟨_, rfl⟩
        obtain ⟨d, hd⟩ : ∃ x, zM (n * N + n) = x := ⟨_, rfl⟩
        rw [hx] at q x0 x1 HF1
        rw [hd] at d0 d1 HF1
        have HX1 : Hid (_ = _) := hx
        have HD1 : Hid (_ = _) := hd
        clear hFN hf hF1 hx hd
        cases hun : a3
        case false =>
          subst hun
          obtain ⟨M0, hM⟩ : ∃ M, mulS d x = M := ⟨_, rfl⟩
          obtain ⟨f0, f1⟩ := mulS_rng d x
          have HFF : Hid (f = (mulS d x).1) := by rw [HF.out]; show (mulS (zM (n * N + n)) (zX n)).1 = _; rw [HX1.out, HD1.out]
          have HFG : Hid (F1 = bits .or .u8 FN (mulS d x).2) := HF1.out
          rw [hM] at HFF HFG f0 f1
          have HM : Hid (_ = _) := hM
          clear hM
          obtain ⟨m, fm⟩ := M0
          simp only at HFF HFG f0 f1
          obtain ⟨M_0, M_1, M_2, M_3, M_4⟩ := M.out
          go_wp2_with fail
          refine (mAtN N N N _ _ _ zM n n _ TM.out UM.out (by omega) (by omega)).mono ?_
          rintro e w7_ ⟨rfl, hb7_⟩
          rw [HD1.out]
          clear M_0 M_1 M_2 M_3 M_4
          replace BW : Hid (Below _ _ _) := bstep BW.out hb7_
          replace UM : Hid (URow _ _ _ _ _) := UM.out.below hb7_
          replace M : Hid (MBox _ _ _ _ _ _) := M.out.below hb7_
          replace Ux : Hid (URow _ _ _ _ _) := Ux.out.below hb7_
          replace Ox : Hid (OwnU _ _ _ _) := Ox.out.below hb7_
          replace Hc : Hid (IsCalc _ _ _ _) := Hc.out.later hb7_
          replace Uy : Hid (URow _ _ _ _ _) := Uy.out.below hb7_
          replace Hk : Hid (IsCalc _ _ _ _) := Hk.out.later hb7_
          replace HS6 : Hid (Bes _ _ _) := HS6.out.step hb7_
          clear hb7_
          go_wp2_with fail
          refine (uMul (.pointer (some ⟨kk, 0, none⟩)) (some kk) d x FN _ Hk.out d0 d1 x0 x1).mono ?_
          rintro e w8_ ⟨rfl, hC_, hb8_⟩
          rw [HM.out] at hC_ ⊢
          simp only at hC_ ⊢
          rw [← HFF.out]
          rw [← HFG.out] at hC_
          rw [← HFF.out] at f0 f1
          replace BW : Hid (Below _ _ _) := Bes.old BW.out hb8_ Ok.out
          replace UM : Hid (URow _ _ _ _ _) := UM.out.bes hb8_ A_k_UM.out
          replace M : Hid (MBox _ _ _ _ _ _) := M.out.bes hb8_ (ne_some A_k_M.out)
          replace Ux : Hid (URow _ _ _ _ _) := Ux.out.bes hb8_ A_k_Ux.out
          replace Ox : Hid (OwnU _ _ _ _) := Ox.out.bes hb8_ (ne_some A_k_Ox.out)
          replace Hc : Hid (IsCalc _ _ _ _) := Hc.out.bes hb8_ (fun j e1 e2 => A_k_c.out ((Option.some.inj e2).trans (Option.some.inj e1).symm))
          replace Uy : Hid (URow _ _ _ _ _) := Uy.out.bes hb8_ (Apt.ne Nkk_gy.out)
          replace HS6 : Hid (Bes _ _ _) := HS6.out.trans hb8_
          clear hb8_
          clear Hk
          have Hk : Hid (IsCalc w8_ (.pointer (some ⟨kk, 0, none⟩)) (some kk) (F1)) := hC_
          clear hC_
          go_wp2_with fail
          go_loopw [16, 17] (fun s16_ s17_ wr => ∃ j : Nat, s16_ = .int .u64 (gatV addS f (fun k => zM (n * N + k)) zX (tb a2 n) (gp a2 n j)) ∧ s17_ = .int .i64 (j : Int) ∧ j ≤ N ∧ Hid (IsCalc wr (.pointer (some ⟨kk, 0, none⟩)) (some kk) (gatF addS F1 f (fun k => zM (n * N + k)) zX (tb a2 n) (gp a2 n j))) ∧ Hid (Bes (some kk) w8_ wr)) (fun s16_ s17_ _ => N - (intOf s17_).toNat)
          case atStart => exact ⟨0, (by rw [gp_zero]; rfl), rfl, Nat.zero_le _, (by rw [gp_zero]; exact Hk.out), Bes.refl _ _⟩
          case round =>
            clear Hk
            obtain ⟨j, rfl, rfl, hj_, Hk, HS9⟩ := hrel
            obtain ⟨w9_, rfl⟩ : ∃ x, x = wr := ⟨wr, rfl⟩
            replace BW : Hid (Below _ _ _) := Bes.old BW.out HS9.out Ok.out
            replace UM : Hid (URow _ _ _ _ _) := UM.out.bes HS9.out A_k_UM.out
            replace M : Hid (MBox _ _ _ _ _ _) := M.out.bes HS9.out (ne_some A_k_M.out)
            replace Ux : Hid (URow _ _ _ _ _) := Ux.out.bes HS9.out A_k_Ux.out
            replace Ox : Hid (OwnU _ _ _ _) := Ox.out.bes HS9.out (ne_some A_k_Ox.out)
            replace Hc : Hid (IsCalc _ _ _ _) := Hc.out.bes HS9.out (fun j e1 e2 => A_k_c.out ((Option.some.inj e2).trans (Option.some.inj e1).symm))
            replace Uy : Hid (URow _ _ _ _ _) := Uy.out.bes HS9.out (Apt.ne Nkk_gy.out)
            replace HS6 : Hid (Bes _ _ _) := HS6.out.trans HS9.out
            by_cases hlt2 : (j : Int) < (N : Int)
            · skip
              go_wp2_with fail
              refine (lIn n j a2 _).mono ?_
              rintro e w' ⟨rfl, hw⟩
              have hw2 := hw.symm
              clear hw
              subst hw2
              by_cases hin : (if a2 then decide (n < j) else decide (j < n)) = true
              · rw [hin]
                obtain ⟨hg1, hg2⟩ := gp_in a2 n j hin
                clear hin
                obtain ⟨l_q0, q0⟩ := Ux.out.cellg j (by omega)
                obtain ⟨v0, v1⟩ := Ux.out.2.2.1 j
                obtain ⟨y0, y1⟩ := UM.out.2.2.1 (n * N + j)
                obtain ⟨s0, s1⟩ := gatV_rngA f (fun k => zM (n * N + k)) zX (tb a2 n) (gp a2 n j) f0 f1
                have SV : Hid ((addS (gatV addS f (fun k => zM (n * N + k)) zX (tb a2 n) (gp a2 n j)) (mulS (zM (n * N + j)) (zX j)).1).1 = gatV addS f (fun k => zM (n * N + k)) zX (tb a2 n) (gp a2 n (j + 1))) := by
                  rw [hg1]
                  show _ = (addS (gatV addS f (fun k => zM (n * N + k)) zX (tb a2 n) (gp a2 n j)) (mulS (zM (n * N + (tb a2 n + gp a2 n j))) (zX (tb a2 n + gp a2 n j))).1).1
                  rw [hg2]
                have SF : Hid (bits .or .u8 (bits .or .u8 (gatF addS F1 f (fun k => zM (n * N + k)) zX (tb a2 n) (gp a2 n j)) (mulS (zM (n * N + j)) (zX j)).2) (addS (gatV addS f (fun k => zM (n * N + k)) zX (tb a2 n) (gp a2 n j)) (mulS (zM (n * N + j)) (zX j)).1).2 = gatF addS F1 f (fun k => zM (n * N + k)) zX (tb a2 n) (gp a2 n (j + 1))) := by
                  rw [hg1]
                  show _ = bits .or .u8 (bits .or .u8 (gatF addS F1 f (fun k => zM (n * N + k)) zX (tb a2 n) (gp a2 n j)) (mulS (zM (n * N + (tb a2 n + gp a2 n j))) (zX (tb a2 n + gp a2 n j))).2) (addS (gatV addS f (fun k => zM (n * N + k)) zX (tb a2 n) (gp a2 n j)) (mulS (zM (n * N + (tb a2 n + gp a2 n j))) (zX (tb a2 n + gp a2 n j))).1).2
                  rw [hg2]
                obtain ⟨u0, u1⟩ := mulS_rng (zM (n * N + j)) (zX j)
                obtain ⟨FJ, hFJ⟩ : ∃ g, gatF addS F1 f (fun k => zM (n * N + k)) zX (tb a2 n) (gp a2 n j) = g := ⟨_, rfl⟩
                obtain ⟨sj, hsj⟩ : ∃ g, gatV addS f (fun k => zM (n * N + k)) zX (tb a2 n) (gp a2 n j) = g := ⟨_, rfl⟩
                obtain ⟨v, hv⟩ : ∃ v, zX j = v := ⟨_, rfl⟩
                obtain ⟨y, hy⟩ : ∃ v, zM (n * N + j) = v := ⟨_, rfl⟩
                rw [hv] at q0 v0 v1 SV SF u0 u1
                rw [hy] at y0 y1 SV SF u0 u1
                rw [hFJ] at SF Hk
                rw [hsj] at SV SF s0 s1 ⊢
                obtain ⟨MM, hM2⟩ : ∃ M, mulS y v = M := ⟨_, rfl⟩
                rw [hM2] at SF SV u0 u1
                have HM2 : Hid (_ = _) := hM2
                have HY1 : Hid (_ = _) := hy
                have HV1 : Hid (_ = _) := hv
                clear hv hy hFJ hsj hM2 hg1 hg2
                obtain ⟨u, fu⟩ := MM
                simp only at SF SV u0 u1
                go_wp2_with fail
                obtain ⟨M_0, M_1, M_2, M_3, M_4⟩ := M.out
                have ct : Cnt 1 := Cnt.mk _
                go_region_held3 (fun w' => (w'.cell? ⟨k_M, 0, none⟩ = some (.int .i64 (N : Int)) ∧ w'.cell? ⟨k_M, 1, none⟩ = some (.int .i64 (N : Int)) ∧ w'.cell? ⟨k_M, 2, none⟩ = some (.int .i64 (N : Int)) ∧ w'.cell? ⟨k_M, 3, none⟩ = some (.slice (some ⟨gM, 0, none⟩) (N * N) (N * N))) ∧ (w'.cell? ⟨gx, j, none⟩ = some (.int .u64 v))) (simp [go_sem, *]) (first | (have ck : Cnt 1 := ct; go_at_call 19; refine (mAtN N N N _ _ _ zM n j _ TM.out (by first | (with_reducible exact UM.out) | exact UM.out.below ((Below.refl _ _).drew)) (by omega) (by omega)).mono ?_; rintro e w10_ ⟨rfl, hb10_⟩; replace hb10_ : Below w9_.heap.size w9_ w10_ := (by first | exact hb10_ | exact ((Below.refl _ _).drew).trans hb10_); rw [HY1.out]; clear M_0 M_1 M_2 M_3 M_4; replace BW : Hid (Below _ _ _) := bstep BW.out hb10_; replace UM : Hid (URow _ _ _ _ _) := UM.out.below hb10_; replace M : Hid (MBox _ _ _ _ _ _) := M.out.below hb10_; replace Ux : Hid (URow _ _ _ _ _) := Ux.out.below hb10_; replace Ox : Hid (OwnU _ _ _ _) := Ox.out.below hb10_; replace Hc : Hid (IsCalc _ _ _ _) := Hc.out.later hb10_; replace Uy : Hid (URow _ _ _ _ _) := Uy.out.below hb10_; replace Hk : Hid (IsCalc _ _ _ _) := Hk.out.later hb10_; replace HS6 : Hid (Bes _ _ _) := HS6.out.step hb10_; replace HS9 : Hid (Bes _ _ _) := HS9.out.step hb10_; obtain ⟨M_0, M_1, M_2, M_3, M_4⟩ := M.out; obtain ⟨l_q1, q1⟩ := Ux.out.cellg j (by omega); rw [HV1.out] at q1; replace ct : Cnt 2 := Cnt.mk _; clear hb10_ ck) | (have ck : Cnt 2 := ct; go_at_call 20; refine (uMul (.pointer (some ⟨kk, 0, none⟩)) (some kk) y v FJ _ (by first | (with_reducible exact Hk.out) | exact Hk.out.later ((Below.refl _ _).drew)) y0 y1 v0 v1).mono ?_; rintro e w11_ ⟨rfl, hC_, hb11_⟩; replace hb11_ : Bes (some kk) w10_ w11_ := (by first | exact hb11_ | exact ((Bes.refl _ _).drew).trans hb11_); rw [HM2.out] at hC_ ⊢; clear M_0 M_1 M_2 M_3 M_4; replace BW : Hid (Below _ _ _) := Bes.old BW.out hb11_ Ok.out; replace UM : Hid (URow _ _ _ _ _) := UM.out.bes hb11_ A_k_UM.out; replace M : Hid (MBox _ _ _ _ _ _) := M.out.bes hb11_ (ne_some A_k_M.out); replace Ux : Hid (URow _ _ _ _ _) := Ux.out.bes hb11_ A_k_Ux.out; replace Ox : Hid (OwnU _ _ _ _) := Ox.out.bes hb11_ (ne_some A_k_Ox.out); replace Hc : Hid (IsCalc _ _ _ _) := Hc.out.bes hb11_ (fun j e1 e2 => A_k_c.out ((Option.some.inj e2).trans (Option.some.inj e1).symm)); replace Uy : Hid (URow _ _ _ _ _) := Uy.out.bes hb11_ (Apt.ne Nkk_gy.out); replace HS6 : Hid (Bes _ _ _) := HS6.out.trans hb11_; replace HS9 : Hid (Bes _ _ _) := HS9.out.trans hb11_; clear Hk; have Hk : Hid (IsCalc w11_ (.pointer (some ⟨kk, 0, none⟩)) (some kk) (bits .or .u8 FJ fu)) := hC_; clear hC_; obtain ⟨M_0, M_1, M_2, M_3, M_4⟩ := M.out; obtain ⟨l_q2, q2⟩ := Ux.out.cellg j (by omega); rw [HV1.out] at q2; replace ct : Cnt 3 := Cnt.mk _; clear hb11_ ck) | (have ck : Cnt 3 := ct; go_at_call 21; refine (uAdd (.pointer (some ⟨kk, 0, none⟩)) (some kk) sj u _ _ (by first | (with_reducible exact Hk.out) | exact Hk.out.later ((Below.refl _ _).drew)) s0 s1 u0 u1).mono ?_; rintro e w12_ ⟨rfl, hC_, hb12_⟩; replace hb12_ : Bes (some kk) w11_ w12_ := (by first | exact hb12_ | exact ((Bes.refl _ _).drew).trans hb12_); rw [SV.out]; rw [SF.out] at hC_; clear M_0 M_1 M_2 M_3 M_4; replace BW : Hid (Below _ _ _) := Bes.old BW.out hb12_ Ok.out; replace UM : Hid (URow _ _ _ _ _) := UM.out.bes hb12_ A_k_UM.out; replace M : Hid (MBox _ _ _ _ _ _) := M.out.bes hb12_ (ne_some A_k_M.out); replace Ux : Hid (URow _ _ _ _ _) := Ux.out.bes hb12_ A_k_Ux.out; replace Ox : Hid (OwnU _ _ _ _) := Ox.out.bes hb12_ (ne_some A_k_Ox.out); replace Hc : Hid (IsCalc _ _ _ _) := Hc.out.bes hb12_ (fun j e1 e2 => A_k_c.out ((Option.some.inj e2).trans (Option.some.inj e1).symm)); replace Uy : Hid (URow _ _ _ _ _) := Uy.out.bes hb12_ (Apt.ne Nkk_gy.out); replace HS6 : Hid (Bes _ _ _) := HS6.out.trans hb12_; replace HS9 : Hid (Bes _ _ _) := HS9.out.trans hb12_; clear Hk; have Hk : Hid (IsCalc w12_ (.pointer (some ⟨kk, 0, none⟩)) (some kk) (gatF addS F1 f (fun k => zM (n * N + k)) zX (tb a2 n) (gp a2 n (j + 1)))) := hC_; clear hC_; obtain ⟨M_0, M_1, M_2, M_3, M_4⟩ := M.out; obtain ⟨l_q3, q3⟩ := Ux.out.cellg j (by omega); rw [HV1.out] at q3; replace ct : Cnt 4 := Cnt.mk _; clear hb12_ ck))
                clear ct
                go_wp2
                go_roundw
                case rel => exact ⟨j + 1, rfl, by go_num, by omega, Hk, HS9⟩
                case measure => simp [intOf]; omega
              · have hin2 : (if a2 then decide (n < j) else decide (j < n)) = false := by cases h : (if a2 then decide (n < j) else decide (j < n)) <;> simp_all
                rw [hin2]
                have hgo := gp_out a2 n j hin2
                have HKO : Hid (IsCalc w9_ (.pointer (some ⟨kk, 0, none⟩)) (some kk) (gatF addS F1 f (fun k => zM (n * N + k)) zX (tb a2 n) (gp a2 n (j + 1)))) := by show IsCalc _ _ _ _; rw [hgo]; exact Hk.out
                have HSO : Hid (gatV addS f (fun k => zM (n * N + k)) zX (tb a2 n) (gp a2 n j) = gatV addS f (fun k => zM (n * N + k)) zX (tb a2 n) (gp a2 n (j + 1))) := by show _ = _; rw [hgo]
                rw [HSO.out]
                clear hgo hin hin2
                go_wp2
                go_roundw
                case rel => exact ⟨j + 1, rfl, by go_num, by omega, HKO, HS9⟩
                case measure => simp [intOf]; omega
            · obtain rfl : N = j := by omega
              clear HS9
              have HGA : Hid (_ = _) := gp_all a2 N n (by omega)
              rw [HGA.out] at Hk ⊢
              rw [TV.out]
              rw [TF.out] at Hk
              obtain ⟨l_y, qy⟩ := Uy.out.cellg n (by omega)
              go_wp2
              go_roundw
              case rel => exact ⟨n + 1, by go_num, by omega, Hk, HS6⟩
              case measure => simp [intOf]; omega
        case true =>
          subst hun
          have HFF : Hid (f = x) := by rw [HF.out]; exact HX1.out
          have HFG : Hid (F1 = FN) := HF1.out
          obtain ⟨f0, f1⟩ := And.intro x0 x1
          rw [← HFF.out] at q f0 f1 x0 x1
          rw [← HFG.out] at Hk
          go_wp2_with fail
          go_loopw [16, 17] (fun s16_ s17_ wr => ∃ j : Nat, s16_ = .int .u64 (gatV addS f (fun k => zM (n * N + k)) zX (tb a2 n) (gp a2 n j)) ∧ s17_ = .int .i64 (j : Int) ∧ j ≤ N ∧ Hid (IsCalc wr (.pointer (some ⟨kk, 0, none⟩)) (some kk) (gatF addS F1 f (fun k => zM (n * N + k)) zX (tb a2 n) (gp a2 n j))) ∧ Hid (Bes (some kk) w6_ wr)) (fun s16_ s17_ _ => N - (intOf s17_).toNat)
          case atStart => exact ⟨0, (by rw [gp_zero]; rfl), rfl, Nat.zero_le _, (by rw [gp_zero]; exact Hk.out), Bes.refl _ _⟩
          case round =>
            clear Hk
            obtain ⟨j, rfl, rfl, hj_, Hk, HS7⟩ := hrel
            obtain ⟨w7_, rfl⟩ : ∃ x, x = wr := ⟨wr, rfl⟩
            replace BW : Hid (Below _ _ _) := Bes.old BW.out HS7.out Ok.out
            replace UM : Hid (URow _ _ _ _ _) := UM.out.bes HS7.out A_k_UM.out
            replace M : Hid (MBox _ _ _ _ _ _) := M.out.bes HS7.out (ne_some A_k_M.out)
            replace Ux : Hid (URow _ _ _ _ _) := Ux.out.bes HS7.out A_k_Ux.out
            replace Ox : Hid (OwnU _ _ _ _) := Ox.out.bes HS7.out (ne_some A_k_Ox.out)
            replace Hc : Hid (IsCalc _ _ _ _) := Hc.out.bes HS7.out (fun j e1 e2 => A_k_c.out ((Option.some.inj e2).trans (Option.some.inj e1).symm))
            replace Uy : Hid (URow _ _ _ _ _) := Uy.out.bes HS7.out (Apt.ne Nkk_gy.out)
            replace HS6 : Hid (Bes _ _ _) := HS6.out.trans HS7.out
            by_cases hlt2 : (j : Int) < (N : Int)
            · skip
              go_wp2_with fail
              refine (lIn n j a2 _).mono ?_
              rintro e w' ⟨rfl, hw⟩
              have hw2 := hw.symm
              clear hw
              subst hw2
              by_cases hin : (if a2 then decide (n < j) else decide (j < n)) = true
              · rw [hin]
                obtain ⟨hg1, hg2⟩ := gp_in a2 n j hin
                clear hin
                obtain ⟨l_q0, q0⟩ := Ux.out.cellg j (by omega)
                obtain ⟨v0, v1⟩ := Ux.out.2.2.1 j
                obtain ⟨y0, y1⟩ := UM.out.2.2.1 (n * N + j)
                obtain ⟨s0, s1⟩ := gatV_rngA f (fun k => zM (n * N + k)) zX (tb a2 n) (gp a2 n j) f0 f1
                have SV : Hid ((addS (gatV addS f (fun k => zM (n * N + k)) zX (tb a2 n) (gp a2 n j)) (mulS (zM (n * N + j)) (zX j)).1).1 = gatV addS f (fun k => zM (n * N + k)) zX (tb a2 n) (gp a2 n (j + 1))) := by
                  rw [hg1]
                  show _ = (addS (gatV addS f (fun k => zM (n * N + k)) zX (tb a2 n) (gp a2 n j)) (mulS (zM (n * N + (tb a2 n + gp a2 n j))) (zX (tb a2 n + gp a2 n j))).1).1
                  rw [hg2]
                have SF : Hid (bits .or .u8 (bits .or .u8 (gatF addS F1 f (fun k => zM (n * N + k)) zX (tb a2 n) (gp a2 n j)) (mulS (zM (n * N + j)) (zX j)).2) (addS (gatV addS f (fun k => zM (n * N + k)) zX (tb a2 n) (gp a2 n j)) (mulS (zM (n * N + j)) (zX j)).1).2 = gatF addS F1 f (fun k => zM (n * N + k)) zX (tb a2 n) (gp a2 n (j + 1))) := by
                  rw [hg1]
                  show _ = bits .or .u8 (bits .or .u8 (gatF addS F1 f (fun k => zM (n * N + k)) zX (tb a2 n) (gp a2 n j)) (mulS (zM (n * N + (tb a2 n + gp a2 n j))) (zX (tb a2 n + gp a2 n j))).2) (addS (gatV addS f (fun k => zM (n * N + k)) zX (tb a2 n) (gp a2 n j)) (mulS (zM (n * N + (tb a2 n + gp a2 n j))) (zX (tb a2 n + gp a2 n j))).1).2
                  rw [hg2]
                obtain ⟨u0, u1⟩ := mulS_rng (zM (n * N + j)) (zX j)
                obtain ⟨FJ, hFJ⟩ : ∃ g, gatF addS F1 f (fun k => zM (n * N + k)) zX (tb a2 n) (gp a2 n j) = g := ⟨_, rfl⟩
                obtain ⟨sj, hsj⟩ : ∃ g, gatV addS f (fun k => zM (n * N + k)) zX (tb a2 n) (gp a2 n j) = g := ⟨_, rfl⟩
                obtain ⟨v, hv⟩ : ∃ v, zX j = v := ⟨_, rfl⟩
                obtain ⟨y, hy⟩ : ∃ v, zM (n * N + j) = v := ⟨_, rfl⟩
                rw [hv] at q0 v0 v1 SV SF u0 u1
                rw [hy] at y0 y1 SV SF u0 u1
                rw [hFJ] at SF Hk
                rw [hsj] at SV SF s0 s1 ⊢
                obtain ⟨MM, hM2⟩ : ∃ M, mulS y v = M := ⟨_, rfl⟩
                rw [hM2] at SF SV u0 u1
                have HM2 : Hid (_ = _) := hM2
                have HY1 : Hid (_ = _) := hy
                have HV1 : Hid (_ = _) := hv
                clear hv hy hFJ hsj hM2 hg1 hg2
                obtain ⟨u, fu⟩ := MM
                simp only at SF SV u0 u1
                go_wp2_with fail
                obtain ⟨M_0, M_1, M_2, M_3, M_4⟩ := M.out
                have ct : Cnt 1 := Cnt.mk _
                go_region_held3 (fun w' => (w'.cell? ⟨k_M, 0, none⟩ = some (.int .i64 (N : Int)) ∧ w'.cell? ⟨k_M, 1, none⟩ = some (.int .i64 (N : Int)) ∧ w'.cell? ⟨k_M, 2, none⟩ = some (.int .i64 (N : Int)) ∧ w'.cell? ⟨k_M, 3, none⟩ = some (.slice (some ⟨gM, 0, none⟩) (N * N) (N * N))) ∧ (w'.cell? ⟨gx, j, none⟩ = some (.int .u64 v))) (simp [go_sem, *]) (first | (have ck : Cnt 1 := ct; go_at_call 19; refine (mAtN N N N _ _ _ zM n j _ TM.out (by first | (with_reducible exact UM.out) | exact UM.out.below ((Below.refl _ _).drew)) (by omega) (by omega)).mono ?_; rintro e w8_ ⟨rfl, hb8_⟩; replace hb8_ : Below w7_.heap.size w7_ w8_ := (by first | exact hb8_ | exact ((Below.refl _ _).drew).trans hb8_); rw [HY1.out]; clear M_0 M_1 M_2 M_3 M_4; replace BW : Hid (Below _ _ _) := bstep BW.out hb8_; replace UM : Hid (URow _ _ _ _ _) := UM.out.below hb8_; replace M : Hid (MBox _ _ _ _ _ _) := M.out.below hb8_; replace Ux : Hid (URow _ _ _ _ _) := Ux.out.below hb8_; replace Ox : Hid (OwnU _ _ _ _) := Ox.out.below hb8_; replace Hc : Hid (IsCalc _ _ _ _) := Hc.out.later hb8_; replace Uy : Hid (URow _ _ _ _ _) := Uy.out.below hb8_; replace Hk : Hid (IsCalc _ _ _ _) := Hk.out.later hb8_; replace HS6 : Hid (Bes _ _ _) := HS6.out.step hb8_; replace HS7 : Hid (Bes _ _ _) := HS7.out.step hb8_; obtain ⟨M_0, M_1, M_2, M_3, M_4⟩ := M.out; obtain ⟨l_q1, q1⟩ := Ux.out.cellg j (by omega); rw [HV1.out] at q1; replace ct : Cnt 2 := Cnt.mk _; clear hb8_ ck) | (have ck : Cnt 2 := ct; go_at_call 20; refine (uMul (.pointer (some ⟨kk, 0, none⟩)) (some kk) y v FJ _ (by first | (with_reducible exact Hk.out) | exact Hk.out.later ((Below.refl _ _).drew)) y0 y1 v0 v1).mono ?_; rintro e w9_ ⟨rfl, hC_, hb9_⟩; replace hb9_ : Bes (some kk) w8_ w9_ := (by first | exact hb9_ | exact ((Bes.refl _ _).drew).trans hb9_); rw [HM2.out] at hC_ ⊢; clear M_0 M_1 M_2 M_3 M_4; replace BW : Hid (Below _ _ _) := Bes.old BW.out hb9_ Ok.out; replace UM : Hid (URow _ _ _ _ _) := UM.out.bes hb9_ A_k_UM.out; replace M : Hid (MBox _ _ _ _ _ _) := M.out.bes hb9_ (ne_some A_k_M.out); replace Ux : Hid (URow _ _ _ _ _) := Ux.out.bes hb9_ A_k_Ux.out; replace Ox : Hid (OwnU _ _ _ _) := Ox.out.bes hb9_ (ne_some A_k_Ox.out); replace Hc : Hid (IsCalc _ _ _ _) := Hc.out.bes hb9_ (fun j e1 e2 => A_k_c.out ((Option.some.inj e2).trans (Option.some.inj e1).symm)); replace Uy : Hid (URow _ _ _ _ _) := Uy.out.bes hb9_ (Apt.ne Nkk_gy.out); replace HS6 : Hid (Bes _ _ _) := HS6.out.trans hb9_; replace HS7 : Hid (Bes _ _ _) := HS7.out.trans hb9_; clear Hk; have Hk : Hid (IsCalc w9_ (.pointer (some ⟨kk, 0, none⟩)) (some kk) (bits .or .u8 FJ fu)) := hC_; clear hC_; obtain ⟨M_0, M_1, M_2, M_3, M_4⟩ := M.out; obtain ⟨l_q2, q2⟩ := Ux.out.cellg j (by omega); rw [HV1.out] at q2; replace ct : Cnt 3 := Cnt.mk _; clear hb9_ ck) | (have ck : Cnt 3 := ct; go_at_call 21; refine (uAdd (.pointer (some ⟨kk, 0, none⟩)) (some kk) sj u _ _ (by first | (with_reducible exact Hk.out) | exact Hk.out.later ((Below.refl _ _).drew)) s0 s1 u0 u1).mono ?_; rintro e w10_ ⟨rfl, hC_, hb10_⟩; replace hb10_ : Bes (some kk) w9_ w10_ := (by first | exact hb10_ | exact ((Bes.refl _ _).drew).trans hb10_); rw [SV.out]; rw [SF.out] at hC_; clear M_0 M_1 M_2 M_3 M_4; replace BW : Hid (Below _ _ _) := Bes.old BW.out hb10_ Ok.out; replace UM : Hid (URow _ _ _ _ _) := UM.out.bes hb10_ A_k_UM.out; replace M : Hid (MBox _ _ _ _ _ _) := M.out.bes hb10_ (ne_some A_k_M.out); replace Ux : Hid (URow _ _ _ _ _) := Ux.out.bes hb10_ A_k_Ux.out; replace Ox : Hid (OwnU _ _ _ _) := Ox.out.bes hb10_ (ne_some A_k_Ox.out); replace Hc : Hid (IsCalc _ _ _ _) := Hc.out.bes hb10_ (fun j e1 e2 => A_k_c.out ((Option.some.inj e2).trans (Option.some.inj e1).symm)); replace Uy : Hid (URow _ _ _ _ _) := Uy.out.bes hb10_ (Apt.ne Nkk_gy.out); replace HS6 : Hid (Bes _ _ _) := HS6.out.trans hb10_; replace HS7 : Hid (Bes _ _ _) := HS7.out.trans hb10_; clear Hk; have Hk : Hid (IsCalc w10_ (.pointer (some ⟨kk, 0, none⟩)) (some kk) (gatF addS F1 f (fun k => zM (n * N + k)) zX (tb a2 n) (gp a2 n (j + 1)))) := hC_; clear hC_; obtain ⟨M_0, M_1, M_2, M_3, M_4⟩ := M.out; obtain ⟨l_q3, q3⟩ := Ux.out.cellg j (by omega); rw [HV1.out] at q3; replace ct : Cnt 4 := Cnt.mk _; clear hb10_ ck))
                clear ct
                go_wp2
                go_roundw
                case rel => exact ⟨j + 1, rfl, by go_num, by omega, Hk, HS7⟩
                case measure => simp [intOf]; omega
              · have hin2 : (if a2 then decide (n < j) else decide (j < n)) = false := by cases h : (if a2 then decide (n < j) else decide (j < n)) <;> simp_all
                rw [hin2]
                have hgo := gp_out a2 n j hin2
                have HKO : Hid (IsCalc w7_ (.pointer (some ⟨kk, 0, none⟩)) (some kk) (gatF addS F1 f (fun k => zM (n * N + k)) zX (tb a2 n) (gp a2 n (j + 1)))) := by show IsCalc _ _ _ _; rw [hgo]; exact Hk.out
                have HSO : Hid (gatV addS f (fun k => zM (n * N + k)) zX (tb a2 n) (gp a2 n j) = gatV addS f (fun k => zM (n * N + k)) zX (tb a2 n) (gp a2 n (j + 1))) := by show _ = _; rw [hgo]
                rw [HSO.out]
                clear hgo hin hin2
                go_wp2
                go_roundw
                case rel => exact ⟨j + 1, rfl, by go_num, by omega, HKO, HS7⟩
                case measure => simp [intOf]; omega
            · obtain rfl : N = j := by omega
              clear HS7
              have HGA : Hid (_ = _) := gp_all a2 N n (by omega)
              rw [HGA.out] at Hk ⊢
              rw [TV.out]
              rw [TF.out] at Hk
              obtain ⟨l_y, qy⟩ := Uy.out.cellg n (by omega)
              go_wp2
              go_roundw
              case rel => exact ⟨n + 1, by go_num, by omega, Hk, HS6⟩
              case measure => simp [intOf]; omega
    · obtain rfl : N = n := by omega
      clear HS6
      clear Ux Uy
      obtain ⟨FF, hFF⟩ : ∃ F, tmF a2 a3 0 zM N N zX N = F := ⟨_, rfl⟩
      rw [hFF] at Hc Hk
      clear hFF
      obtain ⟨N1, hN1⟩ : ∃ x, x = N + 1 := ⟨_, rfl⟩
      have HNL : Hid ((lst zX N ++ [(0 : Int)]).length = N1) := by
        show _ = _
        rw [List.length_append, lst_len]
        exact hN1.symm
      have HNE : Hid ((N : Int) ≠ (N1 : Int)) := by show _ ≠ _; omega
      have HLM : Hid (((N * N : Nat) : Int) ≤ 9223372036854775807) := by show _ ≤ _; omega
      clear hN1
      obtain ⟨M_0, M_1, M_2, M_3, M_4⟩ := M.out
      go_wp2_with fail
      clear M_0 M_1 M_2 M_3 M_4
      go_cut [19] (fun t wx => t = .int .i64 4 ∧ Hid (Bes (some gx) w6_ wx) ∧ Hid (OwnU wx BX (.slice (some ⟨gx, 0, none⟩) N cx0) (lst zX N)))
      case first =>
        as_aux_lemma =>
          obtain ⟨M_0, M_1, M_2, M_3, M_4⟩ := M.out
          have dh : ∀ w : World, w.drew.heap = w.heap := fun _ => rfl
          have ct : Cnt 1 := Cnt.mk _
          have HBa : Hid (Bes (some gx) w6_ w6_) := Bes.refl _ _
          go_region_held3 (fun w' => (w'.cell? ⟨k_M, 0, none⟩ = some (.int .i64 (N : Int)) ∧ w'.cell? ⟨k_M, 1, none⟩ = some (.int .i64 (N : Int)) ∧ w'.cell? ⟨k_M, 2, none⟩ = some (.int .i64 (N : Int)) ∧ w'.cell? ⟨k_M, 3, none⟩ = some (.slice (some ⟨gM, 0, none⟩) (N * N) (N * N)))) (exact (M.out.bes (by with_reducible repeat (first | (refine Bes.drew ?_) | (refine Bes.alloc ?_ _) | exact HBa.out | exact Bes.refl _ _)) (ne_some (Ne.symm NMX.out))).cells) (first | (have ck : Cnt 1 := ct; refine stepU_keep rfl _ _ rfl BX _ (lst zX N) rfl (Ox.out.below (by with_reducible repeat (first | (refine Below.drew ?_) | (refine bmore ?_ _) | exact Below.refl _ _))) _ [0] rfl (by first | exact sees_at _ _ _ (by first | (simp [dh]; done) | (simp [dh]; omega) | omega) | exact (sees_at _ _ _ (by first | (simp [dh]; done) | (simp [dh]; omega) | omega)).below (Below.refl _ _).drew) (by rw [lst_len]; simp; omega) (by have := Ox.out.lt; have := HGX.out; first | (simp [dh]; done) | (simp [dh]; omega) | omega) ?_; intro v7 w7 own7 keep7 hg7; have bes7 : Bes (some gx) w6_ w7 := Bes.trans (by with_reducible repeat (first | (refine Bes.drew ?_) | (refine Bes.alloc ?_ _) | exact HBa.out | exact Bes.refl _ _)) (Bes.grown hg7); obtain ⟨g7, c7, hv7_, _⟩ := own7.at; have HV7 : Hid (v7 = _) := hv7_; clear hv7_; have KP : Hid (OwnU w7 BX (.slice (some ⟨gx, 0, none⟩) N cx0) (lst zX N)) := keep7; replace HBa : Hid (Bes (some gx) w6_ w7) := bes7; replace ct : Cnt 2 := Cnt.mk _; clear ck) | (have ck : Cnt 2 := ct; go_at_call 40; rw [HV7.out, HNL.out]; refine (sTrmvBad (.pointer (some ⟨kc, 0, none⟩)) N N _ (N * N) (N * N) a2 a3 _ N1 c7 _ TM.out HLM.out HNE.out).mono ?_; rintro e w8 ⟨rfl, hb8⟩; replace HBa : Hid (Bes (some gx) w6_ w8) := Bes.trans (by with_reducible repeat (first | (refine Bes.drew ?_) | (refine Bes.alloc ?_ _) | exact HBa.out | exact Bes.refl _ _)) (Bes.of hb8); replace KP : Hid (OwnU w8 BX (.slice (some ⟨gx, 0, none⟩) N cx0) (lst zX N)) := (by first | exact KP.out.below hb8 | exact (KP.out.below (Below.refl _ _).drew).below hb8); replace ct : Cnt 3 := Cnt.mk _; clear ck hb8))
          all_goals
            go_wp2
            go_meet
            exact ⟨rfl, HBa, KP⟩
      case rest =>
        clear Ox
        obtain ⟨rfl, hb_, Ox⟩ := hcut
        obtain ⟨w7_, rfl⟩ : ∃ x, x = wc := ⟨wc, rfl⟩
        replace BW : Hid (Below _ _ _) := Bes.old BW.out hb_.out (Nat.le_trans LBX.out HGX.out)
        replace UM : Hid (URow _ _ _ _ _) := UM.out.bes hb_.out AMX.out
        replace M : Hid (MBox _ _ _ _ _ _) := M.out.bes hb_.out (ne_some (Ne.symm NMX.out))
        replace Hc : Hid (IsCalc _ _ _ _) := Hc.out.bes hb_.out (fun k e1 e2 => A_c_Ox.out ((Option.some.inj e1).trans (Option.some.inj e2).symm))
        replace Hk : Hid (IsCalc _ _ _ _) := Hk.out.bes hb_.out (fun k e1 e2 => A_k_Ox.out ((Option.some.inj e1).trans (Option.some.inj e2).symm))
        clear hb_
        go_wp2_with fail
        go_cut [21] (fun t wx => t = .int .i64 4 ∧ Hid (Bes (some gx) w7_ wx) ∧ Hid (OwnU wx BX (.slice (some ⟨gx, 0, none⟩) N cx0) (lst zX N)))
        case first =>
          as_aux_lemma =>
            obtain ⟨M_0, M_1, M_2, M_3, M_4⟩ := M.out
            have dh : ∀ w : World, w.drew.heap = w.heap := fun _ => rfl
            have ct : Cnt 1 := Cnt.mk _
            have HBa : Hid (Bes (some gx) w7_ w7_) := Bes.refl _ _
            go_region_held3 (fun w' => (w'.cell? ⟨k_M, 0, none⟩ = some (.int .i64 (N : Int)) ∧ w'.cell? ⟨k_M, 1, none⟩ = some (.int .i64 (N : Int)) ∧ w'.cell? ⟨k_M, 2, none⟩ = some (.int .i64 (N : Int)) ∧ w'.cell? ⟨k_M, 3, none⟩ = some (.slice (some ⟨gM, 0, none⟩) (N * N) (N * N)))) (exact (M.out.bes (by with_reducible repeat (first | (refine Bes.drew ?_) | (refine Bes.alloc ?_ _) | exact HBa.out | exact Bes.refl _ _)) (ne_some (Ne.symm NMX.out))).cells) (first | (have ck : Cnt 1 := ct; refine stepU_keep rfl _ _ rfl BX _ (lst zX N) rfl (Ox.out.below (by with_reducible repeat (first | (refine Below.drew ?_) | (refine bmore ?_ _) | exact Below.refl _ _))) _ [0] rfl (by first | exact sees_at _ _ _ (by first | (simp [dh]; done) | (simp [dh]; omega) | omega) | exact (sees_at _ _ _ (by first | (simp [dh]; done) | (simp [dh]; omega) | omega)).below (Below.refl _ _).drew) (by rw [lst_len]; simp; omega) (by have := Ox.out.lt; have := HGX.out; first | (simp [dh]; done) | (simp [dh]; omega) | omega) ?_; intro v7 w7 own7 keep7 hg7; have bes7 : Bes (some gx) w7_ w7 := Bes.trans (by with_reducible repeat (first | (refine Bes.drew ?_) | (refine Bes.alloc ?_ _) | exact HBa.out | exact Bes.refl _ _)) (Bes.grown hg7); obtain ⟨g7, c7, hv7_, _⟩ := own7.at; have HV7 : Hid (v7 = _) := hv7_; clear hv7_; have KP : Hid (OwnU w7 BX (.slice (some ⟨gx, 0, none⟩) N cx0) (lst zX N)) := keep7; replace HBa : Hid (Bes (some gx) w7_ w7) := bes7; replace ct : Cnt 2 := Cnt.mk _; clear ck) | (have ck : Cnt 2 := ct; go_at_call 42; rw [HV7.out, HNL.out]; refine (sTrsvBad (.pointer (some ⟨kc, 0, none⟩)) N N _ (N * N) (N * N) a2 a3 _ N1 c7 _ TM.out HLM.out HNE.out).mono ?_; rintro e w8 ⟨rfl, hb8⟩; replace HBa : Hid (Bes (some gx) w7_ w8) := Bes.trans (by with_reducible repeat (first | (refine Bes.drew ?_) | (refine Bes.alloc ?_ _) | exact HBa.out | exact Bes.refl _ _)) (Bes.of hb8); replace KP : Hid (OwnU w8 BX (.slice (some ⟨gx, 0, none⟩) N cx0) (lst zX N)) := (by first | exact KP.out.below hb8 | exact (KP.out.below (Below.refl _ _).drew).below hb8); replace ct : Cnt 3 := Cnt.mk _; clear ck hb8))
            all_goals
              go_wp2
              go_meet
              exact ⟨rfl, HBa, KP⟩
        case rest =>
          clear Ox
          obtain ⟨rfl, hb_, Ox⟩ := hcut
          obtain ⟨w8_, rfl⟩ : ∃ x, x = wc := ⟨wc, rfl⟩
          replace BW : Hid (Below _ _ _) := Bes.old BW.out hb_.out (Nat.le_trans LBX.out HGX.out)
          replace UM : Hid (URow _ _ _ _ _) := UM.out.bes hb_.out AMX.out
          replace M : Hid (MBox _ _ _ _ _ _) := M.out.bes hb_.out (ne_some (Ne.symm NMX.out))
          replace Hc : Hid (IsCalc _ _ _ _) := Hc.out.bes hb_.out (fun k e1 e2 => A_c_Ox.out ((Option.some.inj e1).trans (Option.some.inj e2).symm))
          replace Hk : Hid (IsCalc _ _ _ _) := Hk.out.bes hb_.out (fun k e1 e2 => A_k_Ox.out ((Option.some.inj e1).trans (Option.some.inj e2).symm))
          clear hb_
          go_wp2_with fail
          go_cut [24] (fun t wx => t = .int .i64 4 ∧ Hid (Bes (some gx) w8_ wx) ∧ Hid (OwnU wx BX (.slice (some ⟨gx, 0, none⟩) N cx0) (lst zX N)))
          case first =>
            as_aux_lemma =>
              obtain ⟨M_0, M_1, M_2, M_3, M_4⟩ := M.out
              have dh : ∀ w : World, w.drew.heap = w.heap := fun _ => rfl
              have ct : Cnt 1 := Cnt.mk _
              have HBa : Hid (Bes (some gx) w8_ w8_) := Bes.refl _ _
              go_region_held3 (fun w' => (w'.cell? ⟨k_M, 0, none⟩ = some (.int .i64 (N : Int)) ∧ w'.cell? ⟨k_M, 1, none⟩ = some (.int .i64 (N : Int)) ∧ w'.cell? ⟨k_M, 2, none⟩ = some (.int .i64 (N : Int)) ∧ w'.cell? ⟨k_M, 3, none⟩ = some (.slice (some ⟨gM, 0, none⟩) (N * N) (N * N)))) (exact (M.out.bes (by with_reducible repeat (first | (refine Bes.drew ?_) | (refine Bes.alloc ?_ _) | exact HBa.out | exact Bes.refl _ _)) (ne_some (Ne.symm NMX.out))).cells) (first | (have ck : Cnt 1 := ct; refine stepU_keep rfl _ _ rfl BX _ (lst zX N) rfl (Ox.out.below (by with_reducible repeat (first | (refine Below.drew ?_) | (refine bmore ?_ _) | exact Below.refl _ _))) _ [0] rfl (by first | exact sees_at _ _ _ (by first | (simp [dh]; done) | (simp [dh]; omega) | omega) | exact (sees_at _ _ _ (by first | (simp [dh]; done) | (simp [dh]; omega) | omega)).below (Below.refl _ _).drew) (by rw [lst_len]; simp; omega) (by have := Ox.out.lt; have := HGX.out; first | (simp [dh]; done) | (simp [dh]; omega) | omega) ?_; intro v7 w7 own7 keep7 hg7; have bes7 : Bes (some gx) w8_ w7 := Bes.trans (by with_reducible repeat (first | (refine Bes.drew ?_) | (refine Bes.alloc ?_ _) | exact HBa.out | exact Bes.refl _ _)) (Bes.grown hg7); obtain ⟨g7, c7, hv7_, _⟩ := own7.at; have HV7 : Hid (v7 = _) := hv7_; clear hv7_; have KP : Hid (OwnU w7 BX (.slice (some ⟨gx, 0, none⟩) N cx0) (lst zX N)) := keep7; replace HBa : Hid (Bes (some gx) w8_ w7) := bes7; replace ct : Cnt 2 := Cnt.mk _; clear ck) | (have ck : Cnt 2 := ct; go_at_call 43; rw [HV7.out, HNL.out]; refine (sPivotBad (.pointer (some ⟨kc, 0, none⟩)) N N _ (N * N) (N * N) _ _ N1 c7 _ TM.out HLM.out HNE.out).mono ?_; rintro e w8 ⟨rfl, hb8⟩; replace HBa : Hid (Bes (some gx) w8_ w8) := Bes.trans (by with_reducible repeat (first | (refine Bes.drew ?_) | (refine Bes.alloc ?_ _) | exact HBa.out | exact Bes.refl _ _)) (Bes.of hb8); replace KP : Hid (OwnU w8 BX (.slice (some ⟨gx, 0, none⟩) N cx0) (lst zX N)) := (by first | exact KP.out.below hb8 | exact (KP.out.below (Below.refl _ _).drew).below hb8); replace ct : Cnt 3 := Cnt.mk _; clear ck hb8))
              all_goals
                go_wp2
                go_meet
                exact ⟨rfl, HBa, KP⟩
          case rest =>
            clear Ox
            obtain ⟨rfl, hb_, Ox⟩ := hcut
            obtain ⟨w9_, rfl⟩ : ∃ x, x = wc := ⟨wc, rfl⟩
            replace BW : Hid (Below _ _ _) := Bes.old BW.out hb_.out (Nat.le_trans LBX.out HGX.out)
            replace UM : Hid (URow _ _ _ _ _) := UM.out.bes hb_.out AMX.out
            replace M : Hid (MBox _ _ _ _ _ _) := M.out.bes hb_.out (ne_some (Ne.symm NMX.out))
            replace Hc : Hid (IsCalc _ _ _ _) := Hc.out.bes hb_.out (fun k e1 e2 => A_c_Ox.out ((Option.some.inj e1).trans (Option.some.inj e2).symm))
            replace Hk : Hid (IsCalc _ _ _ _) := Hk.out.bes hb_.out (fun k e1 e2 => A_k_Ox.out ((Option.some.inj e1).trans (Option.some.inj e2).symm))
            clear hb_
            obtain ⟨c1, c2, c3⟩ := calc_cell Hc.out
            obtain ⟨k1, k2, k3⟩ := calc_cell Hk.out
            go_wp2_with fail
            have ct : Cnt 1 := Cnt.mk _
            go_region_held3 (fun w' => (w'.cell? ⟨kc, 0, none⟩ = some (.int .u8 FF)) ∧ (w'.cell? ⟨kk, 0, none⟩ = some (.int .u8 FF))) (simp [go_sem, *]) (first | fail)
            clear ct
            have hb_ : Below w9_.heap.size w9_ w9_.drew := (Below.refl _ _).drew
            generalize w9_.drew = w10_ at hb_ ⊢
            replace BW : Hid (Below _ _ _) := bstep BW.out hb_
            replace UM : Hid (URow _ _ _ _ _) := UM.out.below hb_
            replace M : Hid (MBox _ _ _ _ _ _) := M.out.below hb_
            replace Hc : Hid (IsCalc _ _ _ _) := Hc.out.later hb_
            replace Hk : Hid (IsCalc _ _ _ _) := Hk.out.later hb_
            replace Ox : Hid (OwnU _ _ _ _) := Ox.out.below hb_
            clear hb_
            go_wp2
            go_ret
            exact ⟨ret_eq rfl, BW.out⟩

/-! ### THE ROW's STEP: WRITTEN OUT: LEAVE IT -/
set_option maxRecDepth 100000 in
theorem lifted (os : Os) (started : os.Started) (H : Type) (enc : TypeId × Value → H) :
    ReturnsInHanded {} Try.checked os 7 .any (Rows.solveTimesSpec.pre6 enc Try.prog Try.f7 Rows.solveTimesRow.domain false) (Rows.solveTimesSpec.post enc Try.prog Try.f7 false true false false) := by
  refine returnsInHanded_of_change (C := Try.checked) own started (by kernel_rfl) Try.func7
    (ChangeSpec.witness6 (enc := enc) (C := Try.checked) false ⟨#[], #[.int .i64 0, .slice none 0 0, .bool false, .bool false], []⟩ 8 (by kernel_rfl) (by kernel_rfl) (by kernel_rfl) (by kernel_rfl)) ?_
  intro W base args ds gs before hval0 hW hcnd _
  have hval : ∀ (j : Nat) t v, Try.f7.params[j]? = some t → args[j]? = some v → Value.okWide Try.prog W .any base t v := hval0
  have hW' := hW
  obtain ⟨p, q, hA0, hV, rfl, hfz, hnd⟩ := hW
  have hA : DataW.TrodAll enc Try.prog W 0 (fun _ => true) true Try.f7.params.toList args.toList ds p := hA0
  rw [Try.params7] at hA hval
  obtain ⟨v0, vs0, d0, ds0, p0, q0, hargs, rfl, rfl, h0, r0⟩ := trodAll_cons hA
  obtain ⟨v1, vs1, d1, ds1, p1, q1, rfl, rfl, rfl, h1, r1⟩ := trodAll_cons r0
  obtain ⟨v2, vs2, d2, ds2, p2, q2, rfl, rfl, rfl, h2, r2⟩ := trodAll_cons r1
  obtain ⟨v3, vs3, d3, ds3, p3, q3, rfl, rfl, rfl, h3, r3⟩ := trodAll_cons r2
  obtain ⟨rfl, rfl, rfl⟩ := trodAll_nil r3
  obtain rfl : args = #[v0, v1, v2, v3] := by cases args; simp_all
  obtain ⟨rfl, rfl⟩ := trodVars_none hV
  obtain ⟨a0, rfl, rfl, rfl, w0⟩ := open_int Try.underlying3 (hval 0 3 v0 rfl rfl) h0
  obtain ⟨a1, len1, cap1, rfl⟩ := okWide_slice Try.underlying22 (hval 1 22 v1 rfl rfl)
  have k1 := h1
  have lt1 : ∀ x ∈ p1, x.block < W.heap.size := by obtain ⟨m, hm⟩ := k1; exact DataW.trod_lt m _ _ _ hm
  obtain ⟨z1, w1⟩ : ∃ zs, IsRow .u64 W a1 len1 cap1 zs := by
    obtain ⟨fuel, hf⟩ := h1
    rcases open_ints Try.underlying22 Try.underlying23 (by kernel_rfl) hf with ⟨hcs, _⟩ | ⟨x, l, c, zs, hcs, _, hl, hm, hz, _, hcell, hwz⟩
    · simp [Value.cells] at hcs
      obtain ⟨rfl, rfl, rfl⟩ := hcs
      exact ⟨[], .inl ⟨rfl, rfl, rfl, rfl⟩⟩
    · simp [Value.cells] at hcs
      obtain ⟨rfl, rfl, rfl⟩ := hcs
      exact ⟨zs, .inr ⟨_, rfl, hl, hm, by simpa using hz, hcell, hwz⟩⟩
  obtain ⟨a2, rfl, rfl, rfl⟩ := open_bool Try.underlying4 (hval 2 4 v2 rfl rfl) h2
  obtain ⟨a3, rfl, rfl, rfl⟩ := open_bool Try.underlying4 (hval 3 4 v3 rfl rfl) h3
  clear hA0 hval0
  refine (walk a0 a1 len1 cap1 z1 a2 a3 W w0 w1).mono fun e W' ⟨he, bel⟩ => ?_
  subst he
  exact ⟨_, rfl, _, _, _, [], _, [], hW', trodAll_mk1 (shut_bool Try.underlying4 _), (trodAll_cons_mk (shut_int Try.underlying3 w0) (trodAll_cons_mk (Below.trod laidOut (by kernel_rfl) (of_decide_eq_true (by kernel_rfl)) k1 bel lt1) (trodAll_cons_mk (shut_bool Try.underlying4 _) (trodAll_cons_mk (shut_bool Try.underlying4 _) trodAll_mk0)))), rfl, bel.frame _, fun h => by cases h⟩

theorem over : Rows.solveTimesRow.holds Try.pinned (OpenSpec.ofChange Rows.solveTimesSpec) :=
  OpenClaim.holds_of_wide 7 Try.f7 rfl rfl rfl rfl rfl rfl rfl ⟨rfl, rfl, rfl, rfl, rfl⟩ rfl rfl rfl rfl rfl (by kernel_rfl) Try.func7 (by kernel_rfl)
    (of_decide_eq_true (by kernel_rfl)) (by unfold Func.isWrapper; first | (rw [if_pos (by decide +kernel)]; kernel_rfl) | (rw [if_neg (by decide +kernel)]; exact ⟨rfl, rfl⟩))
    (fun os started H enc _ => lifted os started H enc)

/-- ████ THE STATEMENT ████ -/
theorem proved : Rows.SolveTimesSaid := over
#print axioms proved
end Go.Proofs.Ytpakpgjbgehhjaa.solveTimes
