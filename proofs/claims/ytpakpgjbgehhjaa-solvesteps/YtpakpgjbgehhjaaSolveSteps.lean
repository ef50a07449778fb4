/-
  The law SolveSteps returns true at every input (any size, any slice of patterns, either triangle), and leaves its arguments as they were. No conditions.
-/
import Derived.Test.YtpakpgjbgehhjaaRows
import Derived.WalkKit
import Derived.ProofKit
import Derived.OpenShut
import Derived.Test.YtpakpgjbgehhjaaGrAF
import Derived.Test.YtpakpgjbgehhjaaGrO
import Derived.Test.YtpakpgjbgehhjaaGrU
import Derived.Test.YtpakpgjbgehhjaaGrZ
import Derived.ShutString
import Derived.ChangeOld
import Derived.Below
namespace Go.Proofs.Ytpakpgjbgehhjaa.solveSteps
open Go.ChangeShapes Go.WideShapes Go.ChangeAt Go.RowKit
open Go.ChangeMaps (open_string shut_string)
set_option linter.unusedVariables false

theorem own : ownKnob Try.prog.godebug = none := by kernel_rfl
theorem laidOut : laidOutB Try.prog = true := by kernel_rfl

/-- WHAT THE WALK IS TOLD OF A SLICE OF INTEGERS THAT CAME IN: it is nil; or it leads to a row of 'cap' cells, the numbers 'zs' (the first 'len' are its elements, the rest its spare room), each fitting its kind. -/
def IsRow (k : IntKind) (w : World) (a : Option Addr) (len cap : Nat) (zs : List Int) : Prop :=
  (a = none ∧ len = 0 ∧ cap = 0 ∧ zs = []) ∨
  ∃ x, a = some x ∧ len ≤ cap ∧ cap ≤ maxLen ∧ zs.length = cap ∧ (∀ i, i < zs.length → w.cell? (x.add i) = some (.int k (zs.getD i 0))) ∧ ∀ n ∈ zs, (Lit.int k n).wf = true

set_option linter.unusedSimpArgs false
theorem row_of (w : World) (a : Option Addr) (len cap : Nat) (zs : List Int) (h : IsRow .u64 w a len cap zs) : URow w a len cap (fun i => zs.getD i 0) := by
  rcases h with ⟨rfl, rfl, rfl, rfl⟩ | ⟨x, rfl, h1, h2, h3, h4, h5⟩
  · exact ⟨Nat.le_refl _, Nat.zero_le _, fun i => by simp, fun h => absurd h (Nat.lt_irrefl 0)⟩
  · refine ⟨h1, h2, fun i => ?_, fun hp => ?_⟩
    · show 0 ≤ zs.getD i 0 ∧ zs.getD i 0 < 18446744073709551616
      rcases Nat.lt_or_ge i zs.length with g | g
      · have hm : zs.getD i 0 ∈ zs := by
          rw [List.getD_eq_getElem?_getD, List.getElem?_eq_getElem g]
          exact List.getElem_mem g
        obtain ⟨q1, q2⟩ := bounds_u64 (h5 _ hm)
        exact ⟨q1, by omega⟩
      · rw [List.getD_eq_getElem?_getD, List.getElem?_eq_none g]
        simp
    · obtain ⟨b, o, s⟩ := x
      have hs : s = none := by simpa [Addr.add] using World.cell?_spot (h4 0 (by omega))
      subst hs
      have hb : b < w.heap.size := by
        have := World.block_lt_of_cell? _ _ (h4 0 (by omega))
        simpa [Addr.add] using this
      refine ⟨b, o, rfl, hb, fun i hi => ?_⟩
      have := h4 i (by omega)
      rw [add_plain] at this
      exact this
set_option maxRecDepth 100000 in
set_option maxHeartbeats 8000000 in
theorem walk (a0 : Int) (a1 : Option Addr) (len1 cap1 : Nat) (z1 : List Int) (a2 : Bool) (a3 : Bool) (w : World) (w0 : (Lit.int .i64 a0).wf = true) (w1 : IsRow .u64 w a1 len1 cap1 z1) :
    Calls Try.prog 8 #[.int .i64 a0, .slice a1 len1 cap1, .bool a2, .bool a3] w fun e w' => e = .returned (.bool true) ∧ Below w.heap.size w w' := by
  have hr := row_of w a1 len1 cap1 z1 w1
  generalize (fun i => z1.getD i 0) = U at hr
  clear w0 w1
  have a0e := and_7_i a0
  obtain ⟨N, hN⟩ : ∃ R : Nat, (R : Int) = a0 % 8 := ⟨(a0 % 8).toNat, by omega⟩
  rw [← hN] at a0e
  have hN7 : N ≤ 7 := by omega
  clear hN
  have hNN : N * N ≤ 49 := Nat.mul_le_mul hN7 hN7
  obtain ⟨lx, cx⟩ := hr.lenB
  have HR : Hid (URow _ _ _ _ _) := hr
  clear hr
  by_cases hl : 100 < len1
  · have hl2 : (100 : Int) < (len1 : Int) := by omega
    go_enter Try.func8, Try.ntmps8
    go_wp2_with fail
    refine (lHead12 _).mono ?_
    rintro e w1 ⟨rfl, hb1⟩
    go_wp2
    go_ret
    exact ⟨ret_eq rfl, hb1⟩
  have hl2 : ¬ (100 : Int) < (len1 : Int) := by omega
  have hdl : decide ((100 : Int) < (len1 : Int)) = false := decide_eq_false hl2
  obtain ⟨zM, hzM⟩ : ∃ z : Nat → Int, z = mC U len1 0 0 := ⟨_, rfl⟩
  obtain ⟨zX, hzX⟩ : ∃ z : Nat → Int, z = mC U len1 5 4607182418800017408 := ⟨_, rfl⟩
  have HzM : Hid (_ = _) := hzM
  have HzX : Hid (_ = _) := hzX
  clear hzM hzX
  have TM : Hid (Rgt (N : Int) (N : Int) (N : Int) (N * N)) := tight N N (by omega) (by omega)
  go_enter Try.func8, Try.ntmps8
  go_wp2_with fail
  refine (lHead12 _).mono ?_
  rintro e w1 ⟨rfl, hb1⟩
  have BW : Hid (Below w.heap.size w w1) := hb1
  have UA : Hid (URow w1 a1 len1 cap1 U) := HR.out.below hb1
  clear hb1 HR
  go_wp2_with fail
  refine (lMade12 N 0 a1 len1 cap1 U _ UA.out (by omega) (by omega) (by omega)).mono ?_
  rintro e w1_ ⟨gM, rfl, _, hU_, hb1_⟩
  rw [← HzM.out] at hU_
  replace BW : Hid (Below _ _ _) := bstep BW.out hb1_
  replace UA : Hid (URow _ _ _ _ _) := UA.out.below hb1_
  clear hb1_
  have UM : Hid (URow w1_ (some ⟨gM, 0, none⟩) (N * N) (N * N) zM) := hU_
  clear hU_
  go_wp2_with fail
  have m_ := MBox.made w1_ (N : Int) (N : Int) (N : Int) (.slice (some ⟨gM, 0, none⟩) (N * N) (N * N))
  have b_ : Below w1_.heap.size w1_ (w1_.alloc (.cells #[.int .i64 (N : Int), .int .i64 (N : Int), .int .i64 (N : Int), .slice (some ⟨gM, 0, none⟩) (N * N) (N * N)] 26)) := (Below.refl _ _).alloc (Nat.le_refl _) _
  obtain ⟨k_M, hk_M⟩ : ∃ k, k = w1_.heap.size := ⟨_, rfl⟩
  have L_M : Hid (w.heap.size ≤ k_M) := by rw [hk_M]; exact BW.out.size
  rw [← hk_M] at m_ ⊢
  generalize (w1_.alloc (.cells #[.int .i64 (N : Int), .int .i64 (N : Int), .int .i64 (N : Int), .slice (some ⟨gM, 0, none⟩) (N * N) (N * N)] 26)) = w2_ at m_ b_ ⊢
  replace BW : Hid (Below _ _ _) := bstep BW.out b_
  replace UA : Hid (URow _ _ _ _ _) := UA.out.below b_
  replace UM : Hid (URow _ _ _ _ _) := UM.out.below b_
  have M : Hid (MBox w2_ k_M (N : Int) (N : Int) (N : Int) (.slice (some ⟨gM, 0, none⟩) (N * N) (N * N))) := m_
  clear m_ b_ hk_M
  refine (lList12 N 5 a1 len1 cap1 U _ UA.out (by omega) (by omega) (by omega)).mono ?_
  rintro e w3_ ⟨gx, cx0, rfl, hgx_, hO_, hU_, hb3_⟩
  rw [← HzX.out] at hU_ hO_
  have SX_ := hO_.sees
  clear hgx_ hO_
  replace BW : Hid (Below _ _ _) := bstep BW.out hb3_
  replace UA : Hid (URow _ _ _ _ _) := UA.out.below hb3_
  replace UM : Hid (URow _ _ _ _ _) := UM.out.below hb3_
  replace M : Hid (MBox _ _ _ _ _ _) := M.out.below hb3_
  clear hb3_
  have Ux : Hid (URow w3_ (some ⟨gx, 0, none⟩) N cx0 zX) := hU_
  clear hU_
  have Sx : Hid (SeesU w3_ (.slice (some ⟨gx, 0, none⟩) N cx0) (lst zX N)) := SX_
  clear SX_
  clear UA
  obtain ⟨M_0, M_1, M_2, M_3, M_4⟩ := M.out
  go_wp2_with fail
  have nc_ := calc_new w3_
  replace nc_ := nc_.later (bmore (Below.refl _ _) (.cells #[.int .u8 0] 32))
  have nk_ := calc_new (w3_.alloc (.cells #[.int .u8 0] 32))
  simp only [World.size_alloc] at nk_
  have bV_ : Below w3_.heap.size w3_ ((w3_.alloc (.cells #[.int .u8 0] 32)).alloc (.cells #[.int .u8 0] 32)) := bmore (bmore (Below.refl _ _) _) _
  clear M_0 M_1 M_2 M_3 M_4
  generalize ((w3_.alloc (.cells #[.int .u8 0] 32)).alloc (.cells #[.int .u8 0] 32)) = w4_ at nc_ nk_ bV_ ⊢
  obtain ⟨kc, hkc_⟩ : ∃ k, k = w3_.heap.size := ⟨_, rfl⟩
  obtain ⟨kk, hkk_⟩ : ∃ k, k = w3_.heap.size + 1 := ⟨_, rfl⟩
  rw [← hkk_] at nk_ ⊢
  rw [← hkc_] at nc_ ⊢
  have Oc : Hid (w.heap.size ≤ kc) := by show _ ≤ _; have := BW.out.size; omega
  have A_c_UM : Hid (Apt (some kc) (some ⟨gM, 0, none⟩) (N * N)) := UM.out.apt (fun k e => by injection e with e; omega)
  have A_c_M : Hid (kc ≠ k_M) := by have := M.out.2.2.2.2; show _ ≠ _; omega
  have A_c_Ux : Hid (Apt (some kc) (some ⟨gx, 0, none⟩) N) := Ux.out.apt (fun k e => by injection e with e; omega)
  have A_c_Sx : Hid (kc ≠ gx) := by have := Sx.out.lt; show _ ≠ _; omega
  have Ok : Hid (w.heap.size ≤ kk) := by show _ ≤ _; have := BW.out.size; omega
  have A_k_UM : Hid (Apt (some kk) (some ⟨gM, 0, none⟩) (N * N)) := UM.out.apt (fun k e => by injection e with e; omega)
  have A_k_M : Hid (kk ≠ k_M) := by have := M.out.2.2.2.2; show _ ≠ _; omega
  have A_k_Ux : Hid (Apt (some kk) (some ⟨gx, 0, none⟩) N) := Ux.out.apt (fun k e => by injection e with e; omega)
  have A_k_Sx : Hid (kk ≠ gx) := by have := Sx.out.lt; show _ ≠ _; omega
  have A_c_k : Hid (kc ≠ kk) := by show _ ≠ _; omega
  have A_k_c : Hid (kk ≠ kc) := by show _ ≠ _; omega
  replace BW : Hid (Below _ _ _) := bstep BW.out bV_
  replace UM : Hid (URow _ _ _ _ _) := UM.out.below bV_
  replace M : Hid (MBox _ _ _ _ _ _) := M.out.below bV_
  replace Ux : Hid (URow _ _ _ _ _) := Ux.out.below bV_
  replace Sx : Hid (SeesU _ _ _) := Sx.out.below bV_
  clear bV_ hkc_ hkk_
  have Hc : Hid (IsCalc w4_ (.pointer (some ⟨kc, 0, none⟩)) (some kc) (0)) := nc_
  clear nc_
  have Hk : Hid (IsCalc w4_ (.pointer (some ⟨kk, 0, none⟩)) (some kk) (0)) := nk_
  clear nk_
  by_cases hz : a3 = false ∧ ∃ i, i < N ∧ zM (i * N + i) % 9223372036854775808 = 0
  · as_aux_lemma =>
      obtain ⟨ha3, hz⟩ := hz
      subst ha3
      have HZ0 : Hid (∃ i, i < N ∧ zM (i * N + i) % 9223372036854775808 = 0) := hz
      clear hz
      refine (sTrsvSing a2 (.pointer (some ⟨kc, 0, none⟩)) N N _ _ _ zM _ _ _ TM.out UM.out HZ0.out).mono ?_
      rintro e w5_ ⟨rfl, hb5_⟩
      replace BW : Hid (Below _ _ _) := bstep BW.out hb5_
      replace UM : Hid (URow _ _ _ _ _) := UM.out.below hb5_
      replace M : Hid (MBox _ _ _ _ _ _) := M.out.below hb5_
      replace Ux : Hid (URow _ _ _ _ _) := Ux.out.below hb5_
      replace Sx : Hid (SeesU _ _ _) := Sx.out.below hb5_
      replace Hc : Hid (IsCalc _ _ _ _) := Hc.out.later hb5_
      replace Hk : Hid (IsCalc _ _ _ _) := Hk.out.later hb5_
      clear hb5_
      have HNZ : Hid (∀ j, j < 0 → zM (j * N + j) % 9223372036854775808 ≠ 0) := fun j h => absurd h (Nat.not_lt_zero j)
      go_wp2_with fail
      go_loopw [15] (fun s15_ wr => ∃ i : Nat, s15_ = .int .i64 (i : Int) ∧ i ≤ N ∧ Hid (Below w5_.heap.size w5_ wr) ∧ Hid (∀ j, j < i → zM (j * N + j) % 9223372036854775808 ≠ 0)) (fun s15_ _ => N - (intOf s15_).toNat)
      case atStart => exact ⟨0, rfl, Nat.zero_le _, Below.refl _ _, HNZ⟩
      case round =>
        clear HNZ
        obtain ⟨i, rfl, hi_, HS6, HNZ⟩ := hrel
        obtain ⟨w6_, rfl⟩ : ∃ x, x = wr := ⟨wr, rfl⟩
        replace BW : Hid (Below _ _ _) := bstep BW.out HS6.out
        replace UM : Hid (URow _ _ _ _ _) := UM.out.below HS6.out
        replace M : Hid (MBox _ _ _ _ _ _) := M.out.below HS6.out
        replace Ux : Hid (URow _ _ _ _ _) := Ux.out.below HS6.out
        replace Sx : Hid (SeesU _ _ _) := Sx.out.below HS6.out
        replace Hc : Hid (IsCalc _ _ _ _) := Hc.out.later HS6.out
        replace Hk : Hid (IsCalc _ _ _ _) := Hk.out.later HS6.out
        by_cases hlt : (i : Int) < (N : Int)
        · skip
          obtain ⟨x0, x1⟩ := UM.out.2.2.1 (i * N + i)
          obtain ⟨x, hx⟩ : ∃ x, zM (i * N + i) = x := ⟨_, rfl⟩
          have HX1 : Hid (_ = _) := hx
          rw [hx] at x0 x1
          clear hx
          obtain ⟨M_0, M_1, M_2, M_3, M_4⟩ := M.out
          go_wp2_with fail
          refine (mAtN N N N _ _ _ zM i i _ TM.out UM.out (by omega) (by omega)).mono ?_
          rintro e w7_ ⟨rfl, hb7_⟩
          rw [HX1.out]
          clear M_0 M_1 M_2 M_3 M_4
          replace BW : Hid (Below _ _ _) := bstep BW.out hb7_
          replace UM : Hid (URow _ _ _ _ _) := UM.out.below hb7_
          replace M : Hid (MBox _ _ _ _ _ _) := M.out.below hb7_
          replace Ux : Hid (URow _ _ _ _ _) := Ux.out.below hb7_
          replace Sx : Hid (SeesU _ _ _) := Sx.out.below hb7_
          replace Hc : Hid (IsCalc _ _ _ _) := Hc.out.later hb7_
          replace Hk : Hid (IsCalc _ _ _ _) := Hk.out.later hb7_
          replace HS6 : Hid (Below _ _ _) := bstep HS6.out hb7_
          clear hb7_
          go_wp2_with fail
          refine (abs_any x _ x0 x1).mono ?_
          rintro e w' ⟨rfl, hw⟩
          have hw2 := hw.symm
          clear hw
          subst hw2
          by_cases h0 : x % 9223372036854775808 = 0
          · rw [h0]
            clear h0 HNZ
            obtain ⟨c1, c2, c3⟩ := calc_cell Hc.out
            go_wp2
            go_ret
            exact ⟨ret_eq rfl, BW.out⟩
          · skip
            have HNZ2 : Hid (∀ j, j < i + 1 → zM (j * N + j) % 9223372036854775808 ≠ 0) := fun j hj => by
              rcases Nat.lt_or_ge j i with g | g
              · exact HNZ.out j g
              · rw [show j = i by omega, HX1.out]; exact h0
            have hb0 : (x % 9223372036854775808 == 0) = false := by rw [beq_eq_false_iff_ne]; exact h0
            obtain ⟨y, hy⟩ : ∃ y, x % 9223372036854775808 = y := ⟨_, rfl⟩
            rw [hy] at h0 hb0 ⊢
            clear hy
            go_wp2
            go_roundw
            case rel => exact ⟨i + 1, by go_num, by omega, HS6, HNZ2⟩
            case measure => simp [intOf]; omega
        · obtain rfl : N = i := by omega
          obtain ⟨i0, hi0, hz0⟩ := HZ0.out
          exact absurd hz0 (HNZ.out i0 hi0)
  · skip
    have HD : Hid (a3 = false → ∀ i, i < N → zM (i * N + i) % 9223372036854775808 ≠ 0) := fun h i hi g => hz ⟨h, i, hi, g⟩
    clear hz
    refine (sTrsv a2 a3 (.pointer (some ⟨kc, 0, none⟩)) (some kc) 0 N N _ _ _ zM _ _ zX _ Hc.out TM.out UM.out A_c_UM.out Ux.out A_c_Ux.out HD.out).mono ?_
    rintro e w5_ ⟨gy, rfl, hg_, hU_, hC_, hb5_⟩
    have Nkc_gy : Hid (kc ≠ gy) := fun e => absurd (Nat.lt_of_lt_of_le (Hc.out.lt _ rfl) hg_) (by rw [e]; exact Nat.lt_irrefl _)
    have Nkk_gy : Hid (kk ≠ gy) := fun e => absurd (Nat.lt_of_lt_of_le (Hk.out.lt _ rfl) hg_) (by rw [e]; exact Nat.lt_irrefl _)
    clear hg_
    replace BW : Hid (Below _ _ _) := Bes.old BW.out hb5_ Oc.out
    replace UM : Hid (URow _ _ _ _ _) := UM.out.bes hb5_ A_c_UM.out
    replace M : Hid (MBox _ _ _ _ _ _) := M.out.bes hb5_ (ne_some A_c_M.out)
    replace Ux : Hid (URow _ _ _ _ _) := Ux.out.bes hb5_ A_c_Ux.out
    replace Sx : Hid (SeesU _ _ _) := Sx.out.bes hb5_ (ne_some A_c_Sx.out)
    replace Hk : Hid (IsCalc _ _ _ _) := Hk.out.bes hb5_ (fun j e1 e2 => A_c_k.out ((Option.some.inj e2).trans (Option.some.inj e1).symm))
    clear hb5_
    clear Hc
    have Hc : Hid (IsCalc w5_ (.pointer (some ⟨kc, 0, none⟩)) (some kc) (svF a2 a3 0 zM N N zX N)) := hC_
    clear hC_
    have Uy : Hid (URow w5_ (some ⟨gy, 0, none⟩) N N (svX a2 a3 zM N N zX N)) := hU_
    clear hU_
    go_wp2_with fail
    go_loopw [15] (fun s15_ wr => ∃ i : Nat, s15_ = .int .i64 (i : Int) ∧ i ≤ N ∧ Hid (Below w5_.heap.size w5_ wr)) (fun s15_ _ => N - (intOf s15_).toNat)
    case atStart => exact ⟨0, rfl, Nat.zero_le _, Below.refl _ _⟩
    case round =>
      obtain ⟨i, rfl, hi_, HS6⟩ := hrel
      obtain ⟨w6_, rfl⟩ : ∃ x, x = wr := ⟨wr, rfl⟩
      replace BW : Hid (Below _ _ _) := bstep BW.out HS6.out
      replace UM : Hid (URow _ _ _ _ _) := UM.out.below HS6.out
      replace M : Hid (MBox _ _ _ _ _ _) := M.out.below HS6.out
      replace Ux : Hid (URow _ _ _ _ _) := Ux.out.below HS6.out
      replace Sx : Hid (SeesU _ _ _) := Sx.out.below HS6.out
      replace Hk : Hid (IsCalc _ _ _ _) := Hk.out.later HS6.out
      replace Hc : Hid (IsCalc _ _ _ _) := Hc.out.later HS6.out
      replace Uy : Hid (URow _ _ _ _ _) := Uy.out.below HS6.out
      by_cases hlt : (i : Int) < (N : Int)
      · as_aux_lemma =>
          cases hun : a3
          case false =>
            subst hun
            have h0 := HD.out rfl i (by omega)
            obtain ⟨x0, x1⟩ := UM.out.2.2.1 (i * N + i)
            obtain ⟨x, hx⟩ : ∃ x, zM (i * N + i) = x := ⟨_, rfl⟩
            have HX1 : Hid (_ = _) := hx
            rw [hx] at x0 x1 h0
            clear hx
            obtain ⟨M_0, M_1, M_2, M_3, M_4⟩ := M.out
            go_wp2_with fail
            refine (mAtN N N N _ _ _ zM i i _ TM.out UM.out (by omega) (by omega)).mono ?_
            rintro e w7_ ⟨rfl, hb7_⟩
            rw [HX1.out]
            clear M_0 M_1 M_2 M_3 M_4
            replace BW : Hid (Below _ _ _) := bstep BW.out hb7_
            replace UM : Hid (URow _ _ _ _ _) := UM.out.below hb7_
            replace M : Hid (MBox _ _ _ _ _ _) := M.out.below hb7_
            replace Ux : Hid (URow _ _ _ _ _) := Ux.out.below hb7_
            replace Sx : Hid (SeesU _ _ _) := Sx.out.below hb7_
            replace Hk : Hid (IsCalc _ _ _ _) := Hk.out.later hb7_
            replace Hc : Hid (IsCalc _ _ _ _) := Hc.out.later hb7_
            replace Uy : Hid (URow _ _ _ _ _) := Uy.out.below hb7_
            replace HS6 : Hid (Below _ _ _) := bstep HS6.out hb7_
            clear hb7_
            go_wp2_with fail
            refine (abs_any x _ x0 x1).mono ?_
            rintro e w' ⟨rfl, hw⟩
            have hw2 := hw.symm
            clear hw
            subst hw2
            have hb0 : (x % 9223372036854775808 == 0) = false := by rw [beq_eq_false_iff_ne]; exact h0
            obtain ⟨y, hy⟩ : ∃ y, x % 9223372036854775808 = y := ⟨_, rfl⟩
            rw [hy] at h0 hb0 ⊢
            clear hy
            go_wp2
            go_roundw
            case rel => exact ⟨i + 1, by go_num, by omega, HS6⟩
            case measure => simp [intOf]; omega
          case true =>
            subst hun
            go_wp2
            go_roundw
            case rel => exact ⟨i + 1, by go_num, by omega, HS6⟩
            case measure => simp [intOf]; omega
      · obtain rfl : N = i := by omega
        clear HS6
        obtain ⟨BG, hBG⟩ : ∃ B, B = w6_.heap.size := ⟨_, rfl⟩
        have hw0_ : w6_.heap.size = w6_.heap.size := rfl
        go_wp2_with (at_builtin; refine wpListU_app rfl _ _ rfl w6_.heap.size _ [] rfl (OwnU.new w6_ _ (Nat.le_refl _)) _ (lst zX N) rfl (Sx.out.below (bmore (Below.refl _ _) _)) (by rw [lst_len]; simp; omega) (by simp) ?_)
        intro v6 w6 own6 bel6 hg6 hat6
        have hb_ : Below w6_.heap.size w6_ w6 := Below.trans (bmore (Below.refl _ _) _) bel6
        clear hg6 hat6 bel6 hw0_
        obtain ⟨gw, cw, rfl, hgw, hgl, hUw⟩ := own6.row (Ux.out.2.2.1)
        have WR_ := own6.wrow
        rw [← hBG] at hgw
        have OW : Hid (w.heap.size ≤ gw) := Nat.le_trans (by rw [hBG]; exact BW.out.size) hgw
        have NW_M : Hid (gw ≠ k_M) := by have := M.out.2.2.2.2; show _ ≠ _; omega
        have NW_UM : Hid (Apt (some gw) (some ⟨gM, 0, none⟩) (N * N)) := UM.out.apt (fun k e => by injection e with e; omega)
        have NW_Ux : Hid (Apt (some gw) (some ⟨gx, 0, none⟩) N) := Ux.out.apt (fun k e => by injection e with e; omega)
        have NW_Uy : Hid (Apt (some gw) (some ⟨gy, 0, none⟩) N) := Uy.out.apt (fun k e => by injection e with e; omega)
        have NW_c : Hid (kc ≠ gw) := by have := Hc.out.lt _ rfl; show _ ≠ _; omega
        have NW_k : Hid (kk ≠ gw) := by have := Hk.out.lt _ rfl; show _ ≠ _; omega
        replace BW : Hid (Below _ _ _) := bstep BW.out hb_
        replace UM : Hid (URow _ _ _ _ _) := UM.out.below hb_
        replace M : Hid (MBox _ _ _ _ _ _) := M.out.below hb_
        replace Ux : Hid (URow _ _ _ _ _) := Ux.out.below hb_
        replace Sx : Hid (SeesU _ _ _) := Sx.out.below hb_
        replace Hk : Hid (IsCalc _ _ _ _) := Hk.out.later hb_
        replace Hc : Hid (IsCalc _ _ _ _) := Hc.out.later hb_
        replace Uy : Hid (URow _ _ _ _ _) := Uy.out.below hb_
        clear hb_ own6 hUw hgl hBG hgw
        clear Sx
        have WR : Hid (WRow w6 gw N (wnV a2 a3 zM N N zX 0)) := WR_.congr (fun k hk => wnV_zero a2 a3 zM N N zX k hk)
        clear WR_
        have Hk0 : Hid (IsCalc w6 (.pointer (some ⟨kk, 0, none⟩)) (some kk) (svF a2 a3 0 zM N N zX 0)) := Hk.out
        clear Hk
        go_wp2_with fail
        go_loopw [17] (fun s17_ wr => ∃ (s : Nat) , s17_ = .int .i64 (s : Int) ∧ s ≤ N ∧ Hid (Below w.heap.size w wr) ∧ Hid (URow wr (some ⟨gM, 0, none⟩) (N * N) (N * N) zM) ∧ Hid (MBox wr k_M (N : Int) (N : Int) (N : Int) (.slice (some ⟨gM, 0, none⟩) (N * N) (N * N))) ∧ Hid (URow wr (some ⟨gx, 0, none⟩) N cx0 zX) ∧ Hid (IsCalc wr (.pointer (some ⟨kc, 0, none⟩)) (some kc) (svF a2 a3 0 zM N N zX N)) ∧ Hid (URow wr (some ⟨gy, 0, none⟩) N N (svX a2 a3 zM N N zX N)) ∧ Hid (IsCalc wr (.pointer (some ⟨kk, 0, none⟩)) (some kk) (svF a2 a3 0 zM N N zX s)) ∧ Hid (WRow wr gw N (wnV a2 a3 zM N N zX s))) (fun s17_ _ => N - (intOf s17_).toNat)
        case atStart => exact ⟨0, rfl, Nat.zero_le _, BW, UM, M, Ux, Hc, Uy, Hk0, WR⟩
        case round =>
          clear BW UM M Ux Hc Uy WR
          obtain ⟨s, rfl, hs_, BW, UM, M, Ux, Hc, Uy, Hk, WR⟩ := hrel
          obtain ⟨w7_, rfl⟩ : ∃ x, x = wr := ⟨wr, rfl⟩
          by_cases hlt : (s : Int) < (N : Int)
          · as_aux_lemma =>
              obtain ⟨I, hI⟩ : ∃ I, I = svI a2 N s := ⟨_, rfl⟩
              have hIN : I < N := by rw [hI]; unfold svI; cases a2 <;> simp <;> omega
              have hw1 : IntKind.i64.wrap ((N : Int) - 1) = (N : Int) - 1 := by rw [IntKind.wrap_i64]; omega
              have hw2 : a2 = true → IntKind.i64.wrap ((N : Int) - 1 - (s : Int)) = (I : Int) := by rw [hI]; intro h; subst h; unfold svI; rw [IntKind.wrap_i64]; simp; omega
              have hw3 : a2 = false → s = I := by rw [hI]; intro h; subst h; rfl
              have HI : Hid (I = svI a2 N s) := hI
              have hI1 : (I : Int) < (N : Int) := by omega
              clear hI
              go_upto_if 85 with fail
              go_cut [18] from 79 to 132 (fun t wx => t = .int .i64 (I : Int) ∧ wx = w7_)
              case first =>
                cases hup : a2
                · have hsI : Hid (s = I) := hw3 hup
                  subst hup
                  clear hw2 hw3 hw1
                  go_wp2
                  go_meet
                  exact ⟨by rw [hsI.out], rfl⟩
                · have hw4 := hw2 hup
                  subst hup
                  clear hw2 hw3
                  go_wp2
                  go_meet
                  exact ⟨rfl, rfl⟩
              case rest =>
                obtain ⟨rfl, hwc⟩ := hcut
                have hwc2 := hwc.symm
                clear hwc
                subst hwc2
                clear hw1 hw2 hw3
                have VS : Hid (∀ j, wjV a2 a3 zM N N zX s j I = gatV subS (zX I) (fun k => zM (I * N + k)) (svX a2 a3 zM N N zX s) (tb a2 I) (gp a2 I j)) := fun j => by rw [HI.out]; exact wjV_self a2 a3 zM N N zX s j
                have WI : Hid (∀ j, j < N → (if a2 then decide (I < j) else decide (j < I)) = true → wjV a2 a3 zM N N zX s j j = svX a2 a3 zM N N zX s j) := fun j hj h => wjV_in a2 a3 zM N N zX s j (by omega) hj (by rw [← HI.out]; exact h)
                have WO : Hid (∀ j k, k ≠ I → wjV a2 a3 zM N N zX s (j + 1) k = wjV a2 a3 zM N N zX s j k) := fun j k h => wjV_other a2 a3 zM N N zX s _ _ k (by rw [← HI.out]; exact h)
                have WS : Hid (∀ k, k < N → wnV a2 a3 zM N N zX (s + 1) k = if k = I then svQ a3 (wjV a2 a3 zM N N zX s N I) (zM (I * N + I)) else wjV a2 a3 zM N N zX s N k) := fun k hk => by rw [HI.out]; exact wnV_succ a2 a3 zM N N zX s k (by omega) hk
                have FS : Hid (svF a2 a3 0 zM N N zX (s + 1) = if a3 then gatF subS (svF a2 a3 0 zM N N zX s) (zX I) (fun k => zM (I * N + k)) (svX a2 a3 zM N N zX s) (tb a2 I) (tn a2 N I) else bits .or .u8 (gatF subS (svF a2 a3 0 zM N N zX s) (zX I) (fun k => zM (I * N + k)) (svX a2 a3 zM N N zX s) (tb a2 I) (tn a2 N I)) (divS (gatV subS (zX I) (fun k => zM (I * N + k)) (svX a2 a3 zM N N zX s) (tb a2 I) (tn a2 N I)) (zM (I * N + I))).2) := by rw [HI.out]; rfl
                have XR : Hid (∀ i, 0 ≤ zX i ∧ zX i < 18446744073709551616) := Ux.out.2.2.1
                have HG0 : Hid (gp a2 I 0 = 0) := gp_zero a2 I
                obtain ⟨FZ, hFZ⟩ : ∃ f, f = svF a2 a3 0 zM N N zX s := ⟨_, rfl⟩
                rw [← hFZ] at Hk FS
                obtain ⟨XS, hXS⟩ : ∃ f, f = svX a2 a3 zM N N zX s := ⟨_, rfl⟩
                rw [← hXS] at FS WI VS
                have HXS : Hid (XS = svX a2 a3 zM N N zX s) := hXS
                have WR0 : Hid (WRow w7_ gw N (wjV a2 a3 zM N N zX s 0)) := WR.out.congr (fun k hk => wjV_zero a2 a3 zM N N zX s k (by omega) hk)
                have Hk1 : Hid (IsCalc w7_ (.pointer (some ⟨kk, 0, none⟩)) (some kk) (gatF subS FZ (zX I) (fun k => zM (I * N + k)) XS (tb a2 I) (gp a2 I 0))) := by rw [HG0.out]; exact Hk.out
                clear hFZ hXS WR Hk HG0
                go_wp2_with fail
                go_loopw [19] (fun s19_ wr => ∃ (j : Nat) , s19_ = .int .i64 (j : Int) ∧ j ≤ N ∧ Hid (Below w.heap.size w wr) ∧ Hid (URow wr (some ⟨gM, 0, none⟩) (N * N) (N * N) zM) ∧ Hid (MBox wr k_M (N : Int) (N : Int) (N : Int) (.slice (some ⟨gM, 0, none⟩) (N * N) (N * N))) ∧ Hid (URow wr (some ⟨gx, 0, none⟩) N cx0 zX) ∧ Hid (IsCalc wr (.pointer (some ⟨kc, 0, none⟩)) (some kc) (svF a2 a3 0 zM N N zX N)) ∧ Hid (URow wr (some ⟨gy, 0, none⟩) N N (svX a2 a3 zM N N zX N)) ∧ Hid (IsCalc wr (.pointer (some ⟨kk, 0, none⟩)) (some kk) (gatF subS FZ (zX I) (fun k => zM (I * N + k)) XS (tb a2 I) (gp a2 I j))) ∧ Hid (WRow wr gw N (wjV a2 a3 zM N N zX s j))) (fun s19_ _ => N - (intOf s19_).toNat)
                case atStart => exact ⟨0, rfl, Nat.zero_le _, BW, UM, M, Ux, Hc, Uy, Hk1, WR0⟩
                case round =>
                  clear BW UM M Ux Hc Uy
                  obtain ⟨j, rfl, hj_, BW, UM, M, Ux, Hc, Uy, Hk, WR⟩ := hrel
                  obtain ⟨w8_, rfl⟩ : ∃ x, x = wr := ⟨wr, rfl⟩
                  by_cases hlt2 : (j : Int) < (N : Int)
                  · skip
                    go_wp2_with fail
                    refine (lIn I j a2 _).mono ?_
                    rintro e w' ⟨rfl, hw⟩
                    have hw2 := hw.symm
                    clear hw
                    subst hw2
                    by_cases hin : (if a2 then decide (I < j) else decide (j < I)) = true
                    · rw [hin]
                      obtain ⟨hg1, hg2⟩ := gp_in a2 I j hin
                      have hWj := WI.out j (by omega) hin
                      have hji : j ≠ I := by intro e; subst e; revert hin; cases a2 <;> simp
                      clear hin
                      obtain ⟨y0, y1⟩ := UM.out.2.2.1 (I * N + j)
                      have hwr := WR.out
                      have v01 : 0 ≤ XS j ∧ XS j < 18446744073709551616 := by rw [HXS.out]; exact svX_rng a2 a3 zM N N zX XR.out UM.out.2.2.1 s j
                      obtain ⟨v0, v1⟩ := v01
                      obtain ⟨s0, s1⟩ := gatV_rngS (zX I) (fun k => zM (I * N + k)) XS (tb a2 I) (gp a2 I j) (XR.out I).1 (XR.out I).2
                      have hVj := VS.out j
                      have hVj1 := VS.out (j + 1)
                      rw [hg1] at hVj1
                      have SV : Hid (wjV a2 a3 zM N N zX s (j + 1) I = (subS (gatV subS (zX I) (fun k => zM (I * N + k)) XS (tb a2 I) (gp a2 I j)) (mulS (zM (I * N + j)) (XS j)).1).1) := by
                        show _ = _
                        rw [hVj1]
                        show (subS (gatV subS (zX I) (fun k => zM (I * N + k)) XS (tb a2 I) (gp a2 I j)) (mulS (zM (I * N + (tb a2 I + gp a2 I j))) (XS (tb a2 I + gp a2 I j))).1).1 = _
                        rw [hg2]
                      have SF : Hid (bits .or .u8 (bits .or .u8 (gatF subS FZ (zX I) (fun k => zM (I * N + k)) XS (tb a2 I) (gp a2 I j)) (mulS (zM (I * N + j)) (XS j)).2) (subS (gatV subS (zX I) (fun k => zM (I * N + k)) XS (tb a2 I) (gp a2 I j)) (mulS (zM (I * N + j)) (XS j)).1).2 = gatF subS FZ (zX I) (fun k => zM (I * N + k)) XS (tb a2 I) (gp a2 I (j + 1))) := by
                        rw [hg1]
                        show _ = bits .or .u8 (bits .or .u8 (gatF subS FZ (zX I) (fun k => zM (I * N + k)) XS (tb a2 I) (gp a2 I j)) (mulS (zM (I * N + (tb a2 I + gp a2 I j))) (XS (tb a2 I + gp a2 I j))).2) (subS (gatV subS (zX I) (fun k => zM (I * N + k)) XS (tb a2 I) (gp a2 I j)) (mulS (zM (I * N + (tb a2 I + gp a2 I j))) (XS (tb a2 I + gp a2 I j))).1).2
                        rw [hg2]
                      obtain ⟨u0, u1⟩ := mulS_rng (zM (I * N + j)) (XS j)
                      obtain ⟨FJ, hFJ⟩ : ∃ g, gatF subS FZ (zX I) (fun k => zM (I * N + k)) XS (tb a2 I) (gp a2 I j) = g := ⟨_, rfl⟩
                      obtain ⟨sj, hsj⟩ : ∃ g, gatV subS (zX I) (fun k => zM (I * N + k)) XS (tb a2 I) (gp a2 I j) = g := ⟨_, rfl⟩
                      obtain ⟨v, hv⟩ : ∃ v, XS j = v := ⟨_, rfl⟩
                      obtain ⟨y, hy⟩ : ∃ v, zM (I * N + j) = v := ⟨_, rfl⟩
                      rw [hv] at hWj v0 v1 SV SF u0 u1
                      rw [hy] at y0 y1 SV SF u0 u1
                      rw [hFJ] at SF Hk
                      rw [hsj] at SV SF s0 s1 hVj
                      have HVI : Hid (wjV a2 a3 zM N N zX s j I = sj) := hVj
                      have HVJ : Hid (wjV a2 a3 zM N N zX s j j = v) := hWj
                      obtain ⟨MM, hM2⟩ : ∃ M, mulS y v = M := ⟨_, rfl⟩
                      rw [hM2] at SF SV u0 u1
                      have HM2 : Hid (_ = _) := hM2
                      have HY1 : Hid (_ = _) := hy
                      obtain ⟨u, fu⟩ := MM
                      simp only at SF SV u0 u1
                      obtain ⟨R, hR⟩ : ∃ M, subS sj u = M := ⟨_, rfl⟩
                      rw [hR] at SF SV
                      have HR2 : Hid (_ = _) := hR
                      obtain ⟨r, fr⟩ := R
                      simp only at SF SV
                      have HPUT : Hid (∀ k, k < N → wjV a2 a3 zM N N zX s (j + 1) k = if k = I then r else wjV a2 a3 zM N N zX s j k) := fun k hk => by
                        by_cases e : k = I
                        · rw [if_pos e, e]; exact SV.out
                        · rw [if_neg e]; exact WO.out j k e
                      clear hv hy hFJ hsj hM2 hR hg1 hg2 hVj hVj1 hWj hwr hji
                      obtain ⟨M_0, M_1, M_2, M_3, M_4⟩ := M.out
                      go_wp2_with fail
                      clear M_0 M_1 M_2 M_3 M_4
                      have HBa : Hid (Bes (some kk) w8_ w8_.drew) := (Bes.refl _ _).drew
                      replace Hk : Hid (IsCalc _ _ _ _) := Hk.out.later ((Below.refl _ _).drew)
                      refine wp_region_noPanic ?_
                      refine AnyT.start (T := (fun w' => (w'.cell? ⟨k_M, 0, none⟩ = some (.int .i64 (N : Int)) ∧ w'.cell? ⟨k_M, 1, none⟩ = some (.int .i64 (N : Int)) ∧ w'.cell? ⟨k_M, 2, none⟩ = some (.int .i64 (N : Int)) ∧ w'.cell? ⟨k_M, 3, none⟩ = some (.slice (some ⟨gM, 0, none⟩) (N * N) (N * N))) ∧ w'.cell? ⟨gw, I, none⟩ = some (.int .u64 sj) ∧ w'.cell? ⟨gw, j, none⟩ = some (.int .u64 v))) (z := 19) (by kernel_rfl) ?_
                      have hHeld0 := (⟨(M.out.bes HBa.out (ne_some A_k_M.out)).cells, (WR.out.bes HBa.out (ne_some NW_k.out)).cellE I (by omega) HVI.out, (WR.out.bes HBa.out (ne_some NW_k.out)).cellE j (by omega) HVJ.out⟩ : (fun w' => (w'.cell? ⟨k_M, 0, none⟩ = some (.int .i64 (N : Int)) ∧ w'.cell? ⟨k_M, 1, none⟩ = some (.int .i64 (N : Int)) ∧ w'.cell? ⟨k_M, 2, none⟩ = some (.int .i64 (N : Int)) ∧ w'.cell? ⟨k_M, 3, none⟩ = some (.slice (some ⟨gM, 0, none⟩) (N * N) (N * N))) ∧ w'.cell? ⟨gw, I, none⟩ = some (.int .u64 sj) ∧ w'.cell? ⟨gw, j, none⟩ = some (.int .u64 v)) w8_.drew)
                      refine AnyT.take (i := 0) (oi := ({ dst := some 99, op := Op.move (Operand.tmp 16), type := _, pos := _, after := _, guard := none } : Oper)) (v := ?_) rfl (by kernel_rfl) (by kernel_rfl) (by kernel_rfl) (by kernel_rfl) (fun _ _ _ h => h) (Or.inl ⟨by rfl, ?_⟩) hHeld0 ?_
                      rotate_left
                      · intro w' hSw; (try dsimp only at hSw); go_simp <;> (try with_reducible rfl)
                      (try simp only [Act.put, List.setIfInBounds_toArray, List.set_cons_zero, List.set_cons_succ])
                      refine AnyT.take (i := 1) (oi := ({ dst := some 100, op := Op.move (Operand.tmp 18), type := _, pos := _, after := _, guard := none } : Oper)) (v := ?_) rfl (by kernel_rfl) (by kernel_rfl) (by kernel_rfl) (by kernel_rfl) (fun _ _ _ h => h) (Or.inl ⟨by rfl, ?_⟩) hHeld0 ?_
                      rotate_left
                      · intro w' hSw; (try dsimp only at hSw); go_simp <;> (try with_reducible rfl)
                      (try simp only [Act.put, List.setIfInBounds_toArray, List.set_cons_zero, List.set_cons_succ])
                      refine AnyT.take (i := 2) (oi := ({ dst := some 101, op := Op.move (Operand.tmp 12), type := _, pos := _, after := _, guard := none } : Oper)) (v := ?_) rfl (by kernel_rfl) (by kernel_rfl) (by kernel_rfl) (by kernel_rfl) (fun _ _ _ h => h) (Or.inl ⟨by rfl, ?_⟩) hHeld0 ?_
                      rotate_left
                      · intro w' hSw; (try dsimp only at hSw); go_simp <;> (try with_reducible rfl)
                      (try simp only [Act.put, List.setIfInBounds_toArray, List.set_cons_zero, List.set_cons_succ])
                      refine AnyT.take (i := 3) (oi := ({ dst := some 102, op := Op.move (Operand.tmp 16), type := _, pos := _, after := _, guard := none } : Oper)) (v := ?_) rfl (by kernel_rfl) (by kernel_rfl) (by kernel_rfl) (by kernel_rfl) (fun _ _ _ h => h) (Or.inl ⟨by rfl, ?_⟩) hHeld0 ?_
                      rotate_left
                      · intro w' hSw; (try dsimp only at hSw); go_simp <;> (try with_reducible rfl)
                      (try simp only [Act.put, List.setIfInBounds_toArray, List.set_cons_zero, List.set_cons_succ])
                      refine AnyT.take (i := 4) (oi := ({ dst := some 103, op := Op.move (Operand.tmp 18), type := _, pos := _, after := _, guard := none } : Oper)) (v := ?_) rfl (by kernel_rfl) (by kernel_rfl) (by kernel_rfl) (by kernel_rfl) (fun _ _ _ h => h) (Or.inl ⟨by rfl, ?_⟩) hHeld0 ?_
                      rotate_left
                      · intro w' hSw; (try dsimp only at hSw); go_simp <;> (try with_reducible rfl)
                      (try simp only [Act.put, List.setIfInBounds_toArray, List.set_cons_zero, List.set_cons_succ])
                      refine AnyT.take (i := 5) (oi := ({ dst := some 104, op := Op.indexAddr _ (Operand.tmp 102) (Operand.tmp 103), type := _, pos := _, after := _, guard := none } : Oper)) (v := ?_) rfl (by kernel_rfl) (by kernel_rfl) (by kernel_rfl) (by kernel_rfl) (fun _ _ _ h => h) (Or.inl ⟨by rfl, ?_⟩) hHeld0 ?_
                      rotate_left
                      · intro w' hSw; (try dsimp only at hSw); go_simp <;> (try with_reducible rfl)
                      (try simp only [Act.put, List.setIfInBounds_toArray, List.set_cons_zero, List.set_cons_succ])
                      refine AnyT.take (i := 6) (oi := ({ dst := some 105, op := Op.load _ (Operand.tmp 104), type := _, pos := _, after := _, guard := none } : Oper)) (v := ?_) rfl (by kernel_rfl) (by kernel_rfl) (by kernel_rfl) (by kernel_rfl) (fun _ _ _ h => h) (Or.inl ⟨by rfl, ?_⟩) hHeld0 ?_
                      rotate_left
                      · intro w' hSw; (try dsimp only at hSw); go_simp <;> (try with_reducible rfl)
                      (try simp only [Act.put, List.setIfInBounds_toArray, List.set_cons_zero, List.set_cons_succ])
                      refine AnyT.take (i := 7) (oi := ({ dst := some 106, op := Op.move (Operand.tmp 12), type := _, pos := _, after := _, guard := none } : Oper)) (v := ?_) rfl (by kernel_rfl) (by kernel_rfl) (by kernel_rfl) (by kernel_rfl) (fun _ _ _ h => h) (Or.inl ⟨by rfl, ?_⟩) hHeld0 ?_
                      rotate_left
                      · intro w' hSw; (try dsimp only at hSw); go_simp <;> (try with_reducible rfl)
                      (try simp only [Act.put, List.setIfInBounds_toArray, List.set_cons_zero, List.set_cons_succ])
                      refine AnyT.take (i := 8) (oi := ({ dst := some 107, op := Op.load _ (Operand.tmp 9), type := _, pos := _, after := _, guard := none } : Oper)) (v := ?_) rfl (by kernel_rfl) (by kernel_rfl) (by kernel_rfl) (by kernel_rfl) (fun _ _ _ h => h) (Or.inl ⟨by rfl, ?_⟩) hHeld0 ?_
                      rotate_left
                      · intro w' hSw; (try dsimp only at hSw); go_simp <;> (try with_reducible rfl)
                      (try simp only [Act.put, List.setIfInBounds_toArray, List.set_cons_zero, List.set_cons_succ])
                      refine AnyT.take (i := 9) (oi := ({ dst := some 108, op := Op.move (Operand.tmp 18), type := _, pos := _, after := _, guard := none } : Oper)) (v := ?_) rfl (by kernel_rfl) (by kernel_rfl) (by kernel_rfl) (by kernel_rfl) (fun _ _ _ h => h) (Or.inl ⟨by rfl, ?_⟩) hHeld0 ?_
                      rotate_left
                      · intro w' hSw; (try dsimp only at hSw); go_simp <;> (try with_reducible rfl)
                      (try simp only [Act.put, List.setIfInBounds_toArray, List.set_cons_zero, List.set_cons_succ])
                      refine AnyT.take (i := 10) (oi := ({ dst := some 109, op := Op.move (Operand.tmp 19), type := _, pos := _, after := _, guard := none } : Oper)) (v := ?_) rfl (by kernel_rfl) (by kernel_rfl) (by kernel_rfl) (by kernel_rfl) (fun _ _ _ h => h) (Or.inl ⟨by rfl, ?_⟩) hHeld0 ?_
                      rotate_left
                      · intro w' hSw; (try dsimp only at hSw); go_simp <;> (try with_reducible rfl)
                      (try simp only [Act.put, List.setIfInBounds_toArray, List.set_cons_zero, List.set_cons_succ])
                      refine AnyT.take (i := 12) (oi := ({ dst := some 111, op := Op.move (Operand.tmp 16), type := _, pos := _, after := _, guard := none } : Oper)) (v := ?_) rfl (by kernel_rfl) (by kernel_rfl) (by kernel_rfl) (by kernel_rfl) (fun _ _ _ h => h) (Or.inl ⟨by rfl, ?_⟩) hHeld0 ?_
                      rotate_left
                      · intro w' hSw; (try dsimp only at hSw); go_simp <;> (try with_reducible rfl)
                      (try simp only [Act.put, List.setIfInBounds_toArray, List.set_cons_zero, List.set_cons_succ])
                      refine AnyT.take (i := 13) (oi := ({ dst := some 112, op := Op.move (Operand.tmp 19), type := _, pos := _, after := _, guard := none } : Oper)) (v := ?_) rfl (by kernel_rfl) (by kernel_rfl) (by kernel_rfl) (by kernel_rfl) (fun _ _ _ h => h) (Or.inl ⟨by rfl, ?_⟩) hHeld0 ?_
                      rotate_left
                      · intro w' hSw; (try dsimp only at hSw); go_simp <;> (try with_reducible rfl)
                      (try simp only [Act.put, List.setIfInBounds_toArray, List.set_cons_zero, List.set_cons_succ])
                      refine AnyT.take (i := 14) (oi := ({ dst := some 113, op := Op.indexAddr _ (Operand.tmp 111) (Operand.tmp 112), type := _, pos := _, after := _, guard := none } : Oper)) (v := ?_) rfl (by kernel_rfl) (by kernel_rfl) (by kernel_rfl) (by kernel_rfl) (fun _ _ _ h => h) (Or.inl ⟨by rfl, ?_⟩) hHeld0 ?_
                      rotate_left
                      · intro w' hSw; (try dsimp only at hSw); go_simp <;> (try with_reducible rfl)
                      (try simp only [Act.put, List.setIfInBounds_toArray, List.set_cons_zero, List.set_cons_succ])
                      refine AnyT.take (i := 15) (oi := ({ dst := some 114, op := Op.load _ (Operand.tmp 113), type := _, pos := _, after := _, guard := none } : Oper)) (v := ?_) rfl (by kernel_rfl) (by kernel_rfl) (by kernel_rfl) (by kernel_rfl) (fun _ _ _ h => h) (Or.inl ⟨by rfl, ?_⟩) hHeld0 ?_
                      rotate_left
                      · intro w' hSw; (try dsimp only at hSw); go_simp <;> (try with_reducible rfl)
                      (try simp only [Act.put, List.setIfInBounds_toArray, List.set_cons_zero, List.set_cons_succ])
                      refine AnyT.one (i := 11) (o := ({ dst := some 110, op := Op.call { callee := Callee.value (Operand.func _), args := #[Operand.tmp 107, Operand.tmp 108, Operand.tmp 109], argTypes := _ }, type := _, pos := _, after := _, guard := none } : Oper)) (by kernel_rfl) rfl (fun K hK => ?_)
                      go_simp
                      refine (mAtN N N N _ _ _ zM I j _ TM.out (UM.out.bes HBa.out A_k_UM.out) (by omega) (by omega)).mono ?_
                      rintro e Wq0_ ⟨rfl, hb_⟩
                      rw [HY1.out]
                      replace Hk : Hid (IsCalc _ _ _ _) := Hk.out.later hb_
                      replace HBa : Hid (Bes (some kk) w8_ Wq0_) := HBa.out.step hb_
                      clear hb_
                      (try go_wp2_with fail)
                      refine hK.out _ _ (fun _ => ⟨(M.out.bes HBa.out (ne_some A_k_M.out)).cells, (WR.out.bes HBa.out (ne_some NW_k.out)).cellE I (by omega) HVI.out, (WR.out.bes HBa.out (ne_some NW_k.out)).cellE j (by omega) HVJ.out⟩) (fun hHeld1 => ?_)
                      replace hHeld0 := hHeld1 (by decide)
                      clear hK K hHeld1
                      (try simp only [Act.put, List.setIfInBounds_toArray, List.set_cons_zero, List.set_cons_succ])
                      refine AnyT.one (i := 16) (o := ({ dst := some 115, op := Op.call { callee := Callee.value (Operand.func _), args := #[Operand.tmp 106, Operand.tmp 110, Operand.tmp 114], argTypes := _ }, type := _, pos := _, after := _, guard := none } : Oper)) (by kernel_rfl) rfl (fun K hK => ?_)
                      go_simp
                      refine (uMul (.pointer (some ⟨kk, 0, none⟩)) (some kk) y v FJ _ Hk.out y0 y1 v0 v1).mono ?_
                      rintro e Wq1_ ⟨rfl, hC_, hb_⟩
                      rw [HM2.out] at hC_ ⊢
                      replace Hk : Hid (IsCalc _ _ _ _) := hC_
                      replace HBa : Hid (Bes (some kk) w8_ Wq1_) := HBa.out.trans hb_
                      clear hC_ hb_
                      (try go_wp2_with fail)
                      refine hK.out _ _ (fun _ => ⟨(M.out.bes HBa.out (ne_some A_k_M.out)).cells, (WR.out.bes HBa.out (ne_some NW_k.out)).cellE I (by omega) HVI.out, (WR.out.bes HBa.out (ne_some NW_k.out)).cellE j (by omega) HVJ.out⟩) (fun hHeld1 => ?_)
                      replace hHeld0 := hHeld1 (by decide)
                      clear hK K hHeld1
                      (try simp only [Act.put, List.setIfInBounds_toArray, List.set_cons_zero, List.set_cons_succ])
                      refine AnyT.one (i := 17) (o := ({ dst := some 116, op := Op.call { callee := Callee.value (Operand.func _), args := #[Operand.tmp 101, Operand.tmp 105, Operand.tmp 115], argTypes := _ }, type := _, pos := _, after := _, guard := none } : Oper)) (by kernel_rfl) rfl (fun K hK => ?_)
                      go_simp
                      refine (uSub (.pointer (some ⟨kk, 0, none⟩)) (some kk) sj u _ _ Hk.out s0 s1 u0 u1).mono ?_
                      rintro e Wq2_ ⟨rfl, hC_, hb_⟩
                      have HR3 : addS sj (wFlip u) = (r, fr) := HR2.out
                      (try rw [show addS sj (wFlip u) = (r, fr) from HR2.out] at hC_ ⊢)
                      rw [SF.out] at hC_
                      clear HR3
                      replace Hk : Hid (IsCalc _ _ _ _) := hC_
                      replace HBa : Hid (Bes (some kk) w8_ Wq2_) := HBa.out.trans hb_
                      clear hC_ hb_
                      (try go_wp2_with fail)
                      refine hK.out _ _ (fun _ => ⟨(M.out.bes HBa.out (ne_some A_k_M.out)).cells, (WR.out.bes HBa.out (ne_some NW_k.out)).cellE I (by omega) HVI.out, (WR.out.bes HBa.out (ne_some NW_k.out)).cellE j (by omega) HVJ.out⟩) (fun hHeld1 => ?_)
                      replace hHeld0 := hHeld1 (by decide)
                      clear hK K hHeld1
                      (try simp only [Act.put, List.setIfInBounds_toArray, List.set_cons_zero, List.set_cons_succ])
                      refine AnyT.take (i := 18) (oi := ({ dst := some 117, op := Op.indexAddr _ (Operand.tmp 99) (Operand.tmp 100), type := _, pos := _, after := _, guard := none } : Oper)) (v := ?_) rfl (by kernel_rfl) (by kernel_rfl) (by kernel_rfl) (by kernel_rfl) (fun _ _ _ h => h) (Or.inl ⟨by rfl, ?_⟩) hHeld0 ?_
                      rotate_left
                      · intro w' hSw; (try dsimp only at hSw); go_simp <;> (try with_reducible rfl)
                      (try simp only [Act.put, List.setIfInBounds_toArray, List.set_cons_zero, List.set_cons_succ])
                      refine AnyT.one (i := 19) (o := ({ dst := none, op := Op.store _ (Operand.tmp 117) (Operand.tmp 116), type := _, pos := _, after := _, guard := none } : Oper)) (by kernel_rfl) rfl (fun K hK => ?_)
                      clear hHeld0
                      have z1_ := (WR.out.bes HBa.out (ne_some NW_k.out)).cell I (by omega)
                      have z2_ := (WR.out.bes HBa.out (ne_some NW_k.out)).frozen I
                      go_simp
                      refine hK.out _ _ (fun h => absurd rfl h) (fun _ => ?_)
                      clear hK K
                      (try simp only [Act.put, List.setIfInBounds_toArray, List.set_cons_zero, List.set_cons_succ])
                      refine AnyT.done (by kernel_rfl) ?_
                      refine NoPanic.normal ?_
                      clear z1_ z2_
                      replace BW : Hid (Below _ _ _) := Bes.old BW.out HBa.out Ok.out
                      replace UM : Hid (URow _ _ _ _ _) := UM.out.bes HBa.out A_k_UM.out
                      replace M : Hid (MBox _ _ _ _ _ _) := M.out.bes HBa.out (ne_some A_k_M.out)
                      replace Ux : Hid (URow _ _ _ _ _) := Ux.out.bes HBa.out A_k_Ux.out
                      replace Hc : Hid (IsCalc _ _ _ _) := Hc.out.bes HBa.out (fun j e1 e2 => A_k_c.out ((Option.some.inj e2).trans (Option.some.inj e1).symm))
                      replace Uy : Hid (URow _ _ _ _ _) := Uy.out.bes HBa.out (Apt.ne Nkk_gy.out)
                      replace WR : Hid (WRow _ _ _ _) := WR.out.bes HBa.out (ne_some NW_k.out)
                      clear HBa
                      have bs_ := bes_put Wq2_ gw I (.int .u64 r)
                      have mR_ : WRow _ gw N (wjV a2 a3 zM N N zX s (j + 1)) := WR.out.put I r HPUT.out
                      replace BW : Hid (Below _ _ _) := Bes.old BW.out bs_ OW.out
                      replace UM : Hid (URow _ _ _ _ _) := UM.out.bes bs_ NW_UM.out
                      replace M : Hid (MBox _ _ _ _ _ _) := M.out.bes bs_ (ne_some NW_M.out)
                      replace Ux : Hid (URow _ _ _ _ _) := Ux.out.bes bs_ NW_Ux.out
                      replace Hc : Hid (IsCalc _ _ _ _) := Hc.out.bes bs_ (fun j e1 e2 => NW_c.out ((Option.some.inj e1).trans (Option.some.inj e2).symm))
                      replace Uy : Hid (URow _ _ _ _ _) := Uy.out.bes bs_ NW_Uy.out
                      replace Hk : Hid (IsCalc _ _ _ _) := Hk.out.bes bs_ (fun j e1 e2 => NW_k.out ((Option.some.inj e1).trans (Option.some.inj e2).symm))
                      replace WR : Hid (WRow _ _ _ _) := mR_
                      clear mR_ bs_
                      generalize (Wq2_.setCell ⟨gw, I, none⟩ (.int .u64 r)) = w9_ at BW UM M Ux Hc Uy Hk WR ⊢
                      go_wp2
                      go_roundw
                      case rel => exact ⟨j + 1, by go_num, by omega, BW, UM, M, Ux, Hc, Uy, Hk, WR⟩
                      case measure => simp [intOf]; omega
                    · have hin2 : (if a2 then decide (I < j) else decide (j < I)) = false := by cases h : (if a2 then decide (I < j) else decide (j < I)) <;> simp_all
                      rw [hin2]
                      have hgo := gp_out a2 I j hin2
                      have HKO : Hid (IsCalc w8_ (.pointer (some ⟨kk, 0, none⟩)) (some kk) (gatF subS FZ (zX I) (fun k => zM (I * N + k)) XS (tb a2 I) (gp a2 I (j + 1)))) := by show IsCalc _ _ _ _; rw [hgo]; exact Hk.out
                      have HWO : Hid (WRow w8_ gw N (wjV a2 a3 zM N N zX s (j + 1))) := WR.out.congr (fun k hk => by
                        by_cases e : k = I
                        · rw [e, VS.out (j + 1), VS.out j, hgo]
                        · exact WO.out j k e)
                      clear hgo hin hin2
                      go_wp2
                      go_roundw
                      case rel => exact ⟨j + 1, by go_num, by omega, BW, UM, M, Ux, Hc, Uy, HKO, HWO⟩
                      case measure => simp [intOf]; omega
                  · obtain rfl : N = j := by omega
                    have HGA : Hid (_ = _) := gp_all a2 N I (by omega)
                    rw [HGA.out] at Hk
                    cases hun : a3
                    case true =>
                      subst hun
                      have HKO : Hid (IsCalc w8_ (.pointer (some ⟨kk, 0, none⟩)) (some kk) (svF a2 true 0 zM N N zX (s + 1))) := by show IsCalc _ _ _ _; rw [FS.out, if_pos rfl]; exact Hk.out
                      have HWO : Hid (WRow w8_ gw N (wnV a2 true zM N N zX (s + 1))) := WR.out.congr (fun k hk => by
                        rw [WS.out k hk]
                        split
                        · rename_i e; rw [e]; rfl
                        · rfl)
                      go_wp2
                      go_roundw
                      case rel => exact ⟨s + 1, by go_num, by omega, BW, UM, M, Ux, Hc, Uy, HKO, HWO⟩
                      case measure => simp [intOf]; omega
                    case false =>
                      subst hun
                      obtain ⟨y0, y1⟩ := UM.out.2.2.1 (I * N + I)
                      obtain ⟨s0, s1⟩ := gatV_rngS (zX I) (fun k => zM (I * N + k)) XS (tb a2 I) (tn a2 N I) (XR.out I).1 (XR.out I).2
                      have hVI := VS.out N
                      rw [HGA.out] at hVI
                      obtain ⟨FJ, hFJ⟩ : ∃ g, gatF subS FZ (zX I) (fun k => zM (I * N + k)) XS (tb a2 I) (tn a2 N I) = g := ⟨_, rfl⟩
                      obtain ⟨sj, hsj⟩ : ∃ g, gatV subS (zX I) (fun k => zM (I * N + k)) XS (tb a2 I) (tn a2 N I) = g := ⟨_, rfl⟩
                      obtain ⟨y, hy⟩ : ∃ v, zM (I * N + I) = v := ⟨_, rfl⟩
                      rw [hFJ] at Hk FS
                      rw [hsj] at s0 s1 hVI FS
                      rw [hy] at y0 y1 FS WS
                      rw [hVI] at WS
                      have HVI : Hid (wjV a2 false zM N N zX s N I = sj) := hVI
                      have HY1 : Hid (_ = _) := hy
                      obtain ⟨R, hR⟩ : ∃ M, divS sj y = M := ⟨_, rfl⟩
                      have HQ : svQ false sj y = R.1 := by rw [← hR]; rfl
                      rw [HQ] at WS
                      rw [hR] at FS
                      have HR2 : Hid (_ = _) := hR
                      obtain ⟨r, fr⟩ := R
                      have SF : Hid (bits .or .u8 FJ fr = svF a2 false 0 zM N N zX (s + 1)) := by show _ = _; rw [FS.out, if_neg (by simp)]
                      simp only at WS
                      have HPUT : Hid (∀ k, k < N → wnV a2 false zM N N zX (s + 1) k = if k = I then r else wjV a2 false zM N N zX s N k) := WS.out
                      clear hFJ hsj hy hVI hR HQ
                      obtain ⟨M_0, M_1, M_2, M_3, M_4⟩ := M.out
                      go_wp2_with fail
                      clear M_0 M_1 M_2 M_3 M_4
                      have HBa : Hid (Bes (some kk) w8_ w8_.drew) := (Bes.refl _ _).drew
                      replace Hk : Hid (IsCalc _ _ _ _) := Hk.out.later ((Below.refl _ _).drew)
                      refine wp_region_noPanic ?_
                      refine AnyT.start (T := (fun w' => (w'.cell? ⟨k_M, 0, none⟩ = some (.int .i64 (N : Int)) ∧ w'.cell? ⟨k_M, 1, none⟩ = some (.int .i64 (N : Int)) ∧ w'.cell? ⟨k_M, 2, none⟩ = some (.int .i64 (N : Int)) ∧ w'.cell? ⟨k_M, 3, none⟩ = some (.slice (some ⟨gM, 0, none⟩) (N * N) (N * N))) ∧ w'.cell? ⟨gw, I, none⟩ = some (.int .u64 sj))) (z := 13) (by kernel_rfl) ?_
                      have hHeld0 := (⟨(M.out.bes HBa.out (ne_some A_k_M.out)).cells, (WR.out.bes HBa.out (ne_some NW_k.out)).cellE I (by omega) HVI.out⟩ : (fun w' => (w'.cell? ⟨k_M, 0, none⟩ = some (.int .i64 (N : Int)) ∧ w'.cell? ⟨k_M, 1, none⟩ = some (.int .i64 (N : Int)) ∧ w'.cell? ⟨k_M, 2, none⟩ = some (.int .i64 (N : Int)) ∧ w'.cell? ⟨k_M, 3, none⟩ = some (.slice (some ⟨gM, 0, none⟩) (N * N) (N * N))) ∧ w'.cell? ⟨gw, I, none⟩ = some (.int .u64 sj)) w8_.drew)
                      refine AnyT.take (i := 0) (oi := ({ dst := some 120, op := Op.move (Operand.tmp 16), type := _, pos := _, after := _, guard := none } : Oper)) (v := ?_) rfl (by kernel_rfl) (by kernel_rfl) (by kernel_rfl) (by kernel_rfl) (fun _ _ _ h => h) (Or.inl ⟨by rfl, ?_⟩) hHeld0 ?_
                      rotate_left
                      · intro w' hSw; (try dsimp only at hSw); go_simp <;> (try with_reducible rfl)
                      (try simp only [Act.put, List.setIfInBounds_toArray, List.set_cons_zero, List.set_cons_succ])
                      refine AnyT.take (i := 1) (oi := ({ dst := some 121, op := Op.move (Operand.tmp 18), type := _, pos := _, after := _, guard := none } : Oper)) (v := ?_) rfl (by kernel_rfl) (by kernel_rfl) (by kernel_rfl) (by kernel_rfl) (fun _ _ _ h => h) (Or.inl ⟨by rfl, ?_⟩) hHeld0 ?_
                      rotate_left
                      · intro w' hSw; (try dsimp only at hSw); go_simp <;> (try with_reducible rfl)
                      (try simp only [Act.put, List.setIfInBounds_toArray, List.set_cons_zero, List.set_cons_succ])
                      refine AnyT.take (i := 2) (oi := ({ dst := some 122, op := Op.move (Operand.tmp 12), type := _, pos := _, after := _, guard := none } : Oper)) (v := ?_) rfl (by kernel_rfl) (by kernel_rfl) (by kernel_rfl) (by kernel_rfl) (fun _ _ _ h => h) (Or.inl ⟨by rfl, ?_⟩) hHeld0 ?_
                      rotate_left
                      · intro w' hSw; (try dsimp only at hSw); go_simp <;> (try with_reducible rfl)
                      (try simp only [Act.put, List.setIfInBounds_toArray, List.set_cons_zero, List.set_cons_succ])
                      refine AnyT.take (i := 3) (oi := ({ dst := some 123, op := Op.move (Operand.tmp 16), type := _, pos := _, after := _, guard := none } : Oper)) (v := ?_) rfl (by kernel_rfl) (by kernel_rfl) (by kernel_rfl) (by kernel_rfl) (fun _ _ _ h => h) (Or.inl ⟨by rfl, ?_⟩) hHeld0 ?_
                      rotate_left
                      · intro w' hSw; (try dsimp only at hSw); go_simp <;> (try with_reducible rfl)
                      (try simp only [Act.put, List.setIfInBounds_toArray, List.set_cons_zero, List.set_cons_succ])
                      refine AnyT.take (i := 4) (oi := ({ dst := some 124, op := Op.move (Operand.tmp 18), type := _, pos := _, after := _, guard := none } : Oper)) (v := ?_) rfl (by kernel_rfl) (by kernel_rfl) (by kernel_rfl) (by kernel_rfl) (fun _ _ _ h => h) (Or.inl ⟨by rfl, ?_⟩) hHeld0 ?_
                      rotate_left
                      · intro w' hSw; (try dsimp only at hSw); go_simp <;> (try with_reducible rfl)
                      (try simp only [Act.put, List.setIfInBounds_toArray, List.set_cons_zero, List.set_cons_succ])
                      refine AnyT.take (i := 5) (oi := ({ dst := some 125, op := Op.indexAddr _ (Operand.tmp 123) (Operand.tmp 124), type := _, pos := _, after := _, guard := none } : Oper)) (v := ?_) rfl (by kernel_rfl) (by kernel_rfl) (by kernel_rfl) (by kernel_rfl) (fun _ _ _ h => h) (Or.inl ⟨by rfl, ?_⟩) hHeld0 ?_
                      rotate_left
                      · intro w' hSw; (try dsimp only at hSw); go_simp <;> (try with_reducible rfl)
                      (try simp only [Act.put, List.setIfInBounds_toArray, List.set_cons_zero, List.set_cons_succ])
                      refine AnyT.take (i := 6) (oi := ({ dst := some 126, op := Op.load _ (Operand.tmp 125), type := _, pos := _, after := _, guard := none } : Oper)) (v := ?_) rfl (by kernel_rfl) (by kernel_rfl) (by kernel_rfl) (by kernel_rfl) (fun _ _ _ h => h) (Or.inl ⟨by rfl, ?_⟩) hHeld0 ?_
                      rotate_left
                      · intro w' hSw; (try dsimp only at hSw); go_simp <;> (try with_reducible rfl)
                      (try simp only [Act.put, List.setIfInBounds_toArray, List.set_cons_zero, List.set_cons_succ])
                      refine AnyT.take (i := 7) (oi := ({ dst := some 127, op := Op.load _ (Operand.tmp 9), type := _, pos := _, after := _, guard := none } : Oper)) (v := ?_) rfl (by kernel_rfl) (by kernel_rfl) (by kernel_rfl) (by kernel_rfl) (fun _ _ _ h => h) (Or.inl ⟨by rfl, ?_⟩) hHeld0 ?_
                      rotate_left
                      · intro w' hSw; (try dsimp only at hSw); go_simp <;> (try with_reducible rfl)
                      (try simp only [Act.put, List.setIfInBounds_toArray, List.set_cons_zero, List.set_cons_succ])
                      refine AnyT.take (i := 8) (oi := ({ dst := some 128, op := Op.move (Operand.tmp 18), type := _, pos := _, after := _, guard := none } : Oper)) (v := ?_) rfl (by kernel_rfl) (by kernel_rfl) (by kernel_rfl) (by kernel_rfl) (fun _ _ _ h => h) (Or.inl ⟨by rfl, ?_⟩) hHeld0 ?_
                      rotate_left
                      · intro w' hSw; (try dsimp only at hSw); go_simp <;> (try with_reducible rfl)
                      (try simp only [Act.put, List.setIfInBounds_toArray, List.set_cons_zero, List.set_cons_succ])
                      refine AnyT.take (i := 9) (oi := ({ dst := some 129, op := Op.move (Operand.tmp 18), type := _, pos := _, after := _, guard := none } : Oper)) (v := ?_) rfl (by kernel_rfl) (by kernel_rfl) (by kernel_rfl) (by kernel_rfl) (fun _ _ _ h => h) (Or.inl ⟨by rfl, ?_⟩) hHeld0 ?_
                      rotate_left
                      · intro w' hSw; (try dsimp only at hSw); go_simp <;> (try with_reducible rfl)
                      (try simp only [Act.put, List.setIfInBounds_toArray, List.set_cons_zero, List.set_cons_succ])
                      refine AnyT.one (i := 10) (o := ({ dst := some 130, op := Op.call { callee := Callee.value (Operand.func _), args := #[Operand.tmp 127, Operand.tmp 128, Operand.tmp 129], argTypes := _ }, type := _, pos := _, after := _, guard := none } : Oper)) (by kernel_rfl) rfl (fun K hK => ?_)
                      go_simp
                      refine (mAtN N N N _ _ _ zM I I _ TM.out (UM.out.bes HBa.out A_k_UM.out) (by omega) (by omega)).mono ?_
                      rintro e Wq0_ ⟨rfl, hb_⟩
                      rw [HY1.out]
                      replace Hk : Hid (IsCalc _ _ _ _) := Hk.out.later hb_
                      replace HBa : Hid (Bes (some kk) w8_ Wq0_) := HBa.out.step hb_
                      clear hb_
                      (try go_wp2_with fail)
                      refine hK.out _ _ (fun _ => ⟨(M.out.bes HBa.out (ne_some A_k_M.out)).cells, (WR.out.bes HBa.out (ne_some NW_k.out)).cellE I (by omega) HVI.out⟩) (fun hHeld1 => ?_)
                      replace hHeld0 := hHeld1 (by decide)
                      clear hK K hHeld1
                      (try simp only [Act.put, List.setIfInBounds_toArray, List.set_cons_zero, List.set_cons_succ])
                      refine AnyT.one (i := 11) (o := ({ dst := some 131, op := Op.call { callee := Callee.value (Operand.func _), args := #[Operand.tmp 122, Operand.tmp 126, Operand.tmp 130], argTypes := _ }, type := _, pos := _, after := _, guard := none } : Oper)) (by kernel_rfl) rfl (fun K hK => ?_)
                      go_simp
                      refine (uDiv (.pointer (some ⟨kk, 0, none⟩)) (some kk) sj y _ _ Hk.out s0 s1 y0 y1).mono ?_
                      rintro e Wq1_ ⟨rfl, hC_, hb_⟩
                      rw [HR2.out] at hC_ ⊢
                      simp only at hC_ ⊢
                      rw [SF.out] at hC_
                      replace Hk : Hid (IsCalc _ _ _ _) := hC_
                      replace HBa : Hid (Bes (some kk) w8_ Wq1_) := HBa.out.trans hb_
                      clear hC_ hb_
                      (try go_wp2_with fail)
                      refine hK.out _ _ (fun _ => ⟨(M.out.bes HBa.out (ne_some A_k_M.out)).cells, (WR.out.bes HBa.out (ne_some NW_k.out)).cellE I (by omega) HVI.out⟩) (fun hHeld1 => ?_)
                      replace hHeld0 := hHeld1 (by decide)
                      clear hK K hHeld1
                      (try simp only [Act.put, List.setIfInBounds_toArray, List.set_cons_zero, List.set_cons_succ])
                      refine AnyT.take (i := 12) (oi := ({ dst := some 132, op := Op.indexAddr _ (Operand.tmp 120) (Operand.tmp 121), type := _, pos := _, after := _, guard := none } : Oper)) (v := ?_) rfl (by kernel_rfl) (by kernel_rfl) (by kernel_rfl) (by kernel_rfl) (fun _ _ _ h => h) (Or.inl ⟨by rfl, ?_⟩) hHeld0 ?_
                      rotate_left
                      · intro w' hSw; (try dsimp only at hSw); go_simp <;> (try with_reducible rfl)
                      (try simp only [Act.put, List.setIfInBounds_toArray, List.set_cons_zero, List.set_cons_succ])
                      refine AnyT.one (i := 13) (o := ({ dst := none, op := Op.store _ (Operand.tmp 132) (Operand.tmp 131), type := _, pos := _, after := _, guard := none } : Oper)) (by kernel_rfl) rfl (fun K hK => ?_)
                      clear hHeld0
                      have z1_ := (WR.out.bes HBa.out (ne_some NW_k.out)).cell I (by omega)
                      have z2_ := (WR.out.bes HBa.out (ne_some NW_k.out)).frozen I
                      go_simp
                      refine hK.out _ _ (fun h => absurd rfl h) (fun _ => ?_)
                      clear hK K
                      (try simp only [Act.put, List.setIfInBounds_toArray, List.set_cons_zero, List.set_cons_succ])
                      refine AnyT.done (by kernel_rfl) ?_
                      refine NoPanic.normal ?_
                      clear z1_ z2_
                      replace BW : Hid (Below _ _ _) := Bes.old BW.out HBa.out Ok.out
                      replace UM : Hid (URow _ _ _ _ _) := UM.out.bes HBa.out A_k_UM.out
                      replace M : Hid (MBox _ _ _ _ _ _) := M.out.bes HBa.out (ne_some A_k_M.out)
                      replace Ux : Hid (URow _ _ _ _ _) := Ux.out.bes HBa.out A_k_Ux.out
                      replace Hc : Hid (IsCalc _ _ _ _) := Hc.out.bes HBa.out (fun j e1 e2 => A_k_c.out ((Option.some.inj e2).trans (Option.some.inj e1).symm))
                      replace Uy : Hid (URow _ _ _ _ _) := Uy.out.bes HBa.out (Apt.ne Nkk_gy.out)
                      replace WR : Hid (WRow _ _ _ _) := WR.out.bes HBa.out (ne_some NW_k.out)
                      clear HBa
                      have bs_ := bes_put Wq1_ gw I (.int .u64 r)
                      have mR_ : WRow _ gw N (wnV a2 false zM N N zX (s + 1)) := WR.out.put I r HPUT.out
                      replace BW : Hid (Below _ _ _) := Bes.old BW.out bs_ OW.out
                      replace UM : Hid (URow _ _ _ _ _) := UM.out.bes bs_ NW_UM.out
                      replace M : Hid (MBox _ _ _ _ _ _) := M.out.bes bs_ (ne_some NW_M.out)
                      replace Ux : Hid (URow _ _ _ _ _) := Ux.out.bes bs_ NW_Ux.out
                      replace Hc : Hid (IsCalc _ _ _ _) := Hc.out.bes bs_ (fun j e1 e2 => NW_c.out ((Option.some.inj e1).trans (Option.some.inj e2).symm))
                      replace Uy : Hid (URow _ _ _ _ _) := Uy.out.bes bs_ NW_Uy.out
                      replace Hk : Hid (IsCalc _ _ _ _) := Hk.out.bes bs_ (fun j e1 e2 => NW_k.out ((Option.some.inj e1).trans (Option.some.inj e2).symm))
                      replace WR : Hid (WRow _ _ _ _) := mR_
                      clear mR_ bs_
                      generalize (Wq1_.setCell ⟨gw, I, none⟩ (.int .u64 r)) = w9_ at BW UM M Ux Hc Uy Hk WR ⊢
                      go_wp2
                      go_roundw
                      case rel => exact ⟨s + 1, by go_num, by omega, BW, UM, M, Ux, Hc, Uy, Hk, WR⟩
                      case measure => simp [intOf]; omega
          · obtain rfl : N = s := by omega
            have HWE : Hid (WRow w7_ gw N (svX a2 a3 zM N N zX N)) := WR.out.congr (fun k hk => (wnV_end a2 a3 zM N N zX k hk).symm)
            clear WR
            obtain ⟨Y, hY⟩ : ∃ y, y = svX a2 a3 zM N N zX N := ⟨_, rfl⟩
            rw [← hY] at HWE Uy
            obtain ⟨FF, hFF⟩ : ∃ F, svF a2 a3 0 zM N N zX N = F := ⟨_, rfl⟩
            rw [hFF] at Hc Hk
            clear hFF hY
            obtain ⟨c1, c2, c3⟩ := calc_cell Hc.out
            obtain ⟨k1, k2, k3⟩ := calc_cell Hk.out
            go_upto_region 30 with fail
            refine wp_region_noPanic ?_
            refine wp_region_held_drew (S := (fun w' => (w'.cell? ⟨kc, 0, none⟩ = some (.int .u8 FF)) ∧ (w'.cell? ⟨kk, 0, none⟩ = some (.int .u8 FF)))) (by kernel_rfl) ⟨c1, k1⟩ (fun hHeld => ?_)
            refine wpAnyH_take (i := 0) (oi := ({ dst := some 133, op := Op.move (Operand.tmp 14), type := _, pos := _, after := _, guard := none } : Oper)) (v := ?_) rfl (by kernel_rfl) (by kernel_rfl) (by kernel_rfl) (fun _ _ _ h => h) (Or.inl ⟨by rfl, ?_⟩) (by assumption) ?_
            rotate_left
            · intro w' hSw; (try dsimp only at hSw); go_simp <;> (try with_reducible rfl)
            (try simp only [Act.put, List.setIfInBounds_toArray, List.set_cons_zero, List.set_cons_succ])
            refine wpAnyH_take (i := 1) (oi := ({ dst := some 134, op := Op.binOp BinOp.neq _ (Operand.tmp 133) (Operand.const (Value.int IntKind.i64 0)) _, type := _, pos := _, after := _, guard := none } : Oper)) (v := ?_) rfl (by kernel_rfl) (by kernel_rfl) (by kernel_rfl) (fun _ _ _ h => h) (Or.inl ⟨by rfl, ?_⟩) (by assumption) ?_
            rotate_left
            · intro w' hSw; (try dsimp only at hSw); go_simp <;> (try with_reducible rfl)
            (try simp only [Act.put, List.setIfInBounds_toArray, List.set_cons_zero, List.set_cons_succ])
            refine wpAnyH_take (i := 2) (oi := ({ dst := some 135, op := Op.move (Operand.tmp 134), type := _, pos := _, after := _, guard := none } : Oper)) (v := ?_) rfl (by kernel_rfl) (by kernel_rfl) (by kernel_rfl) (fun _ _ _ h => h) (Or.inl ⟨by rfl, ?_⟩) (by assumption) ?_
            rotate_left
            · intro w' hSw; (try dsimp only at hSw); go_simp <;> (try with_reducible rfl)
            (try simp only [Act.put, List.setIfInBounds_toArray, List.set_cons_zero, List.set_cons_succ])
            refine wpAnyH_take (i := 3) (oi := ({ dst := some 136, op := Op.move (Operand.tmp 13), type := _, pos := _, after := _, guard := some (2, false) } : Oper)) (v := ?_) rfl (by kernel_rfl) (by kernel_rfl) (by kernel_rfl) (fun _ _ _ h => h) (Or.inl ⟨by rfl, ?_⟩) (by assumption) ?_
            rotate_left
            · intro w' hSw; (try dsimp only at hSw); go_simp <;> (try with_reducible rfl)
            (try simp only [Act.put, List.setIfInBounds_toArray, List.set_cons_zero, List.set_cons_succ])
            refine wpAnyH_take (i := 4) (oi := ({ dst := some 137, op := Op.call { callee := Callee.builtin .len, args := #[Operand.tmp 136], argTypes := _ }, type := _, pos := _, after := _, guard := some (2, false) } : Oper)) (v := ?_) rfl (by kernel_rfl) (by kernel_rfl) (by kernel_rfl) (fun _ _ _ h => h) (Or.inl ⟨by rfl, ?_⟩) (by assumption) ?_
            rotate_left
            · intro w' hSw; (try dsimp only at hSw); go_simp <;> (try with_reducible rfl)
            (try simp only [Act.put, List.setIfInBounds_toArray, List.set_cons_zero, List.set_cons_succ])
            refine wpAnyH_take (i := 5) (oi := ({ dst := some 138, op := Op.move (Operand.tmp 0), type := _, pos := _, after := _, guard := some (2, false) } : Oper)) (v := ?_) rfl (by kernel_rfl) (by kernel_rfl) (by kernel_rfl) (fun _ _ _ h => h) (Or.inl ⟨by rfl, ?_⟩) (by assumption) ?_
            rotate_left
            · intro w' hSw; (try dsimp only at hSw); go_simp <;> (try with_reducible rfl)
            (try simp only [Act.put, List.setIfInBounds_toArray, List.set_cons_zero, List.set_cons_succ])
            refine wpAnyH_take (i := 6) (oi := ({ dst := some 139, op := Op.binOp BinOp.neq _ (Operand.tmp 137) (Operand.tmp 138) _, type := _, pos := _, after := _, guard := some (2, false) } : Oper)) (v := ?_) rfl (by kernel_rfl) (by kernel_rfl) (by kernel_rfl) (fun _ _ _ h => h) (Or.inl ⟨by rfl, ?_⟩) (by assumption) ?_
            rotate_left
            · intro w' hSw; (try dsimp only at hSw); go_simp <;> (try with_reducible rfl)
            (try simp only [Act.put, List.setIfInBounds_toArray, List.set_cons_zero, List.set_cons_succ])
            refine wpAnyH_take (i := 7) (oi := ({ dst := some 140, op := Op.pick (Operand.tmp 135) (Operand.const (Value.bool true)) (Operand.tmp 139), type := _, pos := _, after := _, guard := none } : Oper)) (v := ?_) rfl (by kernel_rfl) (by kernel_rfl) (by kernel_rfl) (fun _ _ _ h => h) (Or.inl ⟨by rfl, ?_⟩) (by assumption) ?_
            rotate_left
            · intro w' hSw; (try dsimp only at hSw); go_simp <;> (try with_reducible rfl)
            (try simp only [Act.put, List.setIfInBounds_toArray, List.set_cons_zero, List.set_cons_succ])
            refine wpAnyH_take (i := 8) (oi := ({ dst := some 141, op := Op.move (Operand.tmp 140), type := _, pos := _, after := _, guard := none } : Oper)) (v := ?_) rfl (by kernel_rfl) (by kernel_rfl) (by kernel_rfl) (fun _ _ _ h => h) (Or.inl ⟨by rfl, ?_⟩) (by assumption) ?_
            rotate_left
            · intro w' hSw; (try dsimp only at hSw); go_simp <;> (try with_reducible rfl)
            (try simp only [Act.put, List.setIfInBounds_toArray, List.set_cons_zero, List.set_cons_succ])
            refine wpAnyH_take (i := 9) (oi := ({ dst := some 142, op := Op.move (Operand.tmp 11), type := _, pos := _, after := _, guard := some (8, false) } : Oper)) (v := ?_) rfl (by kernel_rfl) (by kernel_rfl) (by kernel_rfl) (fun _ _ _ h => h) (Or.inl ⟨by rfl, ?_⟩) (by assumption) ?_
            rotate_left
            · intro w' hSw; (try dsimp only at hSw); go_simp <;> (try with_reducible rfl)
            (try simp only [Act.put, List.setIfInBounds_toArray, List.set_cons_zero, List.set_cons_succ])
            refine wpAnyH_take (i := 10) (oi := ({ dst := some 143, op := Op.nilCheck (Operand.tmp 142), type := _, pos := _, after := _, guard := some (8, false) } : Oper)) (v := ?_) rfl (by kernel_rfl) (by kernel_rfl) (by kernel_rfl) (fun _ _ _ h => h) (Or.inl ⟨by rfl, ?_⟩) (by assumption) ?_
            rotate_left
            · intro w' hSw; (try dsimp only at hSw); go_simp <;> (try with_reducible rfl)
            (try simp only [Act.put, List.setIfInBounds_toArray, List.set_cons_zero, List.set_cons_succ])
            refine wpAnyH_take (i := 11) (oi := ({ dst := some 144, op := Op.fieldAddr _ (Operand.tmp 143) 0, type := _, pos := _, after := _, guard := some (8, false) } : Oper)) (v := ?_) rfl (by kernel_rfl) (by kernel_rfl) (by kernel_rfl) (fun _ _ _ h => h) (Or.inl ⟨by rfl, ?_⟩) (by assumption) ?_
            rotate_left
            · intro w' hSw; (try dsimp only at hSw); go_simp <;> (try with_reducible rfl)
            (try simp only [Act.put, List.setIfInBounds_toArray, List.set_cons_zero, List.set_cons_succ])
            refine wpAnyH_take (i := 12) (oi := ({ dst := some 145, op := Op.load _ (Operand.tmp 144), type := _, pos := _, after := _, guard := some (8, false) } : Oper)) (v := ?_) rfl (by kernel_rfl) (by kernel_rfl) (by kernel_rfl) (fun _ _ _ h => h) (Or.inl ⟨by rfl, ?_⟩) (by assumption) ?_
            rotate_left
            · intro w' hSw; (try dsimp only at hSw); go_simp <;> (try with_reducible rfl)
            (try simp only [Act.put, List.setIfInBounds_toArray, List.set_cons_zero, List.set_cons_succ])
            refine wpAnyH_take (i := 13) (oi := ({ dst := some 146, op := Op.move (Operand.tmp 12), type := _, pos := _, after := _, guard := some (8, false) } : Oper)) (v := ?_) rfl (by kernel_rfl) (by kernel_rfl) (by kernel_rfl) (fun _ _ _ h => h) (Or.inl ⟨by rfl, ?_⟩) (by assumption) ?_
            rotate_left
            · intro w' hSw; (try dsimp only at hSw); go_simp <;> (try with_reducible rfl)
            (try simp only [Act.put, List.setIfInBounds_toArray, List.set_cons_zero, List.set_cons_succ])
            refine wpAnyH_take (i := 14) (oi := ({ dst := some 147, op := Op.nilCheck (Operand.tmp 146), type := _, pos := _, after := _, guard := some (8, false) } : Oper)) (v := ?_) rfl (by kernel_rfl) (by kernel_rfl) (by kernel_rfl) (fun _ _ _ h => h) (Or.inl ⟨by rfl, ?_⟩) (by assumption) ?_
            rotate_left
            · intro w' hSw; (try dsimp only at hSw); go_simp <;> (try with_reducible rfl)
            (try simp only [Act.put, List.setIfInBounds_toArray, List.set_cons_zero, List.set_cons_succ])
            refine wpAnyH_take (i := 15) (oi := ({ dst := some 148, op := Op.fieldAddr _ (Operand.tmp 147) 0, type := _, pos := _, after := _, guard := some (8, false) } : Oper)) (v := ?_) rfl (by kernel_rfl) (by kernel_rfl) (by kernel_rfl) (fun _ _ _ h => h) (Or.inl ⟨by rfl, ?_⟩) (by assumption) ?_
            rotate_left
            · intro w' hSw; (try dsimp only at hSw); go_simp <;> (try with_reducible rfl)
            (try simp only [Act.put, List.setIfInBounds_toArray, List.set_cons_zero, List.set_cons_succ])
            refine wpAnyH_take (i := 16) (oi := ({ dst := some 149, op := Op.load _ (Operand.tmp 148), type := _, pos := _, after := _, guard := some (8, false) } : Oper)) (v := ?_) rfl (by kernel_rfl) (by kernel_rfl) (by kernel_rfl) (fun _ _ _ h => h) (Or.inl ⟨by rfl, ?_⟩) (by assumption) ?_
            rotate_left
            · intro w' hSw; (try dsimp only at hSw); go_simp <;> (try with_reducible rfl)
            (try simp only [Act.put, List.setIfInBounds_toArray, List.set_cons_zero, List.set_cons_succ])
            refine wpAnyH_take (i := 17) (oi := ({ dst := some 150, op := Op.binOp BinOp.neq _ (Operand.tmp 145) (Operand.tmp 149) _, type := _, pos := _, after := _, guard := some (8, false) } : Oper)) (v := ?_) rfl (by kernel_rfl) (by kernel_rfl) (by kernel_rfl) (fun _ _ _ h => h) (Or.inl ⟨by rfl, ?_⟩) (by assumption) ?_
            rotate_left
            · intro w' hSw; (try dsimp only at hSw); go_simp <;> (try with_reducible rfl)
            (try simp only [Act.put, List.setIfInBounds_toArray, List.set_cons_zero, List.set_cons_succ])
            refine wpAnyH_take (i := 18) (oi := ({ dst := some 151, op := Op.pick (Operand.tmp 141) (Operand.const (Value.bool true)) (Operand.tmp 150), type := _, pos := _, after := _, guard := none } : Oper)) (v := ?_) rfl (by kernel_rfl) (by kernel_rfl) (by kernel_rfl) (fun _ _ _ h => h) (Or.inl ⟨by rfl, ?_⟩) (by assumption) ?_
            rotate_left
            · intro w' hSw; (try dsimp only at hSw); go_simp <;> (try with_reducible rfl)
            (try simp only [Act.put, List.setIfInBounds_toArray, List.set_cons_zero, List.set_cons_succ])
            refine wpAnyH_done (by kernel_rfl) ?_ _
            refine NoPanic.normal ?_
            clear c1 c2 c3 k1 k2 k3
            have hb_ : Below w7_.heap.size w7_ w7_.drew := (Below.refl _ _).drew
            generalize w7_.drew = w8_ at hb_ ⊢
            replace BW : Hid (Below _ _ _) := bstep BW.out hb_
            replace UM : Hid (URow _ _ _ _ _) := UM.out.below hb_
            replace M : Hid (MBox _ _ _ _ _ _) := M.out.below hb_
            replace Ux : Hid (URow _ _ _ _ _) := Ux.out.below hb_
            replace Hc : Hid (IsCalc _ _ _ _) := Hc.out.later hb_
            replace Uy : Hid (URow _ _ _ _ _) := Uy.out.below hb_
            replace Hk : Hid (IsCalc _ _ _ _) := Hk.out.later hb_
            replace HWE : Hid (WRow _ _ _ _) := HWE.out.below hb_
            clear hb_
            clear Hc Hk M UM Ux
            go_wp2_with fail
            go_loopw [154] (fun s154_ wr => ∃ (i : Nat) , s154_ = .int .i64 (i : Int) ∧ i ≤ N ∧ Hid (Below w.heap.size w wr) ∧ Hid (URow wr (some ⟨gy, 0, none⟩) N N Y) ∧ Hid (WRow wr gw N Y)) (fun s154_ _ => N - (intOf s154_).toNat)
            case atStart => exact ⟨0, rfl, Nat.zero_le _, BW, Uy, HWE⟩
            case round =>
              clear BW Uy HWE
              obtain ⟨i, rfl, hi_, BW, Uy, HWE⟩ := hrel
              obtain ⟨w9_, rfl⟩ : ∃ x, x = wr := ⟨wr, rfl⟩
              by_cases hlt : (i : Int) < (N : Int)
              · skip
                obtain ⟨l1_, q1⟩ := Uy.out.cellg i (by omega)
                have q2 := HWE.out.cell i (by omega)
                obtain ⟨v, hv⟩ : ∃ v, Y i = v := ⟨_, rfl⟩
                rw [hv] at q1 q2
                clear hv
                go_wp2_with fail
                go_wp2_with fail
                have ct : Cnt 1 := Cnt.mk _
                go_region_held3 (fun w' => (w'.cell? ⟨gy, i, none⟩ = some (.int .u64 v)) ∧ (w'.cell? ⟨gw, i, none⟩ = some (.int .u64 v))) (simp [go_sem, *]) (first | fail)
                clear ct
                have hb_ : Below w9_.heap.size w9_ w9_.drew := (Below.refl _ _).drew
                generalize w9_.drew = w10_ at hb_ ⊢
                replace BW : Hid (Below _ _ _) := bstep BW.out hb_
                replace Uy : Hid (URow _ _ _ _ _) := Uy.out.below hb_
                replace HWE : Hid (WRow _ _ _ _) := HWE.out.below hb_
                clear hb_
                go_wp2
                go_roundw
                case rel => exact ⟨i + 1, by go_num, by omega, BW, Uy, HWE⟩
                case measure => simp [intOf]; omega
              · obtain rfl : N = i := by omega
                go_wp2
                go_ret
                exact ⟨ret_eq rfl, BW.out⟩

/-! ### THE ROW's STEP: WRITTEN OUT: LEAVE IT -/
set_option maxRecDepth 100000 in
theorem lifted (os : Os) (started : os.Started) (H : Type) (enc : TypeId × Value → H) :
    ReturnsInHanded {} Try.checked os 8 .any (Rows.solveStepsSpec.pre6 enc Try.prog Try.f8 Rows.solveStepsRow.domain false) (Rows.solveStepsSpec.post enc Try.prog Try.f8 false true false false) := by
  refine returnsInHanded_of_change (C := Try.checked) own started (by kernel_rfl) Try.func8
    (ChangeSpec.witness6 (enc := enc) (C := Try.checked) false ⟨#[], #[.int .i64 0, .slice none 0 0, .bool false, .bool false], []⟩ 8 (by kernel_rfl) (by kernel_rfl) (by kernel_rfl) (by kernel_rfl)) ?_
  intro W base args ds gs before hval0 hW hcnd _
  have hval : ∀ (j : Nat) t v, Try.f8.params[j]? = some t → args[j]? = some v → Value.okWide Try.prog W .any base t v := hval0
  have hW' := hW
  obtain ⟨p, q, hA0, hV, rfl, hfz, hnd⟩ := hW
  have hA : DataW.TrodAll enc Try.prog W 0 (fun _ => true) true Try.f8.params.toList args.toList ds p := hA0
  rw [Try.params8] at hA hval
  obtain ⟨v0, vs0, d0, ds0, p0, q0, hargs, rfl, rfl, h0, r0⟩ := trodAll_cons hA
  obtain ⟨v1, vs1, d1, ds1, p1, q1, rfl, rfl, rfl, h1, r1⟩ := trodAll_cons r0
  obtain ⟨v2, vs2, d2, ds2, p2, q2, rfl, rfl, rfl, h2, r2⟩ := trodAll_cons r1
  obtain ⟨v3, vs3, d3, ds3, p3, q3, rfl, rfl, rfl, h3, r3⟩ := trodAll_cons r2
  obtain ⟨rfl, rfl, rfl⟩ := trodAll_nil r3
  obtain rfl : args = #[v0, v1, v2, v3] := by cases args; simp_all
  obtain ⟨rfl, rfl⟩ := trodVars_none hV
  obtain ⟨a0, rfl, rfl, rfl, w0⟩ := open_int Try.underlying3 (hval 0 3 v0 rfl rfl) h0
  obtain ⟨a1, len1, cap1, rfl⟩ := okWide_slice Try.underlying22 (hval 1 22 v1 rfl rfl)
  have k1 := h1
  have lt1 : ∀ x ∈ p1, x.block < W.heap.size := by obtain ⟨m, hm⟩ := k1; exact DataW.trod_lt m _ _ _ hm
  obtain ⟨z1, w1⟩ : ∃ zs, IsRow .u64 W a1 len1 cap1 zs := by
    obtain ⟨fuel, hf⟩ := h1
    rcases open_ints Try.underlying22 Try.underlying23 (by kernel_rfl) hf with ⟨hcs, _⟩ | ⟨x, l, c, zs, hcs, _, hl, hm, hz, _, hcell, hwz⟩
    · simp [Value.cells] at hcs
      obtain ⟨rfl, rfl, rfl⟩ := hcs
      exact ⟨[], .inl ⟨rfl, rfl, rfl, rfl⟩⟩
    · simp [Value.cells] at hcs
      obtain ⟨rfl, rfl, rfl⟩ := hcs
      exact ⟨zs, .inr ⟨_, rfl, hl, hm, by simpa using hz, hcell, hwz⟩⟩
  obtain ⟨a2, rfl, rfl, rfl⟩ := open_bool Try.underlying4 (hval 2 4 v2 rfl rfl) h2
  obtain ⟨a3, rfl, rfl, rfl⟩ := open_bool Try.underlying4 (hval 3 4 v3 rfl rfl) h3
  clear hA0 hval0
  refine (walk a0 a1 len1 cap1 z1 a2 a3 W w0 w1).mono fun e W' ⟨he, bel⟩ => ?_
  subst he
  exact ⟨_, rfl, _, _, _, [], _, [], hW', trodAll_mk1 (shut_bool Try.underlying4 _), (trodAll_cons_mk (shut_int Try.underlying3 w0) (trodAll_cons_mk (Below.trod laidOut (by kernel_rfl) (of_decide_eq_true (by kernel_rfl)) k1 bel lt1) (trodAll_cons_mk (shut_bool Try.underlying4 _) (trodAll_cons_mk (shut_bool Try.underlying4 _) trodAll_mk0)))), rfl, bel.frame _, fun h => by cases h⟩

theorem over : Rows.solveStepsRow.holds Try.pinned (OpenSpec.ofChange Rows.solveStepsSpec) :=
  OpenClaim.holds_of_wide 8 Try.f8 rfl rfl rfl rfl rfl rfl rfl ⟨rfl, rfl, rfl, rfl, rfl⟩ rfl rfl rfl rfl rfl (by kernel_rfl) Try.func8 (by kernel_rfl)
    (of_decide_eq_true (by kernel_rfl)) (by unfold Func.isWrapper; first | (rw [if_pos (by decide +kernel)]; kernel_rfl) | (rw [if_neg (by decide +kernel)]; exact ⟨rfl, rfl⟩))
    (fun os started H enc _ => lifted os started H enc)

/-- ████ THE STATEMENT ████ -/
theorem proved : Rows.SolveStepsSaid := over
#print axioms proved
end Go.Proofs.Ytpakpgjbgehhjaa.solveSteps
