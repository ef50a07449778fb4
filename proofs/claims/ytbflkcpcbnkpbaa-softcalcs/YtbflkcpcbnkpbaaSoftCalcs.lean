/-
  The law SoftCalcs returns true at every input (any pattern, any list of operations), and leaves its arguments as they were. No conditions.
-/
import Derived.Test.YtbflkcpcbnkpbaaRows
import Derived.WalkKit
import Derived.ProofKit
import Derived.OpenShut
import Derived.Test.YtbflkcpcbnkpbaaSoftL
import Derived.Test.YtbflkcpcbnkpbaaSoftG
import Derived.Test.YtbflkcpcbnkpbaaPairM
import Derived.Lib.SmallJoins
import Derived.Below
import Derived.ChangeOld
import Derived.Deep.SlicePairs
namespace Go.Proofs.Ytbflkcpcbnkpbaa.softCalcs
open Go.ChangeShapes Go.WideShapes Go.ChangeAt Go.RowKit
open Go.Joins (open_agg2 shut_agg2)
set_option linter.unusedVariables false

theorem laidOut : laidOutB Try.prog = true := by kernel_rfl
theorem lt_of_cell {w : World} {b k : Nat} {v : Value} (h : w.cell? ((⟨b, k, none⟩ : Addr).add (0 * 2)) = some v) : b < w.heap.size := by have := World.block_lt_of_cell? _ _ h; simpa [Addr.add] using this
theorem own : ownKnob Try.prog.godebug = none := by kernel_rfl

theorem or0_all : ∀ j : Fin 256, bits .or .u8 ((j.1 : Nat) : Int) 0 = ((j.1 : Nat) : Int) := by decide +kernel
theorem or0 (F : Int) (h0 : 0 ≤ F) (h1 : F < 256) : bits .or .u8 F 0 = F := by
  have := or0_all ⟨F.toNat, by omega⟩
  simp only at this
  rw [show ((F.toNat : Nat) : Int) = F by omega] at this
  exact this
theorem or_bd (F f : Int) : 0 ≤ bits .or .u8 F f ∧ bits .or .u8 F f < 256 := by
  have h := bounds_u8 (wf_bits .or .u8 F f)
  omega
set_option maxRecDepth 100000 in
set_option maxHeartbeats 4000000 in
theorem walk (a0 : Int) (a1 : Value) (l1 : Nat) (K1 B1 : Nat → Int) (w : World) (w0 : (Lit.int .u64 a0).wf = true) (w1 : IsPairs w .i64 .u64 a1 l1 K1 B1) :
    Calls Try.prog 14 #[.int .u64 a0, a1] w fun e w' => e = .returned (.bool true) ∧ Below w.heap.size w w' := by
  obtain ⟨h0, h1⟩ := bounds_u64 w0
  have h1' : a0 < 18446744073709551616 := by omega
  obtain ⟨sa, cp, rfl, hP⟩ := w1
  go_enter Try.func14, Try.ntmps14
  go_wp2_with fail
  refine (rHead4 _).mono ?_
  rintro e w1 ⟨rfl, hb1⟩
  have hz1 := hb1.size
  go_wp2_with fail
  go_loopw [0, 7, 8] (fun a all i wr => ∃ (x F : Int) (k : Nat), a = .int .u64 x ∧ 0 ≤ x ∧ x < 18446744073709551616 ∧ all = .int .u8 F ∧ 0 ≤ F ∧ F < 256 ∧ i = .int .i64 k ∧ k ≤ l1 ∧ k ≤ 60 ∧ wr.cell? ⟨w1.heap.size, 0, none⟩ = some (.int .u8 F) ∧ wr.frozen? ⟨w1.heap.size, 0, none⟩ = false ∧ w1.heap.size < wr.heap.size ∧ Below w.heap.size w wr) (fun _ _ i _ => 60 - (intOf i).toNat)
  case atStart =>
    refine ⟨a0, 0, 0, rfl, h0, h1', rfl, by omega, by omega, rfl, Nat.zero_le _, by omega, ?_, ?_, by simp, bmore hb1 _⟩
    · simp [go_sem]
    · simp [go_sem]
  case round =>
    obtain ⟨x, F, k, rfl, x0, x1, rfl, F0, F1, rfl, kl, k6, cF, zF, hzr, hbr⟩ := hrel
    by_cases hk : k < l1
    · by_cases hk6 : k < 60
      · obtain ⟨b, o, rfl, hb, hlc, hcm, hcell⟩ := hP (by omega)
        obtain ⟨e0, e1, v0, v1⟩ := hcell k hk
        have q0 := (hbr.cell (p := ⟨b, o + k * 2, none⟩) hb).trans e0
        have q1 := (hbr.cell (p := ⟨b, o + k * 2 + 1, none⟩) hb).trans e1
        obtain ⟨B0, B9⟩ := bounds_u64 v1
        obtain ⟨K, hK⟩ : ∃ K, K1 k = K := ⟨_, rfl⟩
        obtain ⟨B, hB⟩ : ∃ B, B1 k = B := ⟨_, rfl⟩
        rw [hK] at q0
        rw [hB] at q1 B0 B9
        have B1' : B < 18446744073709551616 := by omega
        have hn0 := or0 F F0 F1
        clear hcell e0 e1 v0 v1 hP hK hB
        by_cases hK0 : K = 0
        · subst hK0
          obtain ⟨s0, s1, s2, s3⟩ := addS_bd x B x0 x1 B0 B1'
          obtain ⟨S, hS⟩ : ∃ S, addS x B = S := ⟨_, rfl⟩
          rw [hS] at s0 s1 s2 s3
          have HS : Hid (_ = _) := hS
          clear hS
          obtain ⟨y, f⟩ := S
          simp only at s0 s1 s2 s3
          obtain ⟨o0, o1⟩ := or_bd F f
          obtain ⟨G, hG⟩ : ∃ G, bits .or .u8 F f = G := ⟨_, rfl⟩
          rw [hG] at o0 o1
          go_wp2_with fail
          refine (pAdd _ _ _ x0 x1 B0 B1').mono ?_
          rintro e w2 ⟨rfl, hb2⟩
          rw [HS.out]
          have u0 := hb2.cell (p := ⟨wr.heap.size, 0, none⟩) (by simp)
          have u1 := hb2.cell (p := ⟨wr.heap.size, 1, none⟩) (by simp)
          simp [go_sem] at u0 u1
          have hbr2 : Below wr.heap.size wr w2 := (bmore (Below.refl _ _) _).trans (hb2.mono (by simp))
          have c2 := cell_later hbr2 cF
          have z2 := (hbr2.frozen (p := ⟨w1.heap.size, 0, none⟩) hzr).trans zF
          have hz2 : wr.heap.size < w2.heap.size := by have := hb2.size; simp at this; omega
          clear hb2
          go_wp2_with fail
          refine (cAdd _ _ _ F _ x0 x1 B0 B1' (by omega) c2 z2).mono ?_
          rintro e w3 ⟨rfl, w3', hb3, rfl⟩
          rw [HS.out]
          simp only [hG]
          have c3 := cell_later hb3 c2
          have z3 := (hb3.frozen (p := ⟨w1.heap.size, 0, none⟩) (by show w1.heap.size < w2.heap.size; omega)).trans z2
          have t1 := cell_later hb3 u1
          have hz3 := hb3.size
          have hbr3 : Below wr.heap.size wr w3' := bstep hbr2 hb3
          clear hb3
          go_wp2_with fail
          refine (cAdd0 _ _ _ x0 x1 B0 B1').mono ?_
          rintro e w4 ⟨rfl, hb4⟩
          rw [HS.out]
          have c4 := hb4.cell (p := ⟨w1.heap.size, 0, none⟩) (by simp; omega)
          have z4 := hb4.frozen (p := ⟨w1.heap.size, 0, none⟩) (by simp; omega)
          simp [go_sem, c3, z3] at c4 z4
          have hz4 : w3'.heap.size ≤ w4.heap.size := by have := hb4.size; simp at this; omega
          have hbz : Below w.heap.size w w4 := ((bstep hbr hbr3).setCell (by simp; omega) _).trans (hb4.mono (by have := hbr.size; simp; omega))
          clear hb4
          go_wp2
          go_roundw
          case rel => exact ⟨y, G, k + 1, rfl, s0, s1, rfl, o0, o1, by go_num, by omega, by omega, c4, z4, by omega, hbz⟩
          case measure => simp [intOf]; omega
        · skip
          by_cases hK1 : K = 1
          · subst hK1
            obtain ⟨s0, s1, s2, s3⟩ := addS_bd x (wFlip B) x0 x1 (wFlip_bd B).1 (wFlip_bd B).2
            obtain ⟨S, hS⟩ : ∃ S, addS x (wFlip B) = S := ⟨_, rfl⟩
            rw [hS] at s0 s1 s2 s3
            have HS : Hid (_ = _) := hS
            clear hS
            obtain ⟨y, f⟩ := S
            simp only at s0 s1 s2 s3
            obtain ⟨o0, o1⟩ := or_bd F f
            obtain ⟨G, hG⟩ : ∃ G, bits .or .u8 F f = G := ⟨_, rfl⟩
            rw [hG] at o0 o1
            go_wp2_with fail
            refine (pSub _ _ _ x0 x1 B0 B1').mono ?_
            rintro e w2 ⟨rfl, hb2⟩
            rw [HS.out]
            have u0 := hb2.cell (p := ⟨wr.heap.size, 0, none⟩) (by simp)
            have u1 := hb2.cell (p := ⟨wr.heap.size, 1, none⟩) (by simp)
            simp [go_sem] at u0 u1
            have hbr2 : Below wr.heap.size wr w2 := (bmore (Below.refl _ _) _).trans (hb2.mono (by simp))
            have c2 := cell_later hbr2 cF
            have z2 := (hbr2.frozen (p := ⟨w1.heap.size, 0, none⟩) hzr).trans zF
            have hz2 : wr.heap.size < w2.heap.size := by have := hb2.size; simp at this; omega
            clear hb2
            go_wp2_with fail
            refine (cSub _ _ _ F _ x0 x1 B0 B1' (by omega) c2 z2).mono ?_
            rintro e w3 ⟨rfl, w3', hb3, rfl⟩
            rw [HS.out]
            simp only [hG]
            have c3 := cell_later hb3 c2
            have z3 := (hb3.frozen (p := ⟨w1.heap.size, 0, none⟩) (by show w1.heap.size < w2.heap.size; omega)).trans z2
            have t1 := cell_later hb3 u1
            have hz3 := hb3.size
            have hbr3 : Below wr.heap.size wr w3' := bstep hbr2 hb3
            clear hb3
            go_wp2_with fail
            refine (cSub0 _ _ _ x0 x1 B0 B1').mono ?_
            rintro e w4 ⟨rfl, hb4⟩
            rw [HS.out]
            have c4 := hb4.cell (p := ⟨w1.heap.size, 0, none⟩) (by simp; omega)
            have z4 := hb4.frozen (p := ⟨w1.heap.size, 0, none⟩) (by simp; omega)
            simp [go_sem, c3, z3] at c4 z4
            have hz4 : w3'.heap.size ≤ w4.heap.size := by have := hb4.size; simp at this; omega
            have hbz : Below w.heap.size w w4 := ((bstep hbr hbr3).setCell (by simp; omega) _).trans (hb4.mono (by have := hbr.size; simp; omega))
            clear hb4
            go_wp2
            go_roundw
            case rel => exact ⟨y, G, k + 1, rfl, s0, s1, rfl, o0, o1, by go_num, by omega, by omega, c4, z4, by omega, hbz⟩
            case measure => simp [intOf]; omega
          · skip
            by_cases hK2 : K = 2
            · subst hK2
              obtain ⟨s0, s1, s2, s3⟩ := mulS_bd x B
              obtain ⟨S, hS⟩ : ∃ S, mulS x B = S := ⟨_, rfl⟩
              rw [hS] at s0 s1 s2 s3
              have HS : Hid (_ = _) := hS
              clear hS
              obtain ⟨y, f⟩ := S
              simp only at s0 s1 s2 s3
              obtain ⟨o0, o1⟩ := or_bd F f
              obtain ⟨G, hG⟩ : ∃ G, bits .or .u8 F f = G := ⟨_, rfl⟩
              rw [hG] at o0 o1
              go_wp2_with fail
              refine (pMul _ _ _ x0 x1 B0 B1').mono ?_
              rintro e w2 ⟨rfl, hb2⟩
              rw [HS.out]
              have u0 := hb2.cell (p := ⟨wr.heap.size, 0, none⟩) (by simp)
              have u1 := hb2.cell (p := ⟨wr.heap.size, 1, none⟩) (by simp)
              simp [go_sem] at u0 u1
              have hbr2 : Below wr.heap.size wr w2 := (bmore (Below.refl _ _) _).trans (hb2.mono (by simp))
              have c2 := cell_later hbr2 cF
              have z2 := (hbr2.frozen (p := ⟨w1.heap.size, 0, none⟩) hzr).trans zF
              have hz2 : wr.heap.size < w2.heap.size := by have := hb2.size; simp at this; omega
              clear hb2
              go_wp2_with fail
              refine (cMul _ _ _ F _ x0 x1 B0 B1' (by omega) c2 z2).mono ?_
              rintro e w3 ⟨rfl, w3', hb3, rfl⟩
              rw [HS.out]
              simp only [hG]
              have c3 := cell_later hb3 c2
              have z3 := (hb3.frozen (p := ⟨w1.heap.size, 0, none⟩) (by show w1.heap.size < w2.heap.size; omega)).trans z2
              have t1 := cell_later hb3 u1
              have hz3 := hb3.size
              have hbr3 : Below wr.heap.size wr w3' := bstep hbr2 hb3
              clear hb3
              go_wp2_with fail
              refine (cMul0 _ _ _ x0 x1 B0 B1').mono ?_
              rintro e w4 ⟨rfl, hb4⟩
              rw [HS.out]
              have c4 := hb4.cell (p := ⟨w1.heap.size, 0, none⟩) (by simp; omega)
              have z4 := hb4.frozen (p := ⟨w1.heap.size, 0, none⟩) (by simp; omega)
              simp [go_sem, c3, z3] at c4 z4
              have hz4 : w3'.heap.size ≤ w4.heap.size := by have := hb4.size; simp at this; omega
              have hbz : Below w.heap.size w w4 := ((bstep hbr hbr3).setCell (by simp; omega) _).trans (hb4.mono (by have := hbr.size; simp; omega))
              clear hb4
              go_wp2
              go_roundw
              case rel => exact ⟨y, G, k + 1, rfl, s0, s1, rfl, o0, o1, by go_num, by omega, by omega, c4, z4, by omega, hbz⟩
              case measure => simp [intOf]; omega
            · skip
              by_cases hK3 : K = 3
              · subst hK3
                obtain ⟨s0, s1, s2, s3⟩ := divS_bd x B
                obtain ⟨S, hS⟩ : ∃ S, divS x B = S := ⟨_, rfl⟩
                rw [hS] at s0 s1 s2 s3
                have HS : Hid (_ = _) := hS
                clear hS
                obtain ⟨y, f⟩ := S
                simp only at s0 s1 s2 s3
                obtain ⟨o0, o1⟩ := or_bd F f
                obtain ⟨G, hG⟩ : ∃ G, bits .or .u8 F f = G := ⟨_, rfl⟩
                rw [hG] at o0 o1
                go_wp2_with fail
                refine (pDiv _ _ _ x0 x1 B0 B1').mono ?_
                rintro e w2 ⟨rfl, hb2⟩
                rw [HS.out]
                have u0 := hb2.cell (p := ⟨wr.heap.size, 0, none⟩) (by simp)
                have u1 := hb2.cell (p := ⟨wr.heap.size, 1, none⟩) (by simp)
                simp [go_sem] at u0 u1
                have hbr2 : Below wr.heap.size wr w2 := (bmore (Below.refl _ _) _).trans (hb2.mono (by simp))
                have c2 := cell_later hbr2 cF
                have z2 := (hbr2.frozen (p := ⟨w1.heap.size, 0, none⟩) hzr).trans zF
                have hz2 : wr.heap.size < w2.heap.size := by have := hb2.size; simp at this; omega
                clear hb2
                go_wp2_with fail
                refine (cDiv _ _ _ F _ x0 x1 B0 B1' (by omega) c2 z2).mono ?_
                rintro e w3 ⟨rfl, w3', hb3, rfl⟩
                rw [HS.out]
                simp only [hG]
                have c3 := cell_later hb3 c2
                have z3 := (hb3.frozen (p := ⟨w1.heap.size, 0, none⟩) (by show w1.heap.size < w2.heap.size; omega)).trans z2
                have t1 := cell_later hb3 u1
                have hz3 := hb3.size
                have hbr3 : Below wr.heap.size wr w3' := bstep hbr2 hb3
                clear hb3
                go_wp2_with fail
                refine (cDiv0 _ _ _ x0 x1 B0 B1').mono ?_
                rintro e w4 ⟨rfl, hb4⟩
                rw [HS.out]
                have c4 := hb4.cell (p := ⟨w1.heap.size, 0, none⟩) (by simp; omega)
                have z4 := hb4.frozen (p := ⟨w1.heap.size, 0, none⟩) (by simp; omega)
                simp [go_sem, c3, z3] at c4 z4
                have hz4 : w3'.heap.size ≤ w4.heap.size := by have := hb4.size; simp at this; omega
                have hbz : Below w.heap.size w w4 := ((bstep hbr hbr3).setCell (by simp; omega) _).trans (hb4.mono (by have := hbr.size; simp; omega))
                clear hb4
                go_wp2
                go_roundw
                case rel => exact ⟨y, G, k + 1, rfl, s0, s1, rfl, o0, o1, by go_num, by omega, by omega, c4, z4, by omega, hbz⟩
                case measure => simp [intOf]; omega
              · skip
                by_cases hK4 : K = 4
                · subst hK4
                  obtain ⟨f, hf⟩ : ∃ f, IntKind.u8.wrap (bits .and .u64 B 31) = f := ⟨_, rfl⟩
                  obtain ⟨o0, o1⟩ := or_bd F f
                  obtain ⟨G, hG⟩ : ∃ G, bits .or .u8 F f = G := ⟨_, rfl⟩
                  rw [hG] at o0 o1
                  have hzr2 : w1.heap.size < (wr.alloc (.cells #[.int .i64 4, .int .u64 B] 60)).heap.size := by simp; omega
                  have c2 := cell_later (wx := wr.alloc (.cells #[.int .i64 4, .int .u64 B] 60)) (bmore (Below.refl _ _) _) cF
                  have z2 : (wr.alloc (.cells #[.int .i64 4, .int .u64 B] 60)).frozen? ⟨w1.heap.size, 0, none⟩ = false := ((bmore (Below.refl _ wr) (.cells #[.int .i64 4, .int .u64 B] 60)).frozen (p := ⟨w1.heap.size, 0, none⟩) hzr).trans zF
                  go_wp2_with fail
                  refine (cNote _ _ _ F _ c2 z2).mono ?_
                  rintro e w3 ⟨rfl, rfl⟩
                  simp only [hG]
                  go_wp2_with fail
                  refine (cNote0 _ _ _).mono ?_
                  rintro e w4 ⟨rfl, hw4⟩
                  have hsz : w1.heap.size < (wr.setCell ⟨w1.heap.size, 0, none⟩ (.int .u8 G)).heap.size := by simp; omega
                  have cs : (wr.setCell ⟨w1.heap.size, 0, none⟩ (.int .u8 G)).cell? ⟨w1.heap.size, 0, none⟩ = some (.int .u8 G) := by simp [go_sem, cF]
                  have zs : (wr.setCell ⟨w1.heap.size, 0, none⟩ (.int .u8 G)).frozen? ⟨w1.heap.size, 0, none⟩ = false := by simp [go_sem, zF]
                  have c4 : w4.cell? ⟨w1.heap.size, 0, none⟩ = some (.int .u8 G) := by rw [hw4]; exact cell_later (bmore (Below.refl _ _) _) cs
                  have z4 : w4.frozen? ⟨w1.heap.size, 0, none⟩ = false := by rw [hw4]; exact ((bmore (Below.refl _ _) _).frozen (p := ⟨w1.heap.size, 0, none⟩) hsz).trans zs
                  have hz4 : w1.heap.size < w4.heap.size := by rw [hw4]; simp; omega
                  have hbz : Below w.heap.size w w4 := by rw [hw4]; exact (bmore (hbr.setCell (by show w.heap.size ≤ w1.heap.size; omega) _) _)
                  clear hw4 c2 z2 cs zs hsz
                  go_wp2
                  go_roundw
                  case rel => exact ⟨x, G, k + 1, rfl, x0, x1, rfl, o0, o1, by go_num, by omega, by omega, c4, z4, by omega, hbz⟩
                  case measure => simp [intOf]; omega
                · have k0 : (K == 0) = false := by simpa using hK0
                  have k1 : (K == 1) = false := by simpa using hK1
                  have k2 : (K == 2) = false := by simpa using hK2
                  have k3 : (K == 3) = false := by simpa using hK3
                  have k4 : (K == 4) = false := by simpa using hK4
                  have c2 := cell_later (wx := wr.alloc (.cells #[.int .i64 K, .int .u64 B] 60)) (bmore (Below.refl _ _) _) cF
                  have z2 : (wr.alloc (.cells #[.int .i64 K, .int .u64 B] 60)).frozen? ⟨w1.heap.size, 0, none⟩ = false := ((bmore (Below.refl _ wr) (.cells #[.int .i64 K, .int .u64 B] 60)).frozen (p := ⟨w1.heap.size, 0, none⟩) hzr).trans zF
                  go_wp2
                  go_roundw
                  case rel => exact ⟨x, F, k + 1, rfl, x0, x1, by go_num, F0, F1, by go_num, by omega, by omega, c2, z2, by simp; omega, bmore hbr _⟩
                  case measure => simp [intOf]; omega
      · have hk60 : k = 60 := by omega
        subst hk60
        go_wp2
        go_ret
        exact ⟨ret_eq rfl, hbr⟩
    · have hkl : k = l1 := by omega
      subst hkl
      go_wp2
      go_ret
      exact ⟨ret_eq rfl, hbr⟩

/-! ### THE ROW's STEP -/
set_option maxRecDepth 100000 in
theorem lifted (os : Os) (started : os.Started) (H : Type) (enc : TypeId × Value → H) :
    ReturnsInHanded {} Try.checked os 14 .any (Rows.softCalcsSpec.pre6 enc Try.prog Try.f14 Rows.softCalcsRow.domain false) (Rows.softCalcsSpec.post enc Try.prog Try.f14 false true false false) := by
  refine returnsInHanded_of_change (C := Try.checked) own started (by kernel_rfl) Try.func14
    (ChangeSpec.witness6 (enc := enc) (C := Try.checked) false ⟨#[], #[.int .u64 0, .slice none 0 0], []⟩ 8 (by kernel_rfl) (by kernel_rfl) (by kernel_rfl) (by kernel_rfl)) ?_
  intro W base args ds gs before hval0 hW hcnd _
  have hval : ∀ (j : Nat) t v, Try.f14.params[j]? = some t → args[j]? = some v → Value.okWide Try.prog W .any base t v := hval0
  have hW' := hW
  obtain ⟨p, q, hA0, hV, rfl, hfz, hnd⟩ := hW
  have hA : DataW.TrodAll enc Try.prog W 0 (fun _ => true) true Try.f14.params.toList args.toList ds p := hA0
  rw [Try.params14] at hA hval
  obtain ⟨v0, vs0, d0, ds0, p0, q0, hargs, rfl, rfl, h0, r0⟩ := trodAll_cons hA
  obtain ⟨v1, vs1, d1, ds1, p1, q1, rfl, rfl, rfl, h1, r1⟩ := trodAll_cons r0
  obtain ⟨rfl, rfl, rfl⟩ := trodAll_nil r1
  obtain rfl : args = #[v0, v1] := by cases args; simp_all
  obtain ⟨rfl, rfl⟩ := trodVars_none hV
  obtain ⟨a0, rfl, rfl, rfl, w0⟩ := open_int Try.underlying22 (hval 0 22 v0 rfl rfl) h0
  obtain ⟨a1, l1, c1, rfl⟩ := okWide_slice Try.underlying55 (hval 1 55 v1 rfl rfl)
  have k1 := h1
  have lt1 : ∀ x ∈ p1, x.block < W.heap.size := by obtain ⟨m, hm⟩ := k1; exact DataW.trod_lt m _ _ _ hm
  obtain ⟨K1, B1, w1⟩ : ∃ K B, IsPairs W .i64 .u64 (.slice a1 l1 c1) l1 K B := by
    obtain ⟨fuel, hf⟩ := h1
    rcases Deep.open_slice_pairs Try.underlying55 Try.underlying60 (by kernel_rfl) rfl rfl (by kernel_rfl) (by kernel_rfl) hf with ⟨hcs, _⟩ | ⟨a, len, cap, m, n, V0, V1, D0, D1, P0, P1, hcs, _, hl, hm, hmm, _, hx⟩
    · simp [Value.cells] at hcs
      obtain ⟨rfl, rfl, rfl⟩ := hcs
      exact ⟨fun _ => 0, fun _ => 0, none, 0, rfl, fun h => absurd h (Nat.lt_irrefl 0)⟩
    · simp [Value.cells] at hcs
      obtain ⟨rfl, rfl, rfl⟩ := hcs
      have hlm : l1 ≤ m := by rw [hmm]; split <;> omega
      have each : ∀ i, i < l1 → ∃ q : Int × Int, V0 i = .int .i64 q.1 ∧ V1 i = .int .u64 q.2 ∧ (Lit.int .i64 q.1).wf = true ∧ (Lit.int .u64 q.2).wf = true := by
        intro i hi
        obtain ⟨e0, e1, t0, t1⟩ := hx i (by omega)
        obtain ⟨x, ex, _, wx⟩ := DataW.trod_int Try.underlying3 t0
        obtain ⟨y, ey, _, wy⟩ := DataW.trod_int Try.underlying22 t1
        simp at ex ey
        exact ⟨(x, y), ex, ey, wx, wy⟩
      obtain ⟨q, hq⟩ := Deep.choose_lt each
      refine ⟨fun i => (q i).1, fun i => (q i).2, some a, c1, rfl, fun hp => ?_⟩
      obtain ⟨b, off, spot⟩ := a
      have hspot : spot = none := by simpa [Addr.add] using World.cell?_spot (hx 0 (by omega)).1
      subst hspot
      have hbk : b < W.heap.size := lt_of_cell (hx 0 (by omega)).1
      refine ⟨b, off, rfl, hbk, hl, hm, fun i hi => ?_⟩
      obtain ⟨e0, e1, _, _⟩ := hx i (by omega)
      obtain ⟨q0, q1, q2, q3⟩ := hq i hi
      rw [q0, add_plain] at e0
      rw [q1, add_plain] at e1
      exact ⟨e0, e1, q2, q3⟩
  clear hA0 hval0
  refine (walk a0 (.slice a1 l1 c1) l1 K1 B1 W w0 w1).mono fun e W' ⟨he, bel⟩ => ?_
  subst he
  exact ⟨_, rfl, _, _, _, [], _, [], hW', trodAll_mk1 (shut_bool Try.underlying4 _), (trodAll_cons_mk (shut_int Try.underlying22 w0) (trodAll_cons_mk (Below.trod laidOut (by kernel_rfl) (of_decide_eq_true (by kernel_rfl)) k1 bel lt1) trodAll_mk0)), rfl, bel.frame _, fun h => by cases h⟩

theorem over : Rows.softCalcsRow.holds Try.pinned (OpenSpec.ofChange Rows.softCalcsSpec) :=
  OpenClaim.holds_of_wide 14 Try.f14 rfl rfl rfl rfl rfl rfl rfl ⟨rfl, rfl, rfl, rfl, rfl⟩ rfl rfl rfl rfl rfl (by kernel_rfl) Try.func14 (by kernel_rfl)
    (of_decide_eq_true (by kernel_rfl)) (by unfold Func.isWrapper; first | (rw [if_pos (by decide +kernel)]; kernel_rfl) | (rw [if_neg (by decide +kernel)]; exact ⟨rfl, rfl⟩))
    (fun os started H enc _ => lifted os started H enc)

/-- THE STATEMENT -/
theorem proved : Rows.SoftCalcsSaid :=
  over
#print axioms proved
end Go.Proofs.Ytbflkcpcbnkpbaa.softCalcs
