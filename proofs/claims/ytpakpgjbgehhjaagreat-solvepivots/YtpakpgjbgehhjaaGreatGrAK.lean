/-
  Texts put together: SolL.
-/
import Derived.Test.YtpakpgjbgehhjaaGreatProg
import Derived.Test.YtpakpgjbgehhjaaGreatGrAE
import Derived.Test.YtpakpgjbgehhjaaGreatGrH
import Derived.Test.YtpakpgjbgehhjaaGreatGrO
/-
  What layer 12's law's own 'exact' returns; what SolveNears compares in the end. No conditions.
-/
namespace Go.Proofs.YtpakpgjbgehhjaaGreat
open Go.RowKit
set_option linter.unusedVariables false
set_option linter.unusedSimpArgs false

set_option maxHeartbeats 2000000 in
theorem lExact (b : Int) (w : World) (h0 : 0 ≤ b) (h1 : b < 18446744073709551616) :
    Calls Tryz.prog 11 #[.int .u64 b] w fun e w' => ∃ v, e = .returned v ∧ Tell w' w.heap.size v 17 17 (xv b) ∧ Below w.heap.size w w' := by
  go_enter Tryz.func11, Tryz.ntmps11
  go_wp2_with fail
  have mB := BoxF.made w (.bool false) (.slice none 0 0) (.int .i64 0) (.slice none 0 0) 41
  have b0 : Below w.heap.size w (w.alloc (.cells #[.bool false, .slice none 0 0, .int .i64 0, .slice none 0 0] 41)) := bmore (Below.refl _ _) _
  have hs0 : (w.alloc (.cells #[.bool false, .slice none 0 0, .int .i64 0, .slice none 0 0] 41)).heap.size = w.heap.size + 1 := by simp
  generalize (w.alloc (.cells #[.bool false, .slice none 0 0, .int .i64 0, .slice none 0 0] 41)) = W0 at mB b0 hs0 ⊢
  have MB : Hid (BoxF W0 w.heap.size _ _ _ _) := mB
  have B0 : Hid (Below w.heap.size w W0) := b0
  have HS : Hid (W0.heap.size = w.heap.size + 1) := hs0
  obtain ⟨k0, hk0⟩ : ∃ k, k = w.heap.size := ⟨_, rfl⟩
  rw [← hk0] at MB ⊢
  have HK : Hid (k0 = w.heap.size) := hk0
  clear mB b0 hs0 hk0
  refine (dOf b W0 h0 h1).mono ?_
  rintro e w1 ⟨v, rfl, ht, hb1⟩
  obtain ⟨n, a, m, c, p, rfl, ht2⟩ := ht.numform
  have M1 : Hid (BoxF w1 k0 _ _ _ _) := MB.out.below hb1
  have B1 : Hid (Below w.heap.size w w1) := bstep B0.out hb1
  have T1 : Hid (Tell w1 W0.heap.size (.agg #[.bool n, .slice a m c, .int .i64 p, .slice none 0 0]) 17 17 (xv b)) := ht2
  clear ht ht2 hb1 MB B0
  go_upto_region 2 with fail
  have mN := BoxF.made w1 (.bool n) (.slice a m c) (.int .i64 p) (.slice none 0 0) 41
  have M2 : Hid (BoxF (w1.alloc (.cells #[.bool n, .slice a m c, .int .i64 p, .slice none 0 0] 41)) k0 _ _ _ _) := M1.out.alloc _
  have B2 : Hid (Below w.heap.size w (w1.alloc (.cells #[.bool n, .slice a m c, .int .i64 p, .slice none 0 0] 41))) := bmore B1.out _
  have T2 : Hid (Tell (w1.alloc (.cells #[.bool n, .slice a m c, .int .i64 p, .slice none 0 0] 41)) W0.heap.size (.agg #[.bool n, .slice a m c, .int .i64 p, .slice none 0 0]) 17 17 (xv b)) := T1.out.alloc _
  have K2 : Hid (k0 < W0.heap.size) := by show _ < _; rw [HS.out, HK.out]; exact Nat.lt_succ_self _
  generalize (w1.alloc (.cells #[.bool n, .slice a m c, .int .i64 p, .slice none 0 0] 41)) = W2 at mN M2 B2 T2 ⊢
  obtain ⟨k1, hk1⟩ : ∃ k, k = w1.heap.size := ⟨_, rfl⟩
  rw [← hk1] at mN ⊢
  clear hk1 M1 B1 T1
  obtain ⟨⟨n0, n1, n2, n3⟩, _, _⟩ := mN
  obtain ⟨⟨m0, m1, m2, m3⟩, ⟨m5, m6, m7, m8⟩, m4⟩ := M2.out
  go_wp2
  have hP := bes_puts W2 k0 (.bool n) (.slice a m c) (.int .i64 p) (.slice none 0 0)
  refine bodyPost_ret (v := .agg #[.bool n, .slice a m c, .int .i64 p, .slice none 0 0]) (by simp [results, Tryz.results11, go_sem, *]) rfl ⟨_, rfl, ?_, ?_⟩
  · exact (T2.out.put K2.out _ _ _ _).base (by rw [HS.out]; exact Nat.le_succ _)
  · exact Bes.old B2.out hP (by rw [HK.out]; exact Nat.le_refl _)
theorem xv_fin (x : Int) (h : mag x < 9218868437227405312) : xv x = sv x * 16384 := by unfold xv; rw [if_pos h]
theorem pat_dec (x : Int) (h0 : 0 ≤ x) (h1 : x < 18446744073709551616) : decide (x / 4503599627370496 % 2048 < 2047) = decide (mag x < 9218868437227405312) := by
  rw [decide_eq_decide]
  unfold mag
  omega
end Go.Proofs.YtpakpgjbgehhjaaGreat
