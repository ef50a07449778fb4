/-
  Texts put together: MatS MatT MatU.
-/
import Derived.Test.YtokgfeeaoioegaaProg
import Derived.Test.YtokgfeeaoioegaaGrO
import Derived.Test.YtokgfeeaoioegaaGrN
/-
  What mat's Square returns: the sum of the squares, exactly. Conditions: a matrix that is right, of at most 1024 numbers.
-/
namespace Go.Proofs.Ytokgfeeaoioegaa
open Go.RowKit
set_option linter.unusedVariables false
set_option linter.unusedSimpArgs false

/-- The sum of the squares of the first n, times 2^2176. -/
def sumQ (X : Nat → Int) : Nat → Int
  | 0 => 0
  | k + 1 => sumQ X k + xv (X k) * xv (X k)
set_option maxHeartbeats 8000000 in
set_option maxRecDepth 100000 in
theorem mSquare (R C S : Nat) (a : Option Addr) (len cap : Nat) (Z : Nat → Int) (w : World) (h : Rgt (R : Int) (C : Int) (S : Int) len) (hx : URow w a len cap Z) (hRC : R * C ≤ 1024) :
    Calls Try.prog 28 #[.agg #[.int .i64 (R : Int), .int .i64 (C : Int), .int .i64 (S : Int), .slice a len cap]] w fun e w' => ∃ v, e = .returned v ∧ Tell w' w.heap.size v 34 (34 + (R * C : Nat)) (sumQ (flat Z C S) (R * C)) ∧ Below w.heap.size w w' := by
  have HX : Hid (URow w a len cap Z) := hx
  have HH : Hid (Rgt (R : Int) (C : Int) (S : Int) len) := h
  obtain ⟨lb, cb⟩ := hx.lenB
  have r1 : (R : Int) ≤ 4096 := h.2.1
  have c1 : (C : Int) ≤ 4096 := h.2.2.2.1
  have s1 : (S : Int) ≤ 1099511627776 := h.2.2.2.2.2.1
  obtain ⟨XF, hXF⟩ : ∃ X, X = flat Z C S := ⟨_, rfl⟩
  have FX : Hid (∀ i k, k < C → XF (i * C + k) = Z (i * S + k)) := by rw [hXF]; exact fun i k hk => flat_at Z C S i k hk
  rw [← hXF]
  clear hx h hXF
  go_enter Try.func28, Try.ntmps28
  go_wp2_with fail
  obtain ⟨o1, ho1⟩ : ∃ o, o = Obj.cells #[.int .i64 (R : Int), .int .i64 (C : Int), .int .i64 (S : Int), .slice a len cap] 25 := ⟨_, rfl⟩
  have mM := MBox.made w (R : Int) (C : Int) (S : Int) (.slice a len cap)
  rw [← ho1] at mM
  have b0 : Below w.heap.size w (w.alloc o1) := bmore (Below.refl _ _) _
  have M : Hid (MBox (w.alloc o1) w.heap.size (R : Int) (C : Int) (S : Int) (.slice a len cap)) := mM
  have BW : Hid (Below w.heap.size w (w.alloc o1)) := b0
  rw [← ho1]
  clear ho1 mM b0
  obtain ⟨k_M, hkM⟩ : ∃ k, k = w.heap.size := ⟨_, rfl⟩
  generalize hV : w.alloc o1 = V at M BW ⊢
  have hsz : w.heap.size + 1 = V.heap.size := by rw [← hV]; simp
  rw [hsz]
  rw [← hkM] at M ⊢
  have HKM : Hid (k_M = w.heap.size) := hkM
  have LM : Hid (k_M < V.heap.size) := by show _ < _; omega
  clear hV hkM hsz
  have m0_ := BoxF.made V (.bool false) (.slice none 0 0) (.int .i64 0) (.slice none 0 0) 44
  replace m0_ := m0_.alloc (.cells #[.bool false, .slice none 0 0, .int .i64 0, .slice none 0 0] 44)
  have m1_ := BoxF.made (V.alloc (.cells #[.bool false, .slice none 0 0, .int .i64 0, .slice none 0 0] 44)) (.bool false) (.slice none 0 0) (.int .i64 0) (.slice none 0 0) 44
  simp only [World.size_alloc] at m1_
  have b_ : Below V.heap.size V ((V.alloc (.cells #[.bool false, .slice none 0 0, .int .i64 0, .slice none 0 0] 44)).alloc (.cells #[.bool false, .slice none 0 0, .int .i64 0, .slice none 0 0] 44)) := bmore (bmore (Below.refl _ _) _) _
  obtain ⟨k_s, hk_s⟩ : ∃ k, k = V.heap.size + 1 := ⟨_, rfl⟩
  have L_s : Hid (w.heap.size ≤ k_s) := by rw [hk_s]; exact Nat.le_trans BW.out.size (by omega)
  obtain ⟨k_r, hk_r⟩ : ∃ k, k = V.heap.size := ⟨_, rfl⟩
  have L_r : Hid (w.heap.size ≤ k_r) := by rw [hk_r]; exact Nat.le_trans BW.out.size (by omega)
  have K_rM : Hid (k_r ≠ k_M) := by have := LM.out; show _ ≠ _; omega
  have K_sM : Hid (k_s ≠ k_M) := by have := LM.out; show _ ≠ _; omega
  have N_rs : Hid (k_r ≠ k_s) := by show _ ≠ _; omega
  rw [← hk_s] at m1_ ⊢
  rw [← hk_r] at m0_ ⊢
  generalize ((V.alloc (.cells #[.bool false, .slice none 0 0, .int .i64 0, .slice none 0 0] 44)).alloc (.cells #[.bool false, .slice none 0 0, .int .i64 0, .slice none 0 0] 44)) = w1_ at m0_ m1_ b_ ⊢
  replace BW : Hid (Below _ _ _) := bstep BW.out b_
  replace M : Hid (MBox _ _ _ _ _ _) := M.out.below b_
  replace LM : Hid (_ < _) := Nat.lt_of_lt_of_le LM.out (Below.size b_)
  have b_r : Hid (BoxF w1_ k_r (.bool false) (.slice none 0 0) (.int .i64 0) (.slice none 0 0)) := m0_
  have b_s : Hid (BoxF w1_ k_s (.bool false) (.slice none 0 0) (.int .i64 0) (.slice none 0 0)) := m1_
  clear b_ m0_ hk_r m1_ hk_s
  obtain ⟨B0, hB0⟩ : ∃ B, B = w1_.heap.size := ⟨_, rfl⟩
  have KB_r : Hid (k_r < B0) := by rw [hB0]; exact b_r.out.2.2
  have KB_s : Hid (k_s < B0) := by rw [hB0]; exact b_s.out.2.2
  have ZB0 : Hid (B0 ≤ w1_.heap.size) := by show _ ≤ _; omega
  have LB0 : Hid (w.heap.size ≤ B0) := by show _ ≤ _; rw [hB0]; exact BW.out.size
  clear hB0 LM
  refine (mCheckOk R C S _ _ _ _ HH.out (by omega)).mono ?_
  rintro e w2_ ⟨rfl, hb2_⟩
  replace BW : Hid (Below _ _ _) := bstep BW.out hb2_
  replace M : Hid (MBox _ _ _ _ _ _) := M.out.below hb2_
  replace b_r : Hid (BoxF _ _ _ _ _ _) := b_r.out.below hb2_
  replace b_s : Hid (BoxF _ _ _ _ _ _) := b_s.out.below hb2_
  replace ZB0 : Hid (_ ≤ _) := Nat.le_trans ZB0.out (Below.size hb2_)
  clear hb2_
  obtain ⟨M_0, M_1, M_2, M_3, M_4⟩ := M.out
  go_wp2_with fail
  clear M_0 M_1 M_2 M_3 M_4
  go_loopw [15] (fun i wr => ∃ (n : Nat) (s_n : Bool) (s_a : Option Addr) (s_m s_c : Nat) (s_p : Int), i = .int .i64 (n : Int) ∧ n ≤ R ∧ Hid (MBox wr k_M (R : Int) (C : Int) (S : Int) (.slice a len cap)) ∧ Hid (BoxF wr k_r (.bool false) (.slice none 0 0) (.int .i64 0) (.slice none 0 0)) ∧ Hid (BoxF wr k_s (.bool s_n) (.slice s_a s_m s_c) (.int .i64 s_p) (.slice none 0 0)) ∧ Hid (Tell wr B0 (.agg #[.bool s_n, .slice s_a s_m s_c, .int .i64 s_p, .slice none 0 0]) 34 (34 + (n * C + 0 : Nat)) (sumQ XF (n * C + 0))) ∧ Hid (Below w.heap.size w wr) ∧ Hid (B0 ≤ wr.heap.size)) (fun i _ => R - (intOf i).toNat)
  case atStart => exact ⟨0, false, none, 0, 0, 0, rfl, Nat.zero_le _, M, b_r, b_s, (Tell.zero _ _ _ _ _ (by omega)).eq (by rw [Nat.zero_mul]; rfl), BW, ZB0⟩
  case round =>
    clear M b_r b_s BW ZB0
    obtain ⟨n, s_n, s_a, s_m, s_c, s_p, rfl, hn_, M, b_r, b_s, t_s, BW, ZB0⟩ := hrel
    obtain ⟨w3_, rfl⟩ : ∃ x, x = wr := ⟨wr, rfl⟩
    by_cases hlt : (n : Int) < (R : Int)
    · skip
      obtain ⟨M_0, M_1, M_2, M_3, M_4⟩ := M.out
      go_wp2_with fail
      refine (mRow _ _ _ _ _ _ Z _ _ HH.out (HX.out.below BW.out) (by omega) hlt).mono ?_
      rintro e w4_ ⟨⟨a4, c4, rfl, hu_, hbo_⟩, hb4_⟩
      rw [nat_mul_int, Int.toNat_natCast] at hu_
      rw [nat_mul_int] at hbo_
      rw [Int.toNat_natCast]
      have AS : Hid (Apt (some k_s) a4 C) := fun hp b o s e ec => by
        obtain ⟨b', o', e1, e2⟩ := hbo_ (by omega)
        have hl0 : 0 < len := by have := HH.out.at n 0 (by omega) hlt (by omega) (by omega); omega
        obtain ⟨b2, o2, e6, h6, _⟩ := HX.out.2.2.2 hl0
        rw [e2] at e
        injection e with e
        injection e with e3 e4 e5
        rw [e1] at e6
        injection e6 with e6
        injection e6 with e7
        injection ec with ec
        have := L_s.out
        omega
      clear hbo_
      clear M_0 M_1 M_2 M_3 M_4
      replace BW : Hid (Below _ _ _) := bstep BW.out hb4_
      replace M : Hid (MBox _ _ _ _ _ _) := M.out.below hb4_
      replace b_r : Hid (BoxF _ _ _ _ _ _) := b_r.out.below hb4_
      replace b_s : Hid (BoxF _ _ _ _ _ _) := b_s.out.below hb4_
      replace t_s : Hid (Tell _ _ _ _ _ _) := t_s.out.below hb4_
      replace ZB0 : Hid (_ ≤ _) := Nat.le_trans ZB0.out (Below.size hb4_)
      clear hb4_
      have UR : Hid (URow w4_ a4 C c4 (fun k => Z (n * S + k))) := hu_
      clear hu_
      go_wp2_with fail
      have hC4 := (UR.out).lenB
      go_loopw [22] (fun i wr => ∃ (m : Nat) (s_n : Bool) (s_a : Option Addr) (s_m s_c : Nat) (s_p : Int), i = .int .i64 (m : Int) ∧ m ≤ C ∧ Hid (MBox wr k_M (R : Int) (C : Int) (S : Int) (.slice a len cap)) ∧ Hid (BoxF wr k_r (.bool false) (.slice none 0 0) (.int .i64 0) (.slice none 0 0)) ∧ Hid (BoxF wr k_s (.bool s_n) (.slice s_a s_m s_c) (.int .i64 s_p) (.slice none 0 0)) ∧ Hid (Tell wr B0 (.agg #[.bool s_n, .slice s_a s_m s_c, .int .i64 s_p, .slice none 0 0]) 34 (34 + (n * C + m : Nat)) (sumQ XF (n * C + m))) ∧ Hid (Below w.heap.size w wr) ∧ Hid (B0 ≤ wr.heap.size) ∧ Hid (URow wr a4 C c4 (fun k => Z (n * S + k)))) (fun i _ => C - (intOf i).toNat)
      case atStart => exact ⟨0, _, _, _, _, _, rfl, Nat.zero_le _, M, b_r, b_s, t_s, BW, ZB0, UR⟩
      case round =>
        clear M b_r b_s t_s BW ZB0 UR
        obtain ⟨m, s_n, s_a, s_m, s_c, s_p, rfl, hm_, M, b_r, b_s, t_s, BW, ZB0, UR⟩ := hrel
        obtain ⟨w5_, rfl⟩ : ∃ x, x = wr := ⟨wr, rfl⟩
        by_cases hlt2 : (m : Int) < (C : Int)
        · skip
          obtain ⟨_, _, zx, fx⟩ := UR.out
          obtain ⟨b1, o1, e_1, l_q1, e1⟩ := fx (by omega)
          have q1 := e1 m (by omega)
          obtain ⟨x0, x1⟩ := zx m
          clear zx fx e1
          have FXm := FX.out n m (by omega)
          simp only at q1 x0 x1
          obtain ⟨x, hxx⟩ : ∃ x, Z (n * S + m) = x := ⟨_, rfl⟩
          rw [hxx] at q1 x0 x1 FXm
          have HXX : Hid (XF (n * C + m) = x) := FXm
          clear hxx FXm
          subst e_1
          obtain ⟨NC, hNC⟩ : ∃ N : Nat, n * C + m = N := ⟨_, rfl⟩
          have hN1 : NC + 1 ≤ R * C := by rw [← hNC]; exact row_lt C n m R (by omega) (by omega)
          rw [hNC] at t_s HXX
          have HNC : Hid (n * C + m = NC) := hNC
          clear hNC
          go_wp2_with fail
          refine (dOf x _ x0 x1).mono ?_
          rintro e w6_ ⟨d_v, rfl, ht_, hb_⟩
          obtain ⟨d_n, d_a, d_m, d_c, d_p, rfl, ht2_⟩ := ht_.numform
          replace ht2_ := ht2_.base (b' := B0) ZB0.out
          clear ht_
          replace BW : Hid (Below _ _ _) := bstep BW.out hb_
          replace M : Hid (MBox _ _ _ _ _ _) := M.out.below hb_
          replace b_r : Hid (BoxF _ _ _ _ _ _) := b_r.out.below hb_
          replace b_s : Hid (BoxF _ _ _ _ _ _) := b_s.out.below hb_
          replace t_s : Hid (Tell _ _ _ _ _ _) := t_s.out.below hb_
          replace ZB0 : Hid (_ ≤ _) := Nat.le_trans ZB0.out (Below.size hb_)
          replace UR : Hid (URow _ _ _ _ _) := UR.out.below hb_
          clear hb_
          go_upto_region 11 with fail
          have mB_ := BoxF.made w6_ (.bool d_n) (.slice d_a d_m d_c) (.int .i64 d_p) (.slice none 0 0) 44
          have tB_ := ht2_.alloc (.cells #[.bool d_n, .slice d_a d_m d_c, .int .i64 d_p, .slice none 0 0] 44)
          have b_ := bmore (Below.refl w6_.heap.size w6_) (.cells #[.bool d_n, .slice d_a d_m d_c, .int .i64 d_p, .slice none 0 0] 44)
          clear ht2_
          generalize (w6_.alloc (.cells #[.bool d_n, .slice d_a d_m d_c, .int .i64 d_p, .slice none 0 0] 44)) = w7_ at mB_ b_ tB_ ⊢
          obtain ⟨k_d, hk_d⟩ : ∃ k, k = w6_.heap.size := ⟨_, rfl⟩
          have N_sd : Hid (k_s ≠ k_d) := by have := b_s.out.2.2; show _ ≠ _; omega
          rw [← hk_d] at mB_ ⊢
          replace BW : Hid (Below _ _ _) := bstep BW.out b_
          replace M : Hid (MBox _ _ _ _ _ _) := M.out.below b_
          replace b_r : Hid (BoxF _ _ _ _ _ _) := b_r.out.below b_
          replace b_s : Hid (BoxF _ _ _ _ _ _) := b_s.out.below b_
          replace t_s : Hid (Tell _ _ _ _ _ _) := t_s.out.below b_
          replace ZB0 : Hid (_ ≤ _) := Nat.le_trans ZB0.out (Below.size b_)
          replace UR : Hid (URow _ _ _ _ _) := UR.out.below b_
          have b_d : Hid (BoxF w7_ k_d (.bool d_n) (.slice d_a d_m d_c) (.int .i64 d_p) (.slice none 0 0)) := mB_
          have t_d : Hid (Tell w7_ B0 (.agg #[.bool d_n, .slice d_a d_m d_c, .int .i64 d_p, .slice none 0 0]) 17 17 (xv x)) := tB_
          clear mB_ b_ tB_ hk_d
          clear q1 l_q1
          have N_sr : Hid (k_s ≠ k_r) := Ne.symm N_rs.out
          obtain ⟨⟨b_s_0, b_s_1, b_s_2, b_s_3⟩, ⟨b_s_5, b_s_6, b_s_7, b_s_8⟩, b_s_4⟩ := b_s.out
          obtain ⟨⟨b_d_0, b_d_1, b_d_2, b_d_3⟩, ⟨b_d_5, b_d_6, b_d_7, b_d_8⟩, b_d_4⟩ := b_d.out
          go_wp2_with fail
          clear b_s_0 b_s_1 b_s_2 b_s_3 b_s_4 b_s_5 b_s_6 b_s_7 b_s_8 b_d_0 b_d_1 b_d_2 b_d_3 b_d_4 b_d_5 b_d_6 b_d_7 b_d_8
          have HBa : Hid (Below w7_.heap.size w7_ w7_.drew) := (Below.refl _ _).drew
          have hfz_ := fun (w' : World) (h : Below w7_.heap.size w7_ w') => b_s.out.below h
          refine wp_region_noPanic ?_
          refine AnyT.start (T := (fun w' => (w'.cell? ⟨k_s, 0, none⟩ = some (.bool s_n) ∧ w'.cell? ⟨k_s, 1, none⟩ = some (.slice s_a s_m s_c) ∧ w'.cell? ⟨k_s, 2, none⟩ = some (.int .i64 s_p) ∧ w'.cell? ⟨k_s, 3, none⟩ = some (.slice none 0 0)) ∧ (w'.cell? ⟨k_d, 0, none⟩ = some (.bool d_n) ∧ w'.cell? ⟨k_d, 1, none⟩ = some (.slice d_a d_m d_c) ∧ w'.cell? ⟨k_d, 2, none⟩ = some (.int .i64 d_p) ∧ w'.cell? ⟨k_d, 3, none⟩ = some (.slice none 0 0)))) (z := 5) (by kernel_rfl) ?_
          have hHeld0 := (⟨b_s.out.drew.cells, b_d.out.drew.cells⟩ : (fun w' => (w'.cell? ⟨k_s, 0, none⟩ = some (.bool s_n) ∧ w'.cell? ⟨k_s, 1, none⟩ = some (.slice s_a s_m s_c) ∧ w'.cell? ⟨k_s, 2, none⟩ = some (.int .i64 s_p) ∧ w'.cell? ⟨k_s, 3, none⟩ = some (.slice none 0 0)) ∧ (w'.cell? ⟨k_d, 0, none⟩ = some (.bool d_n) ∧ w'.cell? ⟨k_d, 1, none⟩ = some (.slice d_a d_m d_c) ∧ w'.cell? ⟨k_d, 2, none⟩ = some (.int .i64 d_p) ∧ w'.cell? ⟨k_d, 3, none⟩ = some (.slice none 0 0))) w7_.drew)
          refine AnyT.take (i := 0) (oi := ({ dst := some 31, op := Op.load _ (Operand.tmp 3), type := _, pos := _, after := _, guard := none } : Oper)) (v := ?_) rfl (by kernel_rfl) (by kernel_rfl) (by kernel_rfl) (by kernel_rfl) (fun _ _ _ h => h) (Or.inl ⟨by rfl, ?_⟩) hHeld0 ?_
          rotate_left
          · intro w' hSw; (try dsimp only at hSw); go_simp <;> (try with_reducible rfl)
          (try simp only [Act.put, List.setIfInBounds_toArray, List.set_cons_zero, List.set_cons_succ])
          refine AnyT.take (i := 1) (oi := ({ dst := some 32, op := Op.load _ (Operand.tmp 7), type := _, pos := _, after := _, guard := none } : Oper)) (v := ?_) rfl (by kernel_rfl) (by kernel_rfl) (by kernel_rfl) (by kernel_rfl) (fun _ _ _ h => h) (Or.inl ⟨by rfl, ?_⟩) hHeld0 ?_
          rotate_left
          · intro w' hSw; (try dsimp only at hSw); go_simp <;> (try with_reducible rfl)
          (try simp only [Act.put, List.setIfInBounds_toArray, List.set_cons_zero, List.set_cons_succ])
          refine AnyT.take (i := 2) (oi := ({ dst := some 33, op := Op.load _ (Operand.tmp 7), type := _, pos := _, after := _, guard := none } : Oper)) (v := ?_) rfl (by kernel_rfl) (by kernel_rfl) (by kernel_rfl) (by kernel_rfl) (fun _ _ _ h => h) (Or.inl ⟨by rfl, ?_⟩) hHeld0 ?_
          rotate_left
          · intro w' hSw; (try dsimp only at hSw); go_simp <;> (try with_reducible rfl)
          (try simp only [Act.put, List.setIfInBounds_toArray, List.set_cons_zero, List.set_cons_succ])
          refine AnyT.one (i := 3) (o := ({ dst := some 34, op := Op.call { callee := Callee.value (Operand.func _), args := #[Operand.tmp 32, Operand.tmp 33], argTypes := _ }, type := _, pos := _, after := _, guard := none } : Oper)) (by kernel_rfl) rfl (fun K hK => ?_)
          go_simp
          refine (dMul _ _ _ B0 17 17 17 17 _ _ (t_d.out.below HBa.out) (t_d.out.below HBa.out) (by omega) (by omega) (by omega) (by omega) (by omega) (by omega)).mono ?_
          rintro e Wq0_ ⟨r1x0_v, rfl, ht_, hb_⟩
          obtain ⟨r1x0_n, r1x0_a, r1x0_m, r1x0_c, r1x0_p, rfl, ht2_⟩ := ht_.numform
          clear ht_
          have t_r1x0 : Hid (Tell Wq0_ B0 (.agg #[.bool r1x0_n, .slice r1x0_a r1x0_m r1x0_c, .int .i64 r1x0_p, .slice none 0 0]) 34 34 (xv x * xv x)) := ht2_.base (by have := ZB0.out; have := Below.size HBa.out; show B0 ≤ _; omega)
          clear ht2_
          replace HBa : Hid (Below w7_.heap.size w7_ Wq0_) := bstep HBa.out hb_
          clear hb_
          (try go_wp2_with fail)
          refine hK.out _ _ (fun _ => ⟨(b_s.out.below HBa.out).cells, (b_d.out.below HBa.out).cells⟩) (fun hHeld1 => ?_)
          replace hHeld0 := hHeld1 (by decide)
          clear hK K hHeld1
          (try simp only [Act.put, List.setIfInBounds_toArray, List.set_cons_zero, List.set_cons_succ])
          refine AnyT.one (i := 4) (o := ({ dst := some 35, op := Op.call { callee := Callee.value (Operand.func _), args := #[Operand.tmp 31, Operand.tmp 34], argTypes := _ }, type := _, pos := _, after := _, guard := none } : Oper)) (by kernel_rfl) rfl (fun K hK => ?_)
          go_simp
          refine (dAdd _ _ _ B0 34 (34 + (NC : Int)) _ _ (t_s.out.below HBa.out) ((t_r1x0.out).wide (34 + (NC : Int)) (by omega)) (by omega) (by omega) (by omega)).mono ?_
          rintro e Wq1_ ⟨r1x1_v, rfl, ht_, hb_⟩
          obtain ⟨r1x1_n, r1x1_a, r1x1_m, r1x1_c, r1x1_p, rfl, ht2_⟩ := ht_.numform
          clear ht_
          have t_r1x1 : Hid (Tell Wq1_ B0 (.agg #[.bool r1x1_n, .slice r1x1_a r1x1_m r1x1_c, .int .i64 r1x1_p, .slice none 0 0]) 34 (34 + (NC : Int) + 1) (sumQ XF NC + xv x * xv x)) := ht2_.base (by have := ZB0.out; have := Below.size HBa.out; show B0 ≤ _; omega)
          clear ht2_
          replace t_r1x0 : Hid (Tell _ _ _ _ _ _) := t_r1x0.out.below hb_
          replace HBa : Hid (Below w7_.heap.size w7_ Wq1_) := bstep HBa.out hb_
          clear hb_
          (try go_wp2_with fail)
          refine hK.out _ _ (fun _ => ⟨(b_s.out.below HBa.out).cells, (b_d.out.below HBa.out).cells⟩) (fun hHeld1 => ?_)
          replace hHeld0 := hHeld1 (by decide)
          clear hK K hHeld1
          (try simp only [Act.put, List.setIfInBounds_toArray, List.set_cons_zero, List.set_cons_succ])
          refine AnyT.one (i := 5) (o := ({ dst := none, op := Op.store _ (Operand.tmp 3) (Operand.tmp 35), type := _, pos := _, after := _, guard := none } : Oper)) (by kernel_rfl) rfl (fun K hK => ?_)
          clear hHeld0
          obtain ⟨⟨z0_, z1_, z2_, z3_⟩, ⟨z5_, z6_, z7_, z8_⟩, z4_⟩ := hfz_ _ HBa.out
          go_simp
          refine hK.out _ _ (fun h => absurd rfl h) (fun _ => ?_)
          clear hK K
          (try simp only [Act.put, List.setIfInBounds_toArray, List.set_cons_zero, List.set_cons_succ])
          refine AnyT.done (by kernel_rfl) ?_
          refine NoPanic.normal ?_
          have bs_ := bes_puts Wq1_ k_s (.bool r1x1_n) (.slice r1x1_a r1x1_m r1x1_c) (.int .i64 r1x1_p) (.slice none 0 0)
          have mB_ := (b_s.out.below HBa.out).put (.bool r1x1_n) (.slice r1x1_a r1x1_m r1x1_c) (.int .i64 r1x1_p) (.slice none 0 0)
          have tB_ := t_r1x1.out.put (b := k_s) KB_s.out (.bool r1x1_n) (.slice r1x1_a r1x1_m r1x1_c) (.int .i64 r1x1_p) (.slice none 0 0)
          clear z0_ z1_ z2_ z3_ z4_ z5_ z6_ z7_ z8_ hfz_
          replace BW : Hid (Below _ _ _) := bstep BW.out HBa.out
          replace M : Hid (MBox _ _ _ _ _ _) := M.out.below HBa.out
          replace b_r : Hid (BoxF _ _ _ _ _ _) := b_r.out.below HBa.out
          replace b_s : Hid (BoxF _ _ _ _ _ _) := b_s.out.below HBa.out
          replace t_s : Hid (Tell _ _ _ _ _ _) := t_s.out.below HBa.out
          replace ZB0 : Hid (_ ≤ _) := Nat.le_trans ZB0.out (Below.size HBa.out)
          replace UR : Hid (URow _ _ _ _ _) := UR.out.below HBa.out
          replace b_d : Hid (BoxF _ _ _ _ _ _) := b_d.out.below HBa.out
          replace t_d : Hid (Tell _ _ _ _ _ _) := t_d.out.below HBa.out
          replace BW : Hid (Below _ _ _) := Bes.old BW.out bs_ L_s.out
          replace M : Hid (MBox _ _ _ _ _ _) := M.out.bes bs_ (ne_some K_sM.out)
          replace b_r : Hid (BoxF _ _ _ _ _ _) := b_r.out.puts N_sr.out (.bool r1x1_n) (.slice r1x1_a r1x1_m r1x1_c) (.int .i64 r1x1_p) (.slice none 0 0)
          replace ZB0 : Hid (_ ≤ _) := Nat.le_trans ZB0.out (Bes.size bs_)
          replace UR : Hid (URow _ _ _ _ _) := UR.out.puts AS.out (.bool r1x1_n) (.slice r1x1_a r1x1_m r1x1_c) (.int .i64 r1x1_p) (.slice none 0 0)
          replace b_d : Hid (BoxF _ _ _ _ _ _) := b_d.out.puts N_sd.out (.bool r1x1_n) (.slice r1x1_a r1x1_m r1x1_c) (.int .i64 r1x1_p) (.slice none 0 0)
          replace t_d : Hid (Tell _ _ _ _ _ _) := t_d.out.put (b := k_s) KB_s.out (.bool r1x1_n) (.slice r1x1_a r1x1_m r1x1_c) (.int .i64 r1x1_p) (.slice none 0 0)
          replace b_s : Hid (BoxF _ _ _ _ _ _) := mB_
          replace t_s : Hid (Tell _ B0 (.agg #[.bool r1x1_n, .slice r1x1_a r1x1_m r1x1_c, .int .i64 r1x1_p, .slice none 0 0]) 34 (34 + (NC : Int) + 1) (sumQ XF NC + xv x * xv x)) := tB_
          clear mB_ tB_ bs_ HBa t_r1x0 t_r1x1
          generalize ((((Wq1_.setCell ⟨k_s, 0, none⟩ (.bool r1x1_n)).setCell ⟨k_s, 1, none⟩ (.slice r1x1_a r1x1_m r1x1_c)).setCell ⟨k_s, 2, none⟩ (.int .i64 r1x1_p)).setCell ⟨k_s, 3, none⟩ (.slice none 0 0)) = w8_ at BW M b_r b_s t_s ZB0 UR b_d t_d ⊢
          have ES : sumQ XF NC + xv x * xv x = sumQ XF (n * C + (m + 1)) := by
            rw [← Nat.add_assoc, HNC.out]
            show _ = sumQ XF NC + xv (XF NC) * xv (XF NC)
            rw [HXX.out]
          have TS : Hid (Tell _ _ _ 34 (34 + ((n * C + (m + 1) : Nat) : Int)) (sumQ XF (n * C + (m + 1)))) := (t_s.out.wide _ (by have := HNC.out; omega)).eq ES
          clear ES t_s t_d b_d
          go_wp2
          go_roundw
          case rel => exact ⟨m + 1, _, _, _, _, _, by go_num, by omega, M, b_r, b_s, TS, BW, ZB0, UR⟩
          case measure => simp [intOf]; omega
        · obtain rfl : C = m := by omega
          rw [row_up] at t_s
          go_wp2
          go_roundw
          case rel => exact ⟨n + 1, _, _, _, _, _, by go_num, by omega, M, b_r, b_s, t_s, BW, ZB0⟩
          case measure => simp [intOf]; omega
    · obtain rfl : R = n := by omega
      obtain ⟨⟨y0, y1, y2, y3⟩, ⟨y5, y6, y7, y8⟩, y4⟩ := b_r.out
      obtain ⟨⟨z0, z1, z2, z3⟩, _, _⟩ := b_s.out
      have N_sr : ¬ k_s = k_r := Ne.symm N_rs.out
      go_wp2
      refine bodyPost_ret (v := .agg #[.bool s_n, .slice s_a s_m s_c, .int .i64 s_p, .slice none 0 0]) (by simp [results, Try.results28, go_sem, *]) rfl ?_
      have hb := bes_puts w3_ k_r (.bool s_n) (.slice s_a s_m s_c) (.int .i64 s_p) (.slice none 0 0)
      have hk := HKM.out
      subst hk
      exact ⟨_, rfl, (t_s.out.put KB_r.out (.bool s_n) (.slice s_a s_m s_c) (.int .i64 s_p) (.slice none 0 0)).base LB0.out, Bes.old BW.out hb L_r.out⟩
end Go.Proofs.Ytokgfeeaoioegaa

/-
  What mat's One returns. Conditions: at most 64 rows.
-/
namespace Go.Proofs.Ytokgfeeaoioegaa
open Go.RowKit
set_option linter.unusedVariables false
set_option linter.unusedSimpArgs false

theorem bes_four (w : World) (g : Nat) (u0 u1 u2 u3 : Value) : Bes (some g) w ((((w.setCell ⟨g, 0, none⟩ u0).setCell ⟨g, 1, none⟩ u1).setCell ⟨g, 2, none⟩ u2).setCell ⟨g, 3, none⟩ u3) :=
  ((((Bes.refl (some g) w).set (p := ⟨g, 0, none⟩) (.inr rfl) u0).set (p := ⟨g, 1, none⟩) (.inr rfl) u1).set (p := ⟨g, 2, none⟩) (.inr rfl) u2).set (p := ⟨g, 3, none⟩) (.inr rfl) u3
/-- The first j rows are the identity's; the others are zeros. -/
def OneI (xs : List Int) (n j : Nat) : Prop := xs.length = n * n ∧ InW xs ∧ ∀ i k, i < n → k < n → xs[i * n + k]?.getD 0 = if i = k ∧ i < j then 4607182418800017408 else 0
theorem OneI.zero (n : Nat) : OneI (List.replicate (n * n) 0) n 0 := by
  refine ⟨List.length_replicate, InW.zeros _, fun i k hi hk => ?_⟩
  rw [if_neg (by omega), List.getElem?_replicate]
  split <;> rfl
theorem diag_ne (n i k j : Nat) (hi : i < n) (hk : k < n) (hj : j < n) (h : ¬ (i = j ∧ k = j)) : i * n + k ≠ j * n + j := by
  rcases Nat.lt_trichotomy i j with g | g | g
  · have := Nat.mul_le_mul_right n (show i + 1 ≤ j from g)
    rw [Nat.succ_mul] at this
    omega
  · subst g
    omega
  · have := Nat.mul_le_mul_right n (show j + 1 ≤ i from g)
    rw [Nat.succ_mul] at this
    omega
theorem OneI.step {xs : List Int} {n j : Nat} (h : OneI xs n j) (hj : j < n) : OneI (xs.set (j * n + j) 4607182418800017408) n (j + 1) := by
  obtain ⟨h1, h2, h3⟩ := h
  refine ⟨by rw [List.length_set]; exact h1, h2.set _ _ (by decide) (by decide), fun i k hi hk => ?_⟩
  rw [List.getElem?_set]
  by_cases e : i = j ∧ k = j
  · obtain ⟨rfl, rfl⟩ := e
    rw [if_pos rfl, if_pos (by rw [h1]; have := Nat.mul_le_mul_right n (show k + 1 ≤ n from hk); rw [Nat.succ_mul] at this; omega), if_pos ⟨rfl, by omega⟩]
    rfl
  · rw [if_neg (Ne.symm (diag_ne n i k j hi hk hj e)), h3 i k hi hk]
    by_cases g : i = k ∧ i < j
    · rw [if_pos g, if_pos ⟨g.1, by omega⟩]
    · rw [if_neg g, if_neg (by omega)]
set_option maxHeartbeats 4000000 in
set_option maxRecDepth 100000 in
theorem mOne (n : Nat) (w : World) (hn : n ≤ 64) :
    Calls Try.prog 25 #[.int .i64 (n : Int)] w fun e w' => ∃ g xs, e = .returned (.agg #[.int .i64 (n : Int), .int .i64 (n : Int), .int .i64 (n : Int), .slice (some ⟨g, 0, none⟩) (n * n) (n * n)]) ∧ w.heap.size ≤ g ∧ RowU w' g xs ∧ OneI xs n n ∧ Below w.heap.size w w' := by
  have hnn : n * n ≤ 4096 := Nat.mul_le_mul hn hn
  obtain ⟨N, hN⟩ : ∃ N, n * n = N := ⟨_, rfl⟩
  rw [hN] at hnn ⊢
  have HN : Hid (n * n = N) := hN
  clear hN
  go_enter Try.func25, Try.ntmps25
  go_wp2_with fail
  have bW : Below w.heap.size w (w.alloc (.cells #[.int .i64 0, .int .i64 0, .int .i64 0, .slice none 0 0] 25)) := bmore (Below.refl _ _) _
  have wW := WBox.made w 0 0 0 (.slice none 0 0)
  have lW : w.heap.size < (w.alloc (.cells #[.int .i64 0, .int .i64 0, .int .i64 0, .slice none 0 0] 25)).heap.size := by simp
  generalize (w.alloc (.cells #[.int .i64 0, .int .i64 0, .int .i64 0, .slice none 0 0] 25)) = W at bW wW lW ⊢
  refine (mNew n n _ (by omega) (by omega) (by rw [HN.out]; omega)).mono ?_
  rintro e w1 ⟨rfl, _, hrow, hb1⟩
  rw [HN.out] at hrow ⊢
  obtain ⟨g, hg⟩ : ∃ g, g = W.heap.size + 1 := ⟨_, rfl⟩
  rw [← hg] at hrow ⊢
  have DW : Hid (w.heap.size < g) := by show _ < _; omega
  have W1 : Hid (WBox w1 w.heap.size 0 0 0 (.slice none 0 0)) := wW.below hb1
  have B1 : Hid (Below w.heap.size w w1) := bstep bW hb1
  have R1 : Hid (RowU w1 g (List.replicate N 0)) := hrow
  have lg := hrow.lt
  clear hb1 hrow hg bW wW lW
  go_wp2_with fail
  have mV := MBox.made w1 (n : Int) (n : Int) (n : Int) (.slice (some ⟨g, 0, none⟩) N N)
  have bV : Below w1.heap.size w1 (w1.alloc (.cells #[.int .i64 (n : Int), .int .i64 (n : Int), .int .i64 (n : Int), .slice (some ⟨g, 0, none⟩) N N] 25)) := bmore (Below.refl _ _) _
  obtain ⟨b, hb⟩ : ∃ b, b = w1.heap.size := ⟨_, rfl⟩
  rw [← hb] at mV ⊢
  have DB : Hid (g ≠ b) := by show _ ≠ _; omega
  generalize (w1.alloc (.cells #[.int .i64 (n : Int), .int .i64 (n : Int), .int .i64 (n : Int), .slice (some ⟨g, 0, none⟩) N N] 25)) = V at mV bV ⊢
  have MV : Hid (MBox V b (n : Int) (n : Int) (n : Int) (.slice (some ⟨g, 0, none⟩) N N)) := mV
  have WV : Hid (WBox V w.heap.size 0 0 0 (.slice none 0 0)) := W1.out.below bV
  have RV : Hid (RowU V g (List.replicate N 0)) := R1.out.below bV
  have BV : Hid (Below w.heap.size w V) := bstep B1.out bV
  have IV : Hid (OneI (List.replicate N 0) n 0) := by rw [← HN.out]; exact OneI.zero n
  have HT : Hid (Rgt (n : Int) (n : Int) (n : Int) N) := by rw [← HN.out]; exact tight n n (by omega) (by omega)
  clear mV bV W1 R1 B1 lg hb
  go_loopw [10] (fun i wr => ∃ (j : Nat) (xs : List Int), i = .int .i64 (j : Int) ∧ j ≤ n ∧ Hid (MBox wr b (n : Int) (n : Int) (n : Int) (.slice (some ⟨g, 0, none⟩) N N)) ∧ Hid (WBox wr w.heap.size 0 0 0 (.slice none 0 0)) ∧ Hid (RowU wr g xs) ∧ Hid (OneI xs n j) ∧ Hid (Below w.heap.size w wr)) (fun i _ => n - (intOf i).toNat)
  case atStart => exact ⟨0, _, rfl, Nat.zero_le _, MV, WV, RV, IV, BV⟩
  case round =>
    clear MV WV RV IV BV
    obtain ⟨j, xs, rfl, hj, M, A, R, I, B⟩ := hrel
    obtain ⟨p0, p1, p2, p3, p4⟩ := M.out
    by_cases hlt : (j : Int) < (n : Int)
    · have I2 := I.out.step (show j < n by omega)
      go_wp2_with fail
      refine (mSet (n : Int) (n : Int) (n : Int) g N N xs (j : Int) (j : Int) 4607182418800017408 _ HT.out R.out (by rw [I.out.1]; exact HN.out) (Nat.le_refl _) (by omega) ⟨by omega, by omega, by omega, by omega⟩).mono ?_
      rintro e w4 ⟨rfl, hR4, hB4⟩
      rw [show ((j : Int) * (n : Int) + (j : Int)).toNat = j * n + j by rw [← Int.natCast_mul]; omega] at hR4
      have M4 : Hid (MBox w4 _ _ _ _ _) := M.out.bes hB4 (ne_some DB.out)
      have A4 : Hid (WBox w4 _ _ _ _ _) := A.out.bes hB4 (ne_some (by have := DW.out; omega))
      have R4 : Hid (RowU w4 g _) := hR4
      have I4 : Hid (OneI _ n (j + 1)) := I2
      have B4 : Hid (Below w.heap.size w w4) := Bes.old B.out hB4 (Nat.le_of_lt DW.out)
      clear hR4 hB4 I2 p0 p1 p2 p3 p4
      go_wp2
      go_roundw
      case rel => exact ⟨j + 1, _, by go_num, by omega, M4, A4, R4, I4, B4⟩
      case measure => simp [intOf]; omega
    · obtain rfl : n = j := by omega
      obtain ⟨⟨v0, v1, v2, v3, v4⟩, v5⟩ := A.out
      have y0 := v5 0
      have y1 := v5 1
      have y2 := v5 2
      have y3 := v5 3
      clear v5
      go_wp2
      refine bodyPost_ret (v := .agg #[.int .i64 (n : Int), .int .i64 (n : Int), .int .i64 (n : Int), .slice (some ⟨g, 0, none⟩) N N]) (by simp [results, Try.results25, go_sem, *]) rfl ?_
      have hb := bes_four wr w.heap.size (.int .i64 (n : Int)) (.int .i64 (n : Int)) (.int .i64 (n : Int)) (.slice (some ⟨g, 0, none⟩) N N)
      have hd := DW.out
      refine ⟨g, rfl, by omega, xs, R.out.bes hb (ne_some (by omega)), I.out, Bes.old B.out hb (Nat.le_refl _)⟩
end Go.Proofs.Ytokgfeeaoioegaa

/-
  Sums of squares of the identity, and of zeros; Finite of what is finite. No conditions.
-/
namespace Go.Proofs.Ytokgfeeaoioegaa
open Go.RowKit
set_option linter.unusedVariables false

theorem mFinOk (R C S : Nat) (a : Option Addr) (len cap : Nat) (Z : Nat → Int) (w : World) (h : Rgt (R : Int) (C : Int) (S : Int) len) (hx : URow w a len cap Z) (hf : AllF Z R C S) :
    Calls Try.prog 26 #[.agg #[.int .i64 (R : Int), .int .i64 (C : Int), .int .i64 (S : Int), .slice a len cap]] w fun e w' => e = .returned (.bool true) ∧ Below w.heap.size w w' := by
  refine (mFin R C S a len cap Z w h hx).mono ?_
  rintro e w' ⟨⟨rfl, _⟩ | ⟨_, hN⟩, hb⟩
  · exact ⟨rfl, hb⟩
  · exact absurd hf hN
theorem sumQ_zero (X : Nat → Int) (n : Nat) (h : ∀ i, i < n → X i = 0) : sumQ X n = 0 := by
  induction n with
  | zero => rfl
  | succ n ih =>
    show sumQ X n + xv (X n) * xv (X n) = 0
    rw [ih (fun i hi => h i (by omega)), h n (by omega)]
    rfl
theorem sumQ_row (X : Nat → Int) (C n m : Nat) (q : Int) (hm : m ≤ C) (h : ∀ k, k < C → xv (X (n * C + k)) * xv (X (n * C + k)) = if n = k then q else 0) : sumQ X (n * C + m) = sumQ X (n * C) + if n < m then q else 0 := by
  induction m with
  | zero => rw [if_neg (by omega)]; simp
  | succ m ih =>
    show sumQ X (n * C + m) + xv (X (n * C + m)) * xv (X (n * C + m)) = _
    rw [ih (by omega), h m (by omega)]
    by_cases e : n = m
    · rw [if_pos e, if_neg (by omega), if_pos (by omega)]
      omega
    · rw [if_neg e]
      by_cases g : n < m
      · rw [if_pos g, if_pos (by omega)]
        omega
      · rw [if_neg g, if_neg (by omega)]
        omega
theorem sumQ_one (X : Nat → Int) (C n : Nat) (q : Int) (hn : n ≤ C) (h : ∀ i k, i < n → k < C → xv (X (i * C + k)) * xv (X (i * C + k)) = if i = k then q else 0) : sumQ X (n * C) = (n : Int) * q := by
  induction n with
  | zero => rw [Nat.zero_mul]; simp [sumQ]
  | succ n ih =>
    rw [Nat.succ_mul, sumQ_row X C n C q (Nat.le_refl _) (fun k hk => h n k (by omega) hk), ih (by omega) (fun i k hi hk => h i k (by omega) hk), if_pos (by omega)]
    grind
theorem xv_one1 : xv 4607182418800017408 * xv 4607182418800017408 = pw 34 := by decide +kernel
theorem xv_nil : xv 0 * xv 0 = 0 := by decide +kernel
end Go.Proofs.Ytokgfeeaoioegaa
