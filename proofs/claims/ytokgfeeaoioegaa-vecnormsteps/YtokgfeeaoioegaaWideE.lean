/-
  What wide's Sqrt returns: the greatest whole number whose square is at most the number, and whether it is its square. All numbers below 2^128.
-/
import Derived.Test.YtokgfeeaoioegaaWideD
namespace Go.Proofs.Ytokgfeeaoioegaa
open Go.RowKit
set_option linter.unusedVariables false

/-- What holds while the bits below place k are still to be tried. -/
structure Root (A k r : Nat) : Prop where
  low : r % 2 ^ k = 0
  fits : r + 2 ^ k ≤ 2 ^ 64
  le : r * r ≤ A
  lt : A < (r + 2 ^ k) * (r + 2 ^ k)
theorem Root.start (A : Nat) (h : A < 2 ^ 128) : Root A (((bl A).length + 1) / 2) 0 := by
  have h1 := (bl_length_le A (bl A).length).1 (Nat.le_refl _)
  have h2 := (bl_length_le A 128).2 h
  refine ⟨Nat.zero_mod _, ?_, Nat.zero_le _, ?_⟩
  · rw [Nat.zero_add]; exact Nat.pow_le_pow_right (by decide) (by omega)
  · rw [Nat.zero_add, ← Nat.pow_add]
    exact Nat.lt_of_lt_of_le h1 (Nat.pow_le_pow_right (by decide) (by omega))
theorem Root.mod {A j r : Nat} (h : Root A (j + 1) r) : r % 2 ^ j = 0 := by
  have := h.low
  rw [Nat.pow_succ] at this
  have e : r % 2 ^ j = r % (2 ^ j * 2) % 2 ^ j := by rw [Nat.mod_mul_right_mod]
  rw [e, this, Nat.zero_mod]
theorem Root.yes {A j r : Nat} (h : Root A (j + 1) r) (g : (r + 2 ^ j) * (r + 2 ^ j) ≤ A) : Root A j (r + 2 ^ j) := by
  have hm := h.mod
  have hf := h.fits
  have hl := h.lt
  have e : r + 2 ^ (j + 1) = r + 2 ^ j + 2 ^ j := by rw [Nat.pow_succ]; omega
  rw [e] at hf hl
  refine ⟨?_, hf, g, hl⟩
  rw [Nat.add_mod_right, hm]
theorem Root.no {A j r : Nat} (h : Root A (j + 1) r) (g : A < (r + 2 ^ j) * (r + 2 ^ j)) : Root A j r := by
  have hm := h.mod
  have hf := h.fits
  refine ⟨hm, ?_, h.le, g⟩
  rw [Nat.pow_succ] at hf
  have := Nat.two_pow_pos j
  omega
theorem try_or (r : Int) (j : Nat) (A : Nat) (h0 : 0 ≤ r) (h : Root A (j + 1) r.toNat) (hj : j < 64) : bits .or .u64 r (IntKind.u64.wrap (2 ^ j)) = ((r.toNat + 2 ^ j : Nat) : Int) := by
  obtain ⟨R, rfl⟩ := Int.eq_ofNat_of_zero_le h0
  rw [Int.toNat_natCast] at h ⊢
  have hf := h.fits
  have hp := Nat.two_pow_pos (j + 1)
  have e1 : (2 : Int) ^ j = ((2 ^ j : Nat) : Int) := by push_cast; rfl
  have hlt : (2 : Nat) ^ j < 2 ^ 64 := Nat.pow_lt_pow_right (by decide) hj
  rw [e1, wrap_nat, Nat.mod_eq_of_lt (by omega)]
  exact or_nat R (2 ^ j) (j + 1) (by omega) (by omega) h.low (Nat.pow_lt_pow_right (by decide) (by omega))

set_option maxHeartbeats 1000000 in
theorem wSqrt (ah al : Int) (w : World) (a0 : 0 ≤ ah) (a1 : ah < 18446744073709551616) (a2 : 0 ≤ al) (a3 : al < 18446744073709551616) :
    Calls Try.prog 115 #[.agg #[.int .u64 ah, .int .u64 al]] w fun e w' => ∃ r : Int, e = .returned (.tuple #[.int .u64 r, .bool (decide (r.toNat * r.toNat = wid ah al))]) ∧ 0 ≤ r ∧ r < 18446744073709551616 ∧ r.toNat * r.toNat ≤ wid ah al ∧ wid ah al < (r.toNat + 1) * (r.toNat + 1) ∧ Below w.heap.size w w' := by
  have hA := wid_lt ah al a0 a1 a2 a3
  have hst := Root.start _ hA
  have hl := (bl_length_le (wid ah al) 128).2 hA
  go_enter Try.func115, Try.ntmps115
  go_wp2_with fail
  refine (wLen _ _ _ a0 a1 a2 a3).mono ?_
  rintro e w1 ⟨rfl, hb1⟩
  have f0 := hb1.cell (p := ⟨w.heap.size, 0, none⟩) (by simp)
  have f1 := hb1.cell (p := ⟨w.heap.size, 1, none⟩) (by simp)
  simp [go_sem] at f0 f1
  have hbw : Below w.heap.size w w1 := ((Below.refl _ _).alloc (Nat.le_refl _) _).trans (hb1.mono (by simp))
  have hz : w.heap.size < w1.heap.size := by have := hb1.size; simp at this; omega
  clear hb1
  generalize hA' : wid ah al = A at *
  have HA : Hid (_ = _) := hA'
  clear hA'
  generalize (bl A).length = n at *
  go_wp2
  go_loopw [4, 5] (fun root i wr => ∃ (k : Nat) (z r : Int), z = (k : Int) - 1 ∧ k ≤ 64 ∧ i = .int .i64 z ∧ root = .int .u64 r ∧ 0 ≤ r ∧ Root A k r.toNat ∧ Below w1.heap.size w1 wr) (fun _ i _ => (intOf i + 1).toNat)
  case atStart => exact ⟨(n + 1) / 2, _, 0, by omega, by omega, rfl, rfl, by omega, hst, Below.refl _ _⟩
  case round =>
    obtain ⟨k, z, r, hz', hk, rfl, rfl, hr0, hroot, hbel⟩ := hrel
    have q0 := cell_later hbel f0
    have q1 := cell_later hbel f1
    have hzr := hbel.size
    have hr1 : r < 18446744073709551616 := by have := hroot.fits; have := Nat.two_pow_pos k; omega
    by_cases h0 : k = 0
    · obtain rfl : z = -1 := by omega
      clear hz'
      subst h0
      have hr2 := hroot.le
      have hr3 := hroot.lt
      rw [Nat.pow_zero] at hr3
      have HR2 : Hid (_ ≤ _) := hr2
      have HR3 : Hid (_ < _) := hr3
      clear hr2 hr3 hroot
      obtain ⟨H2, L2, b0, b1, b2, b3, e4⟩ : ∃ H2 L2 : Int, 0 ≤ H2 ∧ H2 < 18446744073709551616 ∧ 0 ≤ L2 ∧ L2 < 18446744073709551616 ∧ wid H2 L2 = r.toNat * r.toNat := by
        have : r.toNat * r.toNat < 2 ^ 128 := Nat.lt_of_le_of_lt HR2.out hA
        refine ⟨((r.toNat * r.toNat / 18446744073709551616 : Nat) : Int), ((r.toNat * r.toNat % 18446744073709551616 : Nat) : Int), ?_⟩
        generalize r.toNat * r.toNat = X at *
        unfold wid
        refine ⟨by omega, by omega, by omega, by omega, by omega⟩
      have E4 : Hid (_ = _) := e4
      clear e4
      have hbr : Below w.heap.size w wr := hbw.trans (hbel.mono (by omega))
      by_cases p1 : H2 = ah
      · by_cases p2 : L2 = al
        · have D : Hid (true = decide (r.toNat * r.toNat = wid ah al)) := by
            show _ = _
            rw [← E4.out, p1, p2]; simp
          subst p1 p2
          go_wp2_with fail
          go_region_held3 (fun w' => w'.cell? ⟨w.heap.size, 0, none⟩ = some (.int .u64 H2) ∧ w'.cell? ⟨w.heap.size, 1, none⟩ = some (.int .u64 L2)) (simp [go_sem, *])
            (first | (go_at_call 113; refine (wMul r r _ hr0 hr1 hr0 hr1).mono ?_; rintro e w2 ⟨h, l, rfl, k0, k1, k2, k3, k4, hb2⟩; have hbx : Below wr.heap.size wr w2 := ((Below.refl _ _).drew).trans (hb2.mono (by simp)); have u0 := cell_later hbx q0; have u1 := cell_later hbx q1; obtain ⟨rfl, rfl⟩ := wid_inj h l H2 L2 k0 k1 k2 k3 b0 b1 b2 b3 (k4.trans E4.out.symm); clear k4 hb2))
          go_wp2
          go_ret2
          exact ⟨r, ret_eq (tup2 rfl (bool_eq D.out)), hr0, hr1, by rw [HA.out]; exact HR2.out, by rw [HA.out]; exact HR3.out, hbr.trans (hbx.mono (by omega))⟩
        · have D : Hid (false = decide (r.toNat * r.toNat = wid ah al)) := by
            show _ = _
            rw [← E4.out, eq_comm, decide_eq_false_iff_not]
            intro e; exact p2 (wid_inj _ _ _ _ b0 b1 b2 b3 a0 a1 a2 a3 e).2
          subst p1
          go_wp2_with fail
          go_region_held3 (fun w' => w'.cell? ⟨w.heap.size, 0, none⟩ = some (.int .u64 H2) ∧ w'.cell? ⟨w.heap.size, 1, none⟩ = some (.int .u64 al)) (simp [go_sem, *])
            (first | (go_at_call 113; refine (wMul r r _ hr0 hr1 hr0 hr1).mono ?_; rintro e w2 ⟨h, l, rfl, k0, k1, k2, k3, k4, hb2⟩; have hbx : Below wr.heap.size wr w2 := ((Below.refl _ _).drew).trans (hb2.mono (by simp)); have u0 := cell_later hbx q0; have u1 := cell_later hbx q1; obtain ⟨rfl, rfl⟩ := wid_inj h l H2 L2 k0 k1 k2 k3 b0 b1 b2 b3 (k4.trans E4.out.symm); clear k4 hb2))
          go_wp2
          go_ret2
          exact ⟨r, ret_eq (tup2 rfl (bool_eq D.out)), hr0, hr1, by rw [HA.out]; exact HR2.out, by rw [HA.out]; exact HR3.out, hbr.trans (hbx.mono (by omega))⟩
      · have D : Hid (false = decide (r.toNat * r.toNat = wid ah al)) := by
          show _ = _
          rw [← E4.out, eq_comm, decide_eq_false_iff_not]
          intro e; exact p1 (wid_inj _ _ _ _ b0 b1 b2 b3 a0 a1 a2 a3 e).1
        go_wp2_with fail
        go_region_held3 (fun w' => w'.cell? ⟨w.heap.size, 0, none⟩ = some (.int .u64 ah) ∧ w'.cell? ⟨w.heap.size, 1, none⟩ = some (.int .u64 al)) (simp [go_sem, *])
          (first | (go_at_call 113; refine (wMul r r _ hr0 hr1 hr0 hr1).mono ?_; rintro e w2 ⟨h, l, rfl, k0, k1, k2, k3, k4, hb2⟩; have hbx : Below wr.heap.size wr w2 := ((Below.refl _ _).drew).trans (hb2.mono (by simp)); have u0 := cell_later hbx q0; have u1 := cell_later hbx q1; obtain ⟨rfl, rfl⟩ := wid_inj h l H2 L2 k0 k1 k2 k3 b0 b1 b2 b3 (k4.trans E4.out.symm); clear k4 hb2))
        go_wp2
        go_ret2
        exact ⟨r, ret_eq (tup2 rfl (bool_eq D.out)), hr0, hr1, by rw [HA.out]; exact HR2.out, by rw [HA.out]; exact HR3.out, hbr.trans (hbx.mono (by omega))⟩
    · obtain ⟨j, rfl⟩ : ∃ j, k = j + 1 := ⟨k - 1, by omega⟩
      obtain rfl : z = (j : Int) := by omega
      clear hz'
      have ht := try_or r j A hr0 hroot (by omega)
      have hj2 : (j : Int) ≤ 63 := by omega
      obtain ⟨T, hT⟩ : ∃ T : Int, ((r.toNat + 2 ^ j : Nat) : Int) = T := ⟨_, rfl⟩
      have hT2 : T.toNat = r.toNat + 2 ^ j := by rw [← hT, Int.toNat_natCast]
      have hT0 : 0 ≤ T := by rw [← hT]; exact Int.natCast_nonneg _
      have hT1 : T < 18446744073709551616 := by
        have := hroot.fits
        have h2 := Nat.two_pow_pos j
        rw [Nat.pow_succ] at this
        omega
      rw [hT] at ht
      have HT : Hid (_ = _) := ht
      have YES : Hid (T.toNat * T.toNat ≤ A → Root A j T.toNat) := by
        intro h; rw [hT2] at h ⊢; exact hroot.yes h
      have NO : Hid (A < T.toNat * T.toNat → Root A j r.toNat) := by
        intro h; rw [hT2] at h; exact hroot.no h
      clear ht hT hT2 hroot
      go_wp2_with fail
      rw [HT.out]
      by_cases hle : T.toNat * T.toNat ≤ A
      · have hcv : cmpI (T.toNat * T.toNat) A ≤ 0 := by unfold cmpI; repeat' split
                                                        all_goals omega
        have hroot' := YES.out hle
        clear YES NO hle
        go_region_held3 (fun w' => w'.cell? ⟨w.heap.size, 0, none⟩ = some (.int .u64 ah) ∧ w'.cell? ⟨w.heap.size, 1, none⟩ = some (.int .u64 al)) (simp [go_sem, *])
          (first | (go_at_call 113; refine (wMul T T _ hT0 hT1 hT0 hT1).mono ?_; rintro e w2 ⟨h, l, rfl, k0, k1, k2, k3, k4, hb2⟩; have hbx : Below wr.heap.size wr w2 := ((Below.refl _ _).drew).trans (hb2.mono (by simp)); have u0 := cell_later hbx q0; have u1 := cell_later hbx q1; have K4 : Hid (wid h l = T.toNat * T.toNat) := k4; clear k4 hb2) | (go_at_call 131; refine (wCmp _ _ _ _ _ k0 k1 k2 k3 a0 a1 a2 a3).mono ?_; rintro e w3 ⟨rfl, hb3⟩; rw [K4.out, HA.out]; have hby : Below wr.heap.size wr w3 := hbx.trans (hb3.mono hbx.size); have v0 := cell_later hby q0; have v1 := cell_later hby q1; clear hb3))
        go_wp2
        go_roundw
        case rel => exact ⟨j, _, T, rfl, by omega, by go_num, rfl, hT0, hroot', hbel.trans (hby.mono hzr)⟩
        case measure => simp [intOf]
      · have hcv : 0 < cmpI (T.toNat * T.toNat) A := by unfold cmpI; rw [if_neg (by omega), if_neg (by omega)]; omega
        have hroot' := NO.out (by omega)
        clear YES NO hle
        go_region_held3 (fun w' => w'.cell? ⟨w.heap.size, 0, none⟩ = some (.int .u64 ah) ∧ w'.cell? ⟨w.heap.size, 1, none⟩ = some (.int .u64 al)) (simp [go_sem, *])
          (first | (go_at_call 113; refine (wMul T T _ hT0 hT1 hT0 hT1).mono ?_; rintro e w2 ⟨h, l, rfl, k0, k1, k2, k3, k4, hb2⟩; have hbx : Below wr.heap.size wr w2 := ((Below.refl _ _).drew).trans (hb2.mono (by simp)); have u0 := cell_later hbx q0; have u1 := cell_later hbx q1; have K4 : Hid (wid h l = T.toNat * T.toNat) := k4; clear k4 hb2) | (go_at_call 131; refine (wCmp _ _ _ _ _ k0 k1 k2 k3 a0 a1 a2 a3).mono ?_; rintro e w3 ⟨rfl, hb3⟩; rw [K4.out, HA.out]; have hby : Below wr.heap.size wr w3 := hbx.trans (hb3.mono hbx.size); have v0 := cell_later hby q0; have v1 := cell_later hby q1; clear hb3))
        go_wp2
        go_roundw
        case rel => exact ⟨j, _, r, rfl, by omega, by go_num, rfl, hr0, hroot', hbel.trans (hby.mono hzr)⟩
        case measure => simp [intOf]
end Go.Proofs.Ytokgfeeaoioegaa
