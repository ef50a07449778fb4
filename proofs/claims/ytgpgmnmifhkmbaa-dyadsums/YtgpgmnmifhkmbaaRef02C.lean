/-
  What each function of package gimbalref02 returns.
-/
import Derived.Test.YtgpgmnmifhkmbaaHlp
import Derived.Test.YtgpgmnmifhkmbaaSeeM
namespace Go.Proofs.Ytgpgmnmifhkmbaa
open Go.RowKit
set_option linter.unusedVariables false

set_option maxHeartbeats 400000 in
theorem trim_any (b o c : Nat) (xs : List Int) (w : World) (hx : Bin xs) (hl : xs.length ≤ 1000000) (hb : b < w.heap.size) (hc : xs.length ≤ c) (hm : c ≤ maxLen)
    (hcell : ∀ i, i < xs.length → w.cell? ⟨b, o + i, none⟩ = some (.int .i64 (xs[i]?.getD 0))) :
    Calls Try.prog 69 #[.slice (some ⟨b, o, none⟩) xs.length c] w fun e w' => ∃ v', e = .returned v' ∧ Own w' w.heap.size v' (bl (val xs)) ∧ Below w.heap.size w w' := by
  unfold maxLen at hm
  go_enter Try.func69, Try.ntmps69
  go_wp2
  go_loop [3] (fun t => ∃ n : Nat, n ≤ xs.length ∧ t = .int .i64 n ∧ ∀ x ∈ xs.drop n, x = 0) (fun t => (intOf t).toNat)
  case atStart => exact ⟨xs.length, Nat.le_refl _, rfl, by simp⟩
  case round =>
    obtain ⟨n, hn, rfl, hz⟩ := hrel
    have HZ : Hid (_) := hz
    clear hz
    by_cases h0 : n = 0
    · subst h0
      have hE : bl (val xs) = [] := by rw [val_zeros xs (by simpa using HZ.out), bl_zero]
      have HE : Hid (_ = _) := hE
      clear hE
      go_wp2
      all_goals go_ret
      refine ⟨_, rfl, ?_, (Below.refl _ _).alloc (Nat.le_refl _) _⟩
      rw [HE.out]
      exact Own.new w _ (Nat.le_refl _)
    · obtain ⟨k, rfl⟩ : ∃ k, n = k + 1 := ⟨n - 1, by omega⟩
      have hk := hcell k (by omega)
      by_cases hlast : xs[k]?.getD 0 = 0
      · have hl' : (xs[k]?.getD 0 == 0) = true := by simpa using hlast
        have R : Hid (∀ x ∈ xs.drop k, x = 0) := by
          rw [List.drop_eq_getElem_cons (by omega)]
          intro x hx
          rcases List.mem_cons.1 hx with rfl | hx
          · rwa [List.getElem?_eq_getElem (by omega)] at hlast
          · exact HZ.out x hx
        go_wp2
        all_goals go_round
        case rel => exact ⟨k, by omega, by go_num, R.out⟩
        case measure => simp [intOf]
      · have hl' : (xs[k]?.getD 0 == 0) = false := by simpa using hlast
        have R : Hid (xs.take (k + 1) = bl (val xs)) := trim_val xs (k + 1) hx hn HZ.out (fun _ => by
          rwa [List.getElem?_eq_getElem (by omega)] at hlast)
        go_wp2_with (at_builtin; refine wpList_app rfl _ _ rfl w.heap.size _ [] rfl (Own.new _ _ (Nat.le_refl _)) b o (k + 1) c (xs.take (k + 1)) ?c1 ?c2 ?c3 ?c4 ?c5 ?_)
        case c3 => intro i hi; rw [List.getElem?_take_of_lt hi]; exact hcell i (by omega)
        case c4 => omega
        intro v' w' hown hbel
        go_wp2
        go_ret
        refine ⟨v', rfl, ?_, ((Below.refl _ _).alloc (Nat.le_refl _) _).trans hbel⟩
        rw [← R.out]
        exact hown
theorem rTrim (v : Value) (xs : List Int) (w : World) (hs : Sees w v xs) (hx : Bin xs) (hl : xs.length ≤ 1000000) :
    Calls Try.prog 69 #[v] w fun e w' => ∃ v', e = .returned v' ∧ Own w' w.heap.size v' (bl (val xs)) ∧ Below w.heap.size w w' := by
  obtain ⟨b, o, c, rfl, hb, hc, hm, hcell⟩ := hs
  exact trim_any b o c xs w hx hl hb hc hm hcell
set_option maxRecDepth 100000 in
set_option maxHeartbeats 400000 in
theorem rOf (x : Int) (w : World) (h0 : 0 ≤ x) (h1 : x < 18446744073709551616) :
    Calls Try.prog 11 #[.int .u64 x] w fun e w' => ∃ v', e = .returned v' ∧ Own w' w.heap.size v' (bl x.toNat) ∧ Below w.heap.size w w' := by
  obtain ⟨X, rfl⟩ := Int.eq_ofNat_of_zero_le h0
  rw [Int.toNat_natCast]
  have hX : (bl X).length ≤ 64 := (bl_length_le X 64).2 (by omega)
  go_enter Try.func11, Try.ntmps11
  go_wp2
  go_loopw [0, 3] (fun t v wr => ∃ (n : Int) (zs : List Int), t = .int .u64 n ∧ 0 ≤ n ∧ n < 18446744073709551616 ∧ zs ++ bl n.toNat = bl X ∧ Own wr w.heap.size v zs ∧ Below w.heap.size w wr) (fun t _ _ => (intOf t).toNat)
  case atStart => exact ⟨X, [], rfl, by omega, by omega, by simp, Own.new _ _ (Nat.le_refl _), (Below.refl _ _).alloc (Nat.le_refl _) _⟩
  case round =>
    obtain ⟨n, zs, rfl, hn0, hn, hz, hown, hbel⟩ := hrel
    have HZ : Hid (_ = _) := hz
    have hzl : zs.length ≤ 64 := by have := congrArg List.length hz; simp at this; omega
    clear hz
    have hbs := hbel.size
    by_cases hp : n = 0
    · subst hp
      go_wp2
      go_ret
      have := HZ.out
      rw [Int.toNat_zero, bl_zero, List.append_nil] at this
      subst this
      exact ⟨_, rfl, hown, hbel⟩
    · have R : Hid ((zs ++ [n % 2]) ++ bl (n / 2).toNat = bl X) := by
        show _ = _
        rw [← HZ.out, bl_pos n.toNat (by omega), List.append_assoc]
        rw [show (n / 2).toNat = n.toNat / 2 by omega, show ((n.toNat % 2 : Nat) : Int) = n % 2 by omega]; rfl
      have hp' : 0 < n := by omega
      clear hp h0 h1 hX
      go_wp2_with (at_builtin; refine wpList_app1 rfl _ _ rfl w.heap.size _ zs rfl hown _ rfl (by omega) hbs ?_)
      intro v' w1 hown' hbel'
      go_wp2
      go_roundw
      case rel => exact ⟨n / 2, zs ++ [n % 2], rfl, by omega, by omega, R.out, hown', hbel.trans hbel'⟩
      case measure => simp [intOf]; omega
set_option maxHeartbeats 400000 in
theorem rNum (v : Value) (xs : List Int) (w : World) (hs : Sees w v xs) (hx : Bin xs) (hl : xs.length ≤ 1000000) :
    Calls Try.prog 83 #[v] w fun e w' => e = .returned (.int .u64 ((val xs : Int) % 18446744073709551616)) ∧ w' = w := by
  obtain ⟨b, o, c, rfl, hb, hc, hm, hcell⟩ := hs
  obtain ⟨m, hm1, hm2⟩ : ∃ m : Nat, m = min xs.length 64 ∧ m ≤ 64 := ⟨_, rfl, by omega⟩
  have E : Hid (xs.take m = xs.take 64) := by
    show _ = _
    by_cases h : xs.length ≤ 64
    · rw [List.take_of_length_le (by omega), List.take_of_length_le h]
    · rw [show m = 64 by omega]
  have hmin : min (xs.length : Int) 64 = (m : Int) := by omega
  have hml : m ≤ xs.length := by omega
  clear hm1
  go_enter Try.func83, Try.ntmps83
  go_wp2
  all_goals
    go_loop [3, 4] (fun x i => ∃ (k : Nat) (z y : Int), z = (k : Int) - 1 ∧ k ≤ m ∧ i = .int .i64 z ∧ x = .int .u64 y ∧ y = (val ((xs.take m).drop k) : Nat)) (fun _ i => (intOf i + 1).toNat)
    case atStart => exact ⟨m, _, 0, by omega, Nat.le_refl _, rfl, rfl, by rw [List.drop_eq_nil_of_le (by rw [List.length_take]; omega)]; rfl⟩
    case round =>
      obtain ⟨k, z, y, hz, hk, rfl, rfl, hy⟩ := hrel
      have HY : Hid (_ = _) := hy
      clear hy hmin
      by_cases h0 : k = 0
      · obtain rfl : z = -1 := by omega
        clear hz
        subst h0
        go_wp2
        go_ret
        refine ⟨ret_eq (int_eq ?_), rfl⟩
        rw [HY.out, List.drop_zero, E.out, val_take xs hx 64]; omega
      · obtain ⟨j, rfl⟩ : ∃ j, k = j + 1 := ⟨k - 1, by omega⟩
        obtain rfl : z = (j : Int) := by omega
        have hj := hcell j (by omega)
        have hjl : j < (xs.take m).length := by rw [List.length_take]; omega
        have hbit : xs[j]?.getD 0 = 0 ∨ xs[j]?.getD 0 = 1 := by rw [List.getElem?_eq_getElem (by omega)]; exact hx.get j (by omega)
        have hstep := val_drop_cons (xs.take m) j hjl
        have hbd := val_lt ((xs.take m).drop (j + 1)) ((hx.take m).drop _)
        have hlen : ((xs.take m).drop (j + 1)).length ≤ 63 := by rw [List.length_drop, List.length_take]; omega
        have hpow : 2 ^ ((xs.take m).drop (j + 1)).length ≤ 2 ^ 63 := Nat.pow_le_pow_right (by decide) hlen
        have hy0 : 0 ≤ y := by rw [HY.out]; omega
        have hy1 : y ≤ 9223372036854775807 := by rw [HY.out]; omega
        have hgx : (xs.take m)[j] = xs[j]?.getD 0 := by rw [List.getElem_take, List.getElem?_eq_getElem (by omega)]; rfl
        obtain ⟨t, ht⟩ : ∃ t, xs[j]?.getD 0 = t := ⟨_, rfl⟩
        rw [ht] at hj hbit hgx
        have R : Hid (2 * y + t = (val ((xs.take m).drop j) : Nat)) := by
          show _ = _
          rw [hstep, hgx, HY.out]; omega
        clear hstep hbd hlen hpow hgx ht hjl hz
        go_wp2
        go_round
        case rel => exact ⟨j, j - 1, 2 * y + t, rfl, by omega, by go_num, by go_num, R.out⟩
        case measure => simp [intOf]
set_option maxHeartbeats 400000 in
theorem rUp (v : Value) (xs : List Int) (n : Int) (w : World) (hs : Sees w v xs) (hx : Bin xs) (hl : xs.length ≤ 100000) (hn : n ≤ 100000) :
    Calls Try.prog 68 #[v, .int .i64 n] w fun e w' => ∃ v', e = .returned v' ∧ Own w' w.heap.size v' (bl (2 ^ n.toNat * val xs)) ∧ Below w.heap.size w w' := by
  have hs' := hs
  obtain ⟨b, o, c, rfl, hb, hc, hm, hcell⟩ := hs
  go_enter Try.func68, Try.ntmps68
  go_wp2
  go_loopw [5, 6] (fun u i wr => ∃ (k : Nat), i = .int .i64 k ∧ k ≤ n.toNat ∧ Own wr w.heap.size u (List.replicate k 0) ∧ Below w.heap.size w wr) (fun _ i _ => n.toNat - (intOf i).toNat)
  case atStart => exact ⟨0, rfl, by omega, Own.new _ _ (Nat.le_refl _), (Below.refl _ _).alloc (Nat.le_refl _) _⟩
  case round =>
    obtain ⟨k, rfl, hk, hown, hbel⟩ := hrel
    have hbs := hbel.size
    have hrl : (List.replicate k (0 : Int)).length ≤ 100000 := by rw [List.length_replicate]; omega
    by_cases hlt : (k : Int) < n
    · have R : Hid (List.replicate k (0 : Int) ++ [0] = List.replicate (k + 1) 0) := List.replicate_succ'.symm
      go_wp2_with (at_builtin; refine wpList_app1 rfl _ _ rfl w.heap.size _ (List.replicate k 0) rfl hown _ rfl (by omega) hbs ?_)
      intro v' w1 hown' hbel'
      rw [R.out] at hown'
      go_wp2
      go_roundw
      case rel => exact ⟨k + 1, by go_num, by omega, hown', hbel.trans hbel'⟩
      case measure => simp [intOf]; omega
    · have hk' : k = n.toNat := by omega
      have hcell' : ∀ i, i < xs.length → wr.cell? ⟨b, o + i, none⟩ = some (.int .i64 (xs[i]?.getD 0)) := fun i hi => (hbel.cell (p := ⟨b, o + i, none⟩) hb).trans (hcell i hi)
      have HK : Hid (_ = _) := hk'
      have HC : Hid (_) := hcell'
      clear hk' hcell' hcell
      go_wp2_with (at_builtin; refine wpList_app rfl _ _ rfl w.heap.size _ (List.replicate k 0) rfl hown b o xs.length c xs rfl rfl HC.out (by omega) hbs ?_)
      intro v' w1 hown' hbel'
      go_wp2_with fail
      refine (rTrim _ _ _ hown'.sees ?_ ?_).mono ?_
      · exact Bin.append (fun x hx => Or.inl (List.eq_of_mem_replicate hx)) hx
      · rw [List.length_append]; omega
      rintro e w2 ⟨v2, rfl, hown2, hbel2⟩
      go_wp2
      go_ret
      have hsz := (hbel.trans hbel').size
      refine ⟨_, rfl, ?_, (hbel.trans hbel').trans (hbel2.mono hsz)⟩
      have e1 : val (List.replicate k 0 ++ xs) = 2 ^ n.toNat * val xs := by
        rw [val_append, val_zeros _ (fun x hx => List.eq_of_mem_replicate hx), List.length_replicate, HK.out]; omega
      rw [← e1]
      exact hown2.base hsz
theorem val_take_succ (xs : List Int) (k : Nat) (h : k < xs.length) : val (xs.take (k + 1)) = val (xs.take k) + 2 ^ k * (xs[k]).toNat := by
  rw [List.take_succ_eq_append_getElem h, val_append, List.length_take]
  rw [show min k xs.length = k by omega, val_cons, val_nil, Nat.mul_zero, Nat.add_zero]
/-- Whether a 1 falls out below place n. -/
def lostB (m n : Nat) : Bool := decide (m % 2 ^ n ≠ 0)
theorem lost_step (xs : List Int) (k : Nat) (h : k < xs.length) (hx : Bin xs) : lostB (val xs) (k + 1) = (lostB (val xs) k || (xs[k]?.getD 0 == 1)) := by
  have e := val_take_succ xs k h
  rw [val_take xs hx, val_take xs hx] at e
  have hb := hx.get k h
  unfold lostB
  rw [List.getElem?_eq_getElem h, e]
  have hp := Nat.two_pow_pos k
  rw [Bool.eq_iff_iff]
  rcases hb with hb | hb <;> simp [hb] <;> omega
set_option maxHeartbeats 400000 in
theorem rDown (v : Value) (xs : List Int) (n : Int) (w : World) (hs : Sees w v xs) (hx : Bin xs) (hl : xs.length ≤ 100000) :
    Calls Try.prog 82 #[v, .int .i64 n] w fun e w' => ∃ v', e = .returned (.tuple #[v', .bool (lostB (val xs) n.toNat)]) ∧ Own w' w.heap.size v' (bl (val xs / 2 ^ n.toNat)) ∧ Below w.heap.size w w' := by
  have hs' := hs
  obtain ⟨b, o, c, rfl, hb, hc, hm, hcell⟩ := hs
  go_enter Try.func82, Try.ntmps82
  go_wp2
  go_loop [6, 7] (fun t i => ∃ (k : Nat) (l : Bool), i = .int .i64 k ∧ k ≤ n.toNat ∧ k ≤ xs.length ∧ t = .bool l ∧ l = lostB (val xs) k) (fun _ i => n.toNat - (intOf i).toNat)
  case atStart => exact ⟨0, false, rfl, by omega, by omega, rfl, by simp [lostB, Nat.mod_one]⟩
  case round =>
    obtain ⟨k, l, rfl, hk, hkl, rfl, hlo⟩ := hrel
    have HL : Hid (_ = _) := hlo
    clear hlo
    by_cases hlt : (k : Int) < n ∧ k < xs.length
    · obtain ⟨hlt1, hlt2⟩ := hlt
      have hj := hcell k hlt2
      have R : Hid ((l || (xs[k]?.getD 0 == 1)) = lostB (val xs) (k + 1)) := by
        show _ = _
        rw [lost_step xs k hlt2 hx, HL.out]
      obtain ⟨t, ht⟩ : ∃ t, xs[k]?.getD 0 = t := ⟨_, rfl⟩
      rw [ht] at hj R
      clear ht hcell
      cases l
      all_goals
        go_wp2
        go_round
        case rel => exact ⟨k + 1, _, by go_num, by omega, by omega, rfl, R.out⟩
        case measure => simp [intOf]; omega
    · by_cases hn : n ≥ xs.length
      · have hkk : k = xs.length := by omega
        have hlt' : ¬ (k : Int) < xs.length := by omega
        have R1 : Hid (l = lostB (val xs) n.toNat) := by
          show _ = _
          rw [HL.out, hkk]
          unfold lostB
          have b1 := val_lt xs hx
          have b2 : 2 ^ xs.length ≤ 2 ^ n.toNat := Nat.pow_le_pow_right (by decide) (by omega)
          rw [Nat.mod_eq_of_lt b1, Nat.mod_eq_of_lt (by omega)]
        have R2 : Hid (val xs / 2 ^ n.toNat = 0) := by
          show _ = _
          have b1 := val_lt xs hx
          have b2 : 2 ^ xs.length ≤ 2 ^ n.toNat := Nat.pow_le_pow_right (by decide) (by omega)
          exact Nat.div_eq_of_lt (by omega)
        clear hkk
        by_cases hlt1 : (k : Int) < n
        all_goals
          go_wp2
          go_ret2
          refine ⟨_, ret_eq (tup2 rfl (bool_eq R1.out)), ?_, (Below.refl _ _).alloc (Nat.le_refl _) _⟩
          rw [R2.out, bl_zero]
          exact Own.new w _ (Nat.le_refl _)
      · have hlt' : ¬ (k : Int) < n := by omega
        obtain rfl : k = n.toNat := by omega
        have hsee : Hid (Sees w (.slice (some ⟨b, o + n.toNat, none⟩) (xs.length - n.toNat) (c - n.toNat)) (xs.drop n.toNat)) := by
          refine ⟨b, o + n.toNat, c - n.toNat, by rw [List.length_drop], hb, by rw [List.length_drop]; omega, by omega, fun i hi => ?_⟩
          rw [List.length_drop] at hi
          rw [List.getElem?_drop, Nat.add_assoc]
          exact hcell (n.toNat + i) (by omega)
        clear hcell
        have HS : Hid (Sees w _ xs) := hs'
        clear hs'
        by_cases hneg : n < 0
        · have h0 : n.toNat = 0 := by omega
          have R : Hid (bl (val xs / 2 ^ n.toNat) = bl (val xs)) := by show _ = _; rw [h0]; simp
          clear h0
          go_wp2_with fail
          refine (rTrim _ _ _ HS.out hx (by omega)).mono ?_
          rintro e w2 ⟨v2, rfl, hown2, hbel2⟩
          go_wp2
          go_ret2
          refine ⟨_, ret_eq (tup2 rfl (bool_eq HL.out)), ?_, hbel2⟩
          rw [R.out]
          exact hown2
        · go_wp2_with fail
          refine (rTrim _ _ _ hsee.out (hx.drop _) (by rw [List.length_drop]; omega)).mono ?_
          rintro e w2 ⟨v2, rfl, hown2, hbel2⟩
          go_wp2
          go_ret2
          refine ⟨_, ret_eq (tup2 rfl (bool_eq HL.out)), ?_, hbel2⟩
          rw [← val_drop xs hx]
          exact hown2
end Go.Proofs.Ytgpgmnmifhkmbaa
