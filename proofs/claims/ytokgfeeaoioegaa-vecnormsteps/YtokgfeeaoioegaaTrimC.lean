/-
  What trim, wordAt and ofWord of package dyad return. Conditions: lists are short, places small.
-/
import Derived.Test.YtokgfeeaoioegaaNumC
import Derived.Test.YtokgfeeaoioegaaWideC
namespace Go.Proofs.Ytokgfeeaoioegaa
open Go.RowKit
set_option linter.unusedVariables false

theorem tell_of_trim {w : World} {base b o c : Nat} {xs : List Int} {neg : Bool} {p : Int} (hx : InW xs) (l t : Nat) (hlt : l ≤ t) (ht : t < xs.length) (hs : SeesU w (.slice (some ⟨b, o, none⟩) xs.length c) xs) (hbase : base ≤ b)
    (z1 : ∀ i, t + 1 ≤ i → i < xs.length → xs[i]?.getD 0 = 0) (z0 : ∀ i, i < l → xs[i]?.getD 0 = 0) (n0 : xs[l]?.getD 0 ≠ 0) (n1 : xs[t]?.getD 0 ≠ 0) (k : Nat) (L : Int) (hk : -(k : Int) ≤ p) (hL : p + (xs.length : Int) ≤ L) :
    Tell w base (.agg #[.bool neg, .slice (some ⟨b, o + l, none⟩) (t + 1 - l) (t + 1 - l), .int .i64 (p + (l : Int)), .slice none 0 0]) k L (sg neg * (dv xs * pw (p + k).toNat)) := by
  have hlen : ((xs.drop l).take (t + 1 - l)).length = t + 1 - l := by rw [List.length_take, List.length_drop]; omega
  have hne : (xs.drop l).take (t + 1 - l) ≠ [] := by intro e; rw [e] at hlen; simp at hlen; omega
  have hg : ∀ i, i < t + 1 - l → ((xs.drop l).take (t + 1 - l))[i]?.getD 0 = xs[l + i]?.getD 0 := by
    intro i hi
    rw [List.getElem?_take, if_pos hi, List.getElem?_drop]
  refine ⟨neg, (xs.drop l).take (t + 1 - l), p + (l : Int), ⟨_, rfl, .inr ⟨?_, hne, b, o + l, t + 1 - l, by rw [hlen], hbase⟩, fun e => absurd e hne⟩, ⟨(hx.drop l).take _, fun _ => ?_⟩, by omega, by rw [hlen]; omega, ?_⟩
  · obtain ⟨b', o', c', e, h1, h2, h3, h4⟩ := hs
    simp at e
    obtain ⟨⟨rfl, rfl⟩, rfl⟩ := e
    refine ⟨b, o + l, t + 1 - l, by rw [hlen], h1, by rw [hlen]; exact Nat.le_refl _, by omega, fun i hi => ?_⟩
    rw [hlen] at hi
    rw [hg i hi, Nat.add_assoc]
    exact h4 (l + i) (by omega)
  · rw [hlen, hg 0 (by omega), hg (t + 1 - l - 1) (by omega), show l + (t + 1 - l - 1) = t by omega, Nat.add_zero]
    exact ⟨n0, n1⟩
  · rw [dv_trim xs hx l (t + 1) (by omega) (by omega) z1 z0, show (p + (l : Int) + k).toNat = l + (p + k).toNat by omega, pw_add]
    grind
set_option maxHeartbeats 1000000 in
theorem dTrim (neg : Bool) (b o c base : Nat) (xs : List Int) (p : Int) (w : World) (hs : SeesU w (.slice (some ⟨b, o, none⟩) xs.length c) xs) (hx : InW xs) (hl : xs.length ≤ 1000000) (hbase : base ≤ b) (p0 : -1000000 ≤ p) (p1 : p ≤ 1000000) :
    Calls Try.prog 70 #[.bool neg, .slice (some ⟨b, o, none⟩) xs.length c, .agg #[.int .i64 p, .slice none 0 0]] w fun e w' => ∃ r, e = .returned r ∧ (∀ (k : Nat) (L : Int), -(k : Int) ≤ p → p + (xs.length : Int) ≤ L → 0 ≤ L → Tell w' base r k L (sg neg * (dv xs * pw (p + k).toNat))) ∧ Below w.heap.size w w' := by
  have HS : Hid (SeesU w (.slice (some ⟨b, o, none⟩) xs.length c) xs) := hs
  obtain ⟨b', o', c', e, hb, hc, hm, hcell⟩ := hs
  simp at e
  obtain ⟨⟨rfl, rfl⟩, rfl⟩ := e
  unfold maxLen at hm
  have HC : Hid (∀ i, i < xs.length → w.cell? ⟨b, o + i, none⟩ = some (.int .u64 (xs[i]?.getD 0))) := hcell
  clear hcell
  obtain ⟨n, hn⟩ : ∃ n, n = xs.length := ⟨_, rfl⟩
  have HN : Hid (n = xs.length) := hn
  rw [← hn] at hc hl ⊢
  clear hn
  go_enter Try.func70, Try.ntmps70
  go_wp2
  go_loop [8] (fun hv => ∃ h : Nat, hv = .int .i64 (h : Int) ∧ h ≤ n ∧ Hid (∀ i, h ≤ i → i < n → xs[i]?.getD 0 = 0)) (fun hv => (intOf hv).toNat)
  case atStart => exact ⟨n, rfl, Nat.le_refl _, fun i h1 h2 => by omega⟩
  case round =>
    obtain ⟨h, rfl, hh, HZ⟩ := hrel
    by_cases h0 : h = 0
    · subst h0
      go_wp2
      go_loop [7] (fun lv => lv = .int .i64 0) (fun lv => 0)
      case atStart => rfl
      case round =>
        subst hrel
        go_wp2
        refine bodyPost_ret (v := .agg #[.bool false, .slice none 0 0, .int .i64 0, .slice none 0 0]) (by simp [results, Try.results70, go_sem]) rfl ⟨_, rfl, ?_, ?_⟩
        · intro k L h1 h2 h3
          have e := dv_trim xs hx 0 0 (Nat.le_refl _) (Nat.zero_le _) (fun i h1 h2 => HZ.out i h1 (by have := HN.out; omega)) (fun i hi => by omega)
          simp [dv_nil] at e
          rw [e, Int.zero_mul, Int.mul_zero]
          exact Tell.zero _ _ _ _ _ h3
        · repeat (first | exact Below.refl _ _ | (refine Below.setCell ?_ (by simp <;> omega) _) | (refine Below.alloc ?_ (by simp <;> omega) _))
    · obtain ⟨t, rfl⟩ : ∃ t, h = t + 1 := ⟨h - 1, by omega⟩
      have q := HC.out t (by have := HN.out; omega)
      by_cases hlast : xs[t]?.getD 0 = 0
      · rw [hlast] at q
        have R : Hid (∀ i, t ≤ i → i < n → xs[i]?.getD 0 = 0) := by
          intro i h1 h2
          rcases Nat.lt_or_ge t i with g | g
          · exact HZ.out i g h2
          · obtain rfl : i = t := by omega
            exact hlast
        clear hlast HZ
        go_wp2
        go_round
        case rel => exact ⟨t, by go_num, by omega, R⟩
        case measure => simp [intOf]
      · have HL : Hid (¬ _) := hlast
        obtain ⟨x, hxx⟩ : ∃ x, x = xs[t]?.getD 0 := ⟨_, rfl⟩
        rw [← hxx] at q hlast
        clear hxx
        go_wp2
        go_loop [7] (fun lv => ∃ l : Nat, lv = .int .i64 (l : Int) ∧ l ≤ t ∧ Hid (∀ i, i < l → xs[i]?.getD 0 = 0)) (fun lv => t - (intOf lv).toNat)
        case atStart => exact ⟨0, rfl, Nat.zero_le _, fun i h => by omega⟩
        case round =>
          obtain ⟨l, rfl, hlt, HA⟩ := hrel
          clear q
          have q := HC.out l (by have := HN.out; omega)
          by_cases hf : xs[l]?.getD 0 = 0
          · have hlt' : l < t := by
              rcases Nat.lt_or_ge l t with g | g
              · exact g
              · obtain rfl : l = t := by omega
                exact absurd hf HL.out
            rw [hf] at q
            have R : Hid (∀ i, i < l + 1 → xs[i]?.getD 0 = 0) := by
              intro i h1
              rcases Nat.lt_or_ge i l with g | g
              · exact HA.out i g
              · obtain rfl : i = l := by omega
                exact hf
            clear hf HA
            go_wp2
            go_round
            case rel => exact ⟨l + 1, by go_num, by omega, R⟩
            case measure => simp [intOf]; omega
          · have HF : Hid (¬ _) := hf
            obtain ⟨y, hyy⟩ : ∃ y, y = xs[l]?.getD 0 := ⟨_, rfl⟩
            rw [← hyy] at q hf
            clear hyy
            have T : Hid (∀ (W : World), SeesU W (.slice (some ⟨b, o, none⟩) xs.length c) xs → ∀ (k : Nat) (L : Int), -(k : Int) ≤ p → p + (xs.length : Int) ≤ L → 0 ≤ L → Tell W base (.agg #[.bool neg, .slice (some ⟨b, o + l, none⟩) (t + 1 - l) (t + 1 - l), .int .i64 (p + (l : Int)), .slice none 0 0]) k L (sg neg * (dv xs * pw (p + k).toNat))) :=
              fun W hW k L h1 h2 h3 => tell_of_trim hx l t hlt (by have := HN.out; omega) hW hbase (fun i a1 a2 => HZ.out i a1 (by have := HN.out; omega)) HA.out HF.out HL.out k L h1 h2
            clear HA HZ HF HL
            have hne : ¬ l = t + 1 := by omega
            have i1 : (0 : Int) ≤ (l : Int) := by omega
            have i2 : (l : Int) ≤ (t : Int) + 1 := by omega
            have i3 : (t : Int) + 1 ≤ (n : Int) := by omega
            have i4 : (t : Int) + 1 ≤ (c : Int) := by omega
            go_wp2_with fail
            go_region_held3 (fun w' => w'.cell? ⟨w.heap.size, 0, none⟩ = some (.int .i64 p) ∧ w'.cell? ⟨w.heap.size, 1, none⟩ = some (.slice none 0 0)) (simp [go_sem, *]) (first | (go_at_call 92; refine (dPlaceOf _ _ (by omega) (by omega)).mono ?_; rintro e w1 ⟨rfl, hb1⟩; obtain ⟨hc1, hf1⟩ := bcell hb1; have hz1 : w.heap.size + 1 < w1.heap.size := (by have := hb1.size; simp at this; omega); have hy1 : w.heap.size < w1.heap.size := (by omega); have hx1 : Below w.heap.size w w1 := (Below.trans (by repeat (first | exact Below.refl _ _ | (refine Below.alloc ?_ (by simp <;> omega) _) | (refine Below.drew ?_))) (hb1.mono (by simp <;> omega))); clear hb1) | (go_at_call 72; refine (dPlus _ _ _ (by omega) (by omega) (by omega) (by omega)).mono ?_; rintro e w2 ⟨rfl, hb2⟩; obtain ⟨hc2, hf2⟩ := bcell hb2; have hz2 : w.heap.size + 1 < w2.heap.size := (by have := hb2.size; omega); have hy2 : w.heap.size < w2.heap.size := (by omega); have hx2 : Below w.heap.size w w2 := (hx1.trans (hb2.mono (by omega))); clear hb2))
            go_wp2
            have hfin : ∀ W, W = _ → Below w.heap.size w W := fun W hW => hW ▸ (((((hx2.setCell (p := ⟨w.heap.size + 1, 0, none⟩) (by simp) (.bool neg)).setCell (p := ⟨w.heap.size + 1, 1, none⟩) (by simp) (.slice (some ⟨b, o + l, none⟩) (t + 1 - l) (t + 1 - l))).setCell (p := ⟨w.heap.size + 1, 2, none⟩) (by simp) (.int .i64 (p + (l : Int)))).setCell (p := ⟨w.heap.size + 1, 3, none⟩) (by simp) (.slice none 0 0)))
            refine bodyPost_ret (v := .agg #[.bool neg, .slice (some ⟨b, o + l, none⟩) (t + 1 - l) (t + 1 - l), .int .i64 (p + (l : Int)), .slice none 0 0]) (by simp [results, Try.results70, go_sem, *]) rfl ⟨_, rfl, ?_, hfin _ rfl⟩
            rw [HN.out]
            exact T.out _ (HS.out.below (hfin _ rfl))
theorem dWordAt (s : Value) (ws : List Int) (i : Int) (B : Nat) (w : World) (hs : SeesW w B s ws) (hl : ws.length ≤ 1000000) (i0 : -1000000 ≤ i) (i1 : i ≤ 1000000) :
    Calls Try.prog 120 #[s, .int .i64 i] w fun e w' => e = .returned (.int .u64 (if i < 0 then 0 else ws[i.toNat]?.getD 0)) ∧ w' = w := by
  by_cases hi : i < 0
  · rw [if_pos hi]
    obtain ⟨a, c, rfl⟩ := hs.len
    go_enter Try.func120, Try.ntmps120
    go_wp2
    go_ret
    exact ⟨rfl, rfl⟩
  · rw [if_neg hi]
    obtain ⟨j, rfl⟩ : ∃ j : Nat, i = j := ⟨i.toNat, by omega⟩
    rw [Int.toNat_natCast]
    by_cases hj : j < ws.length
    · rcases hs with ⟨_, rfl⟩ | ⟨⟨b, o, c, rfl, h1, h2, h3, h4⟩, _⟩
      · simp at hj
      · have q := h4 j hj
        clear h4
        unfold maxLen at h3
        go_enter Try.func120, Try.ntmps120
        go_wp2
        go_ret
        exact ⟨rfl, rfl⟩
    · rw [List.getElem?_eq_none (by omega), Option.getD_none]
      obtain ⟨a, c, rfl⟩ := hs.len
      have hj' : ws.length ≤ j := by omega
      go_enter Try.func120, Try.ntmps120
      go_wp2
      go_ret
      exact ⟨rfl, rfl⟩
end Go.Proofs.Ytokgfeeaoioegaa
