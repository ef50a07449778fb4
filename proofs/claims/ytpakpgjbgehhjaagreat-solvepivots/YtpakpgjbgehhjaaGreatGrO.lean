/-
  Texts put together: OrdI NumB DotL.
-/
import Derived.Test.YtpakpgjbgehhjaaGreatProg
import Derived.Test.YtpakpgjbgehhjaaGreatGrA
import Derived.Test.YtpakpgjbgehhjaaGreatGrN
import Derived.Test.YtpakpgjbgehhjaaGreatGrB
import Derived.Deep.RegionHeld3
/-
  A region that draws its order and ends with a store: what a load reads needs to hold only till that store. No conditions.
-/
namespace Go.Proofs.YtpakpgjbgehhjaaGreat
set_option linter.unusedVariables false

section
variable {P : Program} {ops : Array Oper} {Q : Exit → Act → World → Prop} {md : Region.Mode} {T : World → Prop} {z : Nat}

/-- Whatever comes up next: till number z has come up, T holds behind it. -/
def AnyT (P : Program) (md : Region.Mode) (ops : Array Oper) (Q : Exit → Act → World → Prop) (T : World → Prop) (z : Nat) : Nat → Array Bool → Act → World → Prop
  | 0 => fun l a w => Region.ready md ops l = [] ∧ Q .normal a w
  | n + 1 => fun l a w => (Region.ready md ops l = [] → Q .normal a w) ∧ ∀ j ∈ Region.ready md ops l, wpOp P ops Q j (fun b v => (j ≠ z → T v) ∧ AnyT P md ops Q T z n (l.setIfInBounds j true) b v) a w
theorem AnyT.any : ∀ (n : Nat) (l : Array Bool) (a : Act) (w : World), AnyT P md ops Q T z n l a w → wpAny P md ops Q n l a w
  | 0, _, _, _, h => h
  | n + 1, _, _, _, h => ⟨h.1, fun j hj => wpOp_mono (fun b v g => AnyT.any n _ b v g.2) (h.2 j hj)⟩
theorem AnyT.start {id : Nat} {a : Act} {w : World} (hm : P.follows .mixedOrders = true) (h : AnyT P .any ops Q T z ops.size (Array.replicate ops.size false) a w.drew) : (Code.region id ops true).wp P Q a w :=
  wp_region_any hm (AnyT.any _ _ _ _ h)
/-- Number z waits for number i. -/
def waitsB (md : Region.Mode) (ops : Array Oper) (z i : Nat) : Bool := ((ops[z]?).map fun o => o.after.any fun e => Region.binds md e && e.on == i).getD false
theorem waits_not_ready {i : Nat} {l : Array Bool} (hw : waitsB md ops z i = true) (hi : i ∈ Region.ready md ops l) : z ∉ Region.ready md ops l := by
  intro hz
  obtain ⟨_, o, ho, hall⟩ := mem_ready.1 hz
  have hi0 := (mem_ready.1 hi).1
  unfold waitsB at hw
  rw [ho] at hw
  simp only [Option.map_some, Option.getD_some, Array.any_eq_true, Bool.and_eq_true, beq_iff_eq] at hw
  obtain ⟨k, hk, hb, he⟩ := hw
  have := hall _ (Array.getElem_mem hk) hb
  rw [he] at this
  rcases Nat.lt_or_ge i l.size with g | g
  · simp [g] at this hi0
    rw [this] at hi0
    cases hi0
  · simp [Array.getElem?_eq_none g] at this
/-- What yields its value wherever T holds may come up first, if number z waits for it. -/
theorem AnyT.first {i : Nat} {oi : Oper} {v : Value} (hi : ops[i]? = some oi) (hs : Region.noSelect ops = true) (hw : waitsB md ops z i = true)
    (hQ : ∀ c a w, Q (.panic c) (a.put oi.dst v) w → Q (.panic c) a w) (n : Nat) :
    ∀ (l : Array Bool) (a : Act) (w : World), (∀ j oj, ops[j]? = some oj → j ≠ i → l.getD j true = false → (∀ e ∈ oj.after, Region.binds md e = true → e.on ≠ i) → oi.apart ops oj = true) →
      i ∈ Region.ready md ops l → YieldsIf P ops T oi v a → T w → AnyT P md ops Q T z n (l.setIfInBounds i true) (a.put oi.dst v) w → AnyT P md ops Q T z (n + 1) l a w := by
  induction n with
  | zero =>
    intro l a w _ hr hy hT H
    refine ⟨fun e => absurd hr (by rw [e]; exact List.not_mem_nil), fun j hj => ?_⟩
    by_cases e : j = i
    · rw [e]
      exact hy.wpOp hi hT ⟨fun _ => hT, H⟩
    · exact absurd (ready_mono hj e) (by rw [H.1]; exact List.not_mem_nil)
  | succ n ih =>
    intro l a w hf hr hy hT H
    refine ⟨fun e => absurd hr (by rw [e]; exact List.not_mem_nil), fun j hj => ?_⟩
    by_cases e : j = i
    · rw [e]
      exact hy.wpOp hi hT ⟨fun _ => hT, H⟩
    · have jz : j ≠ z := fun g => waits_not_ready hw hr (g ▸ hj)
      obtain ⟨hu, oj, ho, hall⟩ := mem_ready.1 hj
      have away : ∀ x ∈ oj.after, Region.binds md x = true → x.on ≠ i := by
        intro x hx hb g
        have q := hall x hx hb
        have p := (mem_ready.1 hr).1
        rw [g] at q
        rcases Nat.lt_or_ge i l.size with k | k
        · simp [k] at p q
          rw [q] at p
          cases p
        · simp [Array.getElem?_eq_none k] at q
      have step := wpOp_putIf ho (hf j oj ho e hu away) (fun cs b => Region.noSelect_spec hs i oi cs b hi) (fun cs b => Region.noSelect_spec hs j oj cs b ho) hQ hy (H.2 j (ready_mono hj e))
      refine wpOp_mono (fun b u g => ⟨fun _ => g.2.1 jz, ih (l.setIfInBounds j true) b u ?_ (ready_mono hr (Ne.symm e)) g.1 (g.2.1 jz) ?_⟩) step
      · intro k ok hk hki hun
        refine hf k ok hk hki ?_
        by_cases jk : j = k
        · exact jk ▸ hu
        · rwa [getD_set_ne true jk] at hun
      · rw [Array.setIfInBounds_comm _ _ e]
        exact g.2.2
theorem AnyT.take {i : Nat} {oi : Oper} {v : Value} {n : Nat} {l : Array Bool} {a : Act} {w : World} (hi : ops[i]? = some oi) (hs : Region.noSelect ops = true) (hf : Region.free md ops l i = true) (hr : (Region.ready md ops l).contains i = true) (hw : waitsB md ops z i = true)
    (hQ : ∀ c a w, Q (.panic c) (a.put oi.dst v) w → Q (.panic c) a w) (hy : YieldsIf P ops T oi v a) (hT : T w)
    (h : AnyT P md ops Q T z n (l.setIfInBounds i true) (a.put oi.dst v) w) : AnyT P md ops Q T z (n + 1) l a w :=
  AnyT.first hi hs hw hQ n l a w (Region.free_spec hi hf) (by simpa using hr) hy hT h
/-- One alone may come up. -/
theorem AnyT.one {i : Nat} {o : Oper} {n : Nat} {l : Array Bool} {a : Act} {w : World} (hr : Region.ready md ops l = [i]) (ho : ops[i]? = some o)
    (h : ∀ K' : Act → World → Prop, Shut (∀ b v, (i ≠ z → T v) → ((i ≠ z → T v) → AnyT P md ops Q T z n (l.setIfInBounds i true) b v) → K' b v) → if Region.wanted o (yielded ops a.tmps) = true then Oper.wp P o a w K' Q else K' (a.put o.dst undef) w) : AnyT P md ops Q T z (n + 1) l a w := by
  refine ⟨fun e => (by rw [hr] at e; cases e), fun j hj => ?_⟩
  rw [hr] at hj
  obtain rfl : j = i := by simpa using hj
  exact wpOp_step ho (fun K' hK => h K' (fun b v hT hN => hK b v ⟨hT, hN hT⟩))
theorem AnyT.done {n : Nat} {l : Array Bool} {a : Act} {w : World} (hr : Region.ready md ops l = []) (h : Q .normal a w) : AnyT P md ops Q T z n l a w := by
  cases n with
  | zero => exact ⟨hr, h⟩
  | succ n => exact ⟨fun _ => h, fun j hj => absurd hj (by rw [hr]; exact List.not_mem_nil)⟩
end
end Go.Proofs.YtpakpgjbgehhjaaGreat

/-
  Variables that hold a number of package dyad, handed on step by step. No conditions.
-/
namespace Go.Proofs.YtpakpgjbgehhjaaGreat
open Go.RowKit
set_option linter.unusedVariables false
set_option linter.unusedSimpArgs false

theorem BoxF.cells {w : World} {b : Nat} {v0 v1 v2 v3 : Value} (h : BoxF w b v0 v1 v2 v3) : w.cell? ⟨b, 0, none⟩ = some v0 ∧ w.cell? ⟨b, 1, none⟩ = some v1 ∧ w.cell? ⟨b, 2, none⟩ = some v2 ∧ w.cell? ⟨b, 3, none⟩ = some v3 := h.1
theorem BoxF.drew {w : World} {b : Nat} {v0 v1 v2 v3 : Value} (h : BoxF w b v0 v1 v2 v3) : BoxF w.drew b v0 v1 v2 v3 := h.below ((Below.refl _ _).drew)
theorem BoxF.alloc {w : World} {b : Nat} {v0 v1 v2 v3 : Value} (h : BoxF w b v0 v1 v2 v3) (o : Obj) : BoxF (w.alloc o) b v0 v1 v2 v3 := h.below (bmore (Below.refl _ _) o)
theorem BoxF.four {w : World} {b : Nat} {v0 v1 v2 v3 : Value} (h0 : (w.cell? ⟨b, 0, none⟩).isSome = true) (h1 : (w.cell? ⟨b, 1, none⟩).isSome = true) (h2 : (w.cell? ⟨b, 2, none⟩).isSome = true) (h3 : (w.cell? ⟨b, 3, none⟩).isSome = true)
    (f0 : w.frozen? ⟨b, 0, none⟩ = false) (f1 : w.frozen? ⟨b, 1, none⟩ = false) (f2 : w.frozen? ⟨b, 2, none⟩ = false) (f3 : w.frozen? ⟨b, 3, none⟩ = false) (hl : b < w.heap.size) :
    BoxF ((((w.setCell ⟨b, 0, none⟩ v0).setCell ⟨b, 1, none⟩ v1).setCell ⟨b, 2, none⟩ v2).setCell ⟨b, 3, none⟩ v3) b v0 v1 v2 v3 := by
  obtain ⟨u0, e0⟩ := Option.isSome_iff_exists.1 h0
  obtain ⟨u1, e1⟩ := Option.isSome_iff_exists.1 h1
  obtain ⟨u2, e2⟩ := Option.isSome_iff_exists.1 h2
  obtain ⟨u3, e3⟩ := Option.isSome_iff_exists.1 h3
  exact BoxF.put (v0 := u0) (v1 := u1) (v2 := u2) (v3 := u3) ⟨⟨e0, e1, e2, e3⟩, ⟨f0, f1, f2, f3⟩, hl⟩ _ _ _ _
theorem BoxF.puts {w : World} {b g : Nat} {v0 v1 v2 v3 : Value} (h : BoxF w b v0 v1 v2 v3) (hg : g ≠ b) (u0 u1 u2 u3 : Value) : BoxF ((((w.setCell ⟨g, 0, none⟩ u0).setCell ⟨g, 1, none⟩ u1).setCell ⟨g, 2, none⟩ u2).setCell ⟨g, 3, none⟩ u3) b v0 v1 v2 v3 :=
  (((h.other (p := ⟨g, 0, none⟩) hg u0).other (p := ⟨g, 1, none⟩) hg u1).other (p := ⟨g, 2, none⟩) hg u2).other (p := ⟨g, 3, none⟩) hg u3
theorem Tell.drew {w : World} {B : Nat} {v : Value} {k : Nat} {L X : Int} (h : Tell w B v k L X) : Tell w.drew B v k L X := h.below ((Below.refl _ _).drew)
theorem Tell.alloc {w : World} {B : Nat} {v : Value} {k : Nat} {L X : Int} (h : Tell w B v k L X) (o : Obj) : Tell (w.alloc o) B v k L X := h.below (bmore (Below.refl _ _) o)
/-- A store into a block that is younger than all that is told. -/
theorem Tell.young {w w' : World} {B : Nat} {v : Value} {k : Nat} {L X : Int} (h : Tell w B v k L X) (hb : Below w.heap.size w w') : Tell w' B v k L X := h.below hb
theorem URow.puts {w : World} {g : Nat} {a : Option Addr} {len cap : Nat} {Z : Nat → Int} (h : URow w a len cap Z) (hg : Apt (some g) a len) (u0 u1 u2 u3 : Value) : URow ((((w.setCell ⟨g, 0, none⟩ u0).setCell ⟨g, 1, none⟩ u1).setCell ⟨g, 2, none⟩ u2).setCell ⟨g, 3, none⟩ u3) a len cap Z :=
  h.bes (((((Bes.refl (some g) w).set (p := ⟨g, 0, none⟩) (.inr rfl) u0).set (p := ⟨g, 1, none⟩) (.inr rfl) u1).set (p := ⟨g, 2, none⟩) (.inr rfl) u2).set (p := ⟨g, 3, none⟩) (.inr rfl) u3) hg
theorem bes_puts (w : World) (g : Nat) (u0 u1 u2 u3 : Value) : Bes (some g) w ((((w.setCell ⟨g, 0, none⟩ u0).setCell ⟨g, 1, none⟩ u1).setCell ⟨g, 2, none⟩ u2).setCell ⟨g, 3, none⟩ u3) :=
  ((((Bes.refl (some g) w).set (p := ⟨g, 0, none⟩) (.inr rfl) u0).set (p := ⟨g, 1, none⟩) (.inr rfl) u1).set (p := ⟨g, 2, none⟩) (.inr rfl) u2).set (p := ⟨g, 3, none⟩) (.inr rfl) u3
theorem Tell.numform {w : World} {B : Nat} {v : Value} {k : Nat} {L X : Int} (h : Tell w B v k L X) : ∃ n a m c p, v = .agg #[.bool n, .slice a m c, .int .i64 p, .slice none 0 0] ∧ Tell w B (.agg #[.bool n, .slice a m c, .int .i64 p, .slice none 0 0]) k L X := by
  obtain ⟨n, a, m, c, p, rfl⟩ := h.form
  exact ⟨n, a, m, c, p, rfl, h⟩
theorem xv_mul (x y : Int) (hx : mag x < 9218868437227405312) (hy : mag y < 9218868437227405312) : xv x * xv y = sv x * sv y * 268435456 := by
  unfold xv
  rw [if_pos hx, if_pos hy]
  grind
end Go.Proofs.YtpakpgjbgehhjaaGreat

/-
  What the law VecDots compares in the end; powers of two as numbers of package dyad. No conditions.
-/
namespace Go.Proofs.YtpakpgjbgehhjaaGreat
open Go.RowKit
set_option linter.unusedVariables false

theorem dTwoAt (e : Int) (k : Nat) (L X : Int) (w : World) (h0 : -(64 * (k : Int)) ≤ clampT e) (h1 : clampT e / 64 + 2 ≤ L) (h2 : 0 ≤ L) (hX : ((2 ^ (clampT e + 64 * k).toNat : Nat) : Int) = X) :
    Calls Tryz.prog 20 #[.int .i64 e] w fun r w' => ∃ v, r = .returned v ∧ Tell w' w.heap.size v k L X ∧ Below w.heap.size w w' := by
  refine (dTwo e w).mono ?_
  rintro r w' ⟨v, rfl, ht, hb⟩
  exact ⟨v, rfl, (ht k L h0 h1 h2).eq hX, hb⟩
theorem cmp_nonpos (X Y : Int) (h : X ≤ Y) : cmpZ X Y ≤ 0 := by
  unfold cmpZ
  repeat' split
  all_goals omega
theorem two_split (u : Nat) (hu : u = uu) : (2 : Nat) ^ (u + 14) = 2 ^ u * 16384 := by rw [Nat.pow_add]
theorem pw17 : pw 17 = ((2 ^ uu : Nat) : Int) * 16384 := by
  show (18446744073709551616 : Int) ^ 17 = _
  have h : (18446744073709551616 : Int) ^ 17 = ((2 ^ (uu + 14) : Nat) : Int) := by decide +kernel
  rw [h, two_split uu rfl, Int.natCast_mul]
  rfl
theorem pw1 : pw 1 = 18446744073709551616 := by decide
end Go.Proofs.YtpakpgjbgehhjaaGreat
