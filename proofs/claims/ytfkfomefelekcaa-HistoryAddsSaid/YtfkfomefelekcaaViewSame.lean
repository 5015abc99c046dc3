/- The contract of view.Same. -/
import Derived.Test.YtfkfomefelekcaaViewMem
import Derived.OpenShut
import Derived.WalkKit
import Derived.WalkSpells
import Derived.WalkLawsBesides
import Derived.Carry
import Derived.Lib.Hide
import Derived.Maps.Own
import Derived.Maps.OwnOps
import Derived.Maps.OwnSet
import Derived.Maps.RangeWalk
import Derived.Maps.Ext
import Derived.Deep.LoopGhost
namespace Go.Proofs.Ytfkfomefelekcaa
open Go.RowKit Go.Shelf Go.Maps

/-- Two elements read as the same number. -/
def eqI : DataW Unit → DataW Unit → Bool
  | .lit (.int _ x), .lit (.int _ y) => x == y
  | _, _ => false

theorem neq_int (W : World) (x y : Value) (xd yd : DataW Unit) (xp yp : List MemPlace) (hx : plainElem Try.prog 3 x = some (xd, xp)) (hy : plainElem Try.prog 3 y = some (yd, yp)) :
    (binOp .neq 3 x y).run Try.prog W = .ok (.bool (!eqI xd yd)) W ∧ ∀ (a b : Operand), (eqGuard .neq 3 a b x y).run Try.prog W = .ok () W := by
  obtain ⟨a, rfl, h1, _⟩ := plainElem_int_inv Try.underlying3 hx
  obtain ⟨b, rfl, h2, _⟩ := plainElem_int_inv Try.underlying3 hy
  obtain rfl : xd = .lit (.int .i64 a) := by simpa using (congrArg Prod.fst h1)
  obtain rfl : yd = .lit (.int .i64 b) := by simpa using (congrArg Prod.fst h2)
  refine ⟨?_, fun _ _ => by rw [eqGuard_at_int]; rfl⟩
  simp [go_sem, eqI, binOp]
  rfl

theorem sub_cons {p q : Int × Int} {r s : List (Int × Int)} (ha : Rising (p :: r)) (hb : Rising (q :: s)) (h : ∀ x ∈ p :: r, x ∈ q :: s) : (p = q ∧ ∀ x ∈ r, x ∈ s) ∨ (∀ x ∈ p :: r, x ∈ s) := by
  have ra := (rising_cons.1 ha).1
  have rb := (rising_cons.1 hb).1
  rcases List.mem_cons.1 (h p (by simp)) with e | hp
  · refine .inl ⟨e, fun x hx => ?_⟩
    rcases List.mem_cons.1 (h x (by simp [hx])) with e2 | h2
    · have := ra x hx
      rw [e2, ← e] at this; omega
    · exact h2
  · refine .inr fun x hx => ?_
    rcases List.mem_cons.1 (h x hx) with e2 | h2
    · have h3 := rb p hp
      rcases List.mem_cons.1 hx with e4 | h4
      · rw [← e4, e2] at h3; omega
      · have := ra x h4
        rw [e2] at this; omega
    · exact h2

theorem sub_len : ∀ (b a : List (Int × Int)), Rising a → Rising b → (∀ x ∈ a, x ∈ b) → a.length ≤ b.length
  | [], [], _, _, _ => Nat.le_refl _
  | [], p :: r, _, _, h => by have := h p (by simp); simp at this
  | q :: s, [], _, _, _ => Nat.zero_le _
  | q :: s, p :: r, ha, hb, h => by
    rcases sub_cons ha hb h with ⟨_, h2⟩ | h2
    · have := sub_len s r (rising_cons.1 ha).2 (rising_cons.1 hb).2 h2
      simp; omega
    · have := sub_len s (p :: r) ha (rising_cons.1 hb).2 h2
      simp at this ⊢; omega

theorem sub_eq : ∀ (b a : List (Int × Int)), Rising a → Rising b → (∀ x ∈ a, x ∈ b) → a.length = b.length → a = b
  | [], [], _, _, _, _ => rfl
  | [], p :: r, _, _, h, _ => by have := h p (by simp); simp at this
  | q :: s, [], _, _, _, hl => by simp at hl
  | q :: s, p :: r, ha, hb, h, hl => by
    rcases sub_cons ha hb h with ⟨e, h2⟩ | h2
    · rw [e, sub_eq s r (rising_cons.1 ha).2 (rising_cons.1 hb).2 h2 (by simpa using hl)]
    · have := sub_len s (p :: r) ha (rising_cons.1 hb).2 h2
      simp at this hl; omega

theorem equal_dat {ma mb : List (Int × Int)} (ha : Ok ma) (hb : Ok mb) : Lib.equalFuncD eqI (dat ma) (dat mb) = decide (ma = mb) := by
  unfold Lib.equalFuncD
  rw [dat_size, dat_size]
  have hall : (Lib.entriesD (dat ma)).all (Lib.goodD eqI (dat mb)) = ma.all fun p => Maps.has (dat mb) (.int .i64 p.1) && (p.2 == atL mb p.1) := by
    show (ma.map fun p => (Lit.int .i64 p.1, (DataW.lit (.int .i64 p.2) : DataW Unit))).all _ = _
    rw [List.all_map]
    congr 1
    funext p
    show (Maps.has (dat mb) (.int .i64 p.1) && eqI (.lit (.int .i64 p.2)) ((dat mb).atKey (.int .i64 p.1) .nil)) = _
    cases h : Maps.has (dat mb) (.int .i64 p.1)
    · rfl
    · rw [Maps.atKey_indep h .nil (.lit (.int .i64 0)), dat_at]; rfl
  rw [hall]
  by_cases e : ma = mb
  · subst e
    simp
    intro a b hp
    refine ⟨?_, (atL_mem ha.1 hp).symm⟩
    rw [dat_has]
    exact List.any_eq_true.2 ⟨(a, b), hp, by simp⟩
  · rw [decide_eq_false e, Bool.and_eq_false_iff]
    by_cases hl : ma.length = mb.length
    · refine .inr ?_
      cases hx : ma.all fun p => Maps.has (dat mb) (.int .i64 p.1) && (p.2 == atL mb p.1)
      · rfl
      · exfalso
        rw [List.all_eq_true] at hx
        apply e
        have hsub : ∀ p ∈ ma, p ∈ mb := fun p hp => by
          have := hx p hp
          simp at this
          obtain ⟨q, hq, eq⟩ := has_mem this.1
          have h2 := atL_mem hb.1 hq
          rw [eq] at h2
          rw [show p = q from Prod.ext eq.symm (by omega)]; exact hq
        exact sub_eq mb ma ha.1 hb.1 hsub hl
    · exact .inl (by simpa using hl)

set_option maxHeartbeats 800000 in
theorem same_any (pa pb : Option Nat) (ma mb : List (Int × Int)) (w : World) (ha : VW w pa ma) (hb : VW w pb mb) :
    Calls Try.prog 16 #[.agg #[.map pa], .agg #[.map pb]] w fun e w' => e = .returned (.bool (decide (ma = mb))) ∧ Below w.heap.size w w' := by
  have src : ∀ (p : Option Nat) (m : List (Int × Int)), VW w p m → ∃ D, SrcOf Try.prog 55 (plainElem (H := Unit) Try.prog 3) ((w.alloc (.cells #[.map pa] 36)).alloc (.cells #[.map pb] 36)) p D ∧ Maps.size D = m.length ∧ Lib.entriesD D = Lib.entriesD (dat m) ∧ (∀ k, Maps.has D k = Maps.has (dat m) k) ∧ (∀ k, D.atKey k .nil = (dat m).atKey k .nil) := by
    intro p m h
    obtain ⟨ho, ⟨rfl, rfl⟩ | ⟨b, n, rfl, h2, h3⟩⟩ := h
    · exact ⟨.nil, .inl ⟨rfl, rfl⟩, rfl, rfl, fun _ => rfl, fun _ => rfl⟩
    · exact ⟨dat m, .inr ⟨b, n, rfl, (h3.alloc _).alloc _⟩, dat_size m, rfl, fun _ => rfl, fun _ => rfl⟩
  obtain ⟨D1, s1, z1, e1, _, _⟩ := src pa ma ha
  obtain ⟨D2, s2, z2, _, h2, a2⟩ := src pb mb hb
  have heq : Lib.equalFuncD eqI D1 D2 = decide (ma = mb) := by
    rw [← equal_dat ha.1 hb.1]
    unfold Lib.equalFuncD Lib.goodD
    rw [z1, z2, e1, dat_size, dat_size]
    simp only [h2, a2]
  have hcon : Calls Try.prog 23 #[.map pa, .map pb] ((w.alloc (.cells #[.map pa] 36)).alloc (.cells #[.map pb] 36)) (fun e w' => e = .returned (.bool (Lib.equalFuncD eqI D1 D2)) ∧ ((w.alloc (.cells #[.map pa] 36)).alloc (.cells #[.map pb] 36)).grownBy w' none) :=
    AnyEq.maps_Equal_opt Try.eqL law (plainElem (H := Unit) Try.prog 3) (plainElem (H := Unit) Try.prog 3) eqI pa pb D1 D2 _ s1 s2 (.int .i64 0) Try.zeroValue3 (.lit (.int .i64 0)) [] (plainElem_int Try.underlying3 (by decide)) neq_int
  rw [heq] at hcon
  have HC := Lib.hid hcon
  clear hcon heq src s1 s2 z1 z2 e1 h2 a2 ha hb
  generalize decide (ma = mb) = r at HC ⊢
  go_enter Try.func16, Try.ntmps16
  go_wp2_with fail
  refine HC.out.mono ?_
  rintro e w3 ⟨rfl, hg⟩
  have G := Lib.hid hg
  clear hg HC
  go_wp2
  go_ret
  exact ⟨rfl, (b2 w _ _).grown G.out (by simp; omega) (fun j hj => by cases hj)⟩
end Go.Proofs.Ytfkfomefelekcaa
