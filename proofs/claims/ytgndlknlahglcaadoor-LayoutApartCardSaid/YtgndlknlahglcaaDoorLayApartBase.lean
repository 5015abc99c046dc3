/- Statement LayoutApart: the marks of the statement: which locations were named, and by whom each line. -/
import Derived.Test.YtgndlknlahglcaaDoorLayLaw
import Derived.Test.YtgndlknlahglcaaDoorLayBitsWalk
import Derived.Maps.StringElems
import Derived.Laws.IdiomStrings
namespace Go.Proofs.YtgndlknlahglcaaDoor.layoutApart
open Go.ChangeShapes Go.WideShapes Go.ChangeAt Go.RowKit Go.Maps
open Go.Proofs.YtgndlknlahglcaaDoor.layoutBits (owns_below At.only ne_key isKey ok_small)

def dgt (d : Nat) : UInt8 := UInt8.ofNat (48 + d)
theorem dgt_nat (d : Nat) (h : d < 100) : ((dgt d).toNat : Int) = 48 + (d : Int) := by
  have : (dgt d).toNat = 48 + d := by
    unfold dgt
    rw [UInt8.toNat_ofNat']
    omega
  rw [this]; omega
/-- Whose line l is. -/
def ownL (T C B l : Nat) : List UInt8 :=
  if l = 0 then [97, 108, 108] else if l ≤ T then [116, dgt l] else if l ≤ 2 * T then [116, dgt (l - T)]
  else if l < startL T C B 4 / 8 then [99, 101, 108, 108, 115] else if l < startL T C B 5 / 8 then [116, dgt ((l - startL T C B 4 / 8) / 13 + 1)]
  else [98, dgt ((l - startL T C B 6 / 8) / 4)]
/-- In which order the locations are named. -/
def rank (T C B x : Nat) : Nat :=
  if x < 8 then x else if x < 8 + 8 * T then ((x - 8) / 8 + 1) * 1000 + (x - 8) % 8 else if x < 8 + 16 * T then ((x - (8 + 8 * T)) / 8 + 1) * 1000 + 2 + (x - (8 + 8 * T)) % 8
  else if x < startL T C B 4 then 10000 + (x - (8 + 16 * T)) else if x < startL T C B 5 then ((x - startL T C B 4) / 104 + 1) * 1000 + 10 + (x - startL T C B 4) % 104
  else if x < startL T C B 6 then 15000 else 20000 + (x - startL T C B 6)
/-- No location from rank r on was named. -/
structure MetD (T C B r : Nat) (D : DataW Unit) : Prop where
  m : IsMap D
  a : ∀ p : Nat, r ≤ rank T C B p → D.atKey (.int .i64 p) (.lit (.bool false)) = .lit (.bool false)
/-- Each line is nobody's yet, or its owner's. -/
structure LineD (T C B : Nat) (D : DataW Unit) : Prop where
  m : IsMap D
  a : ∀ l : Nat, D.atKey (.int .i64 l) (.lit (.string [])) = .lit (.string []) ∨ D.atKey (.int .i64 l) (.lit (.string [])) = .lit (.string (ownL T C B l))
theorem MetD.nil (T C B r : Nat) : MetD T C B r (.map []) := ⟨⟨[], rfl⟩, fun _ _ => rfl⟩
theorem LineD.nil (T C B : Nat) : LineD T C B (.map []) := ⟨⟨[], rfl⟩, fun _ => .inl rfl⟩
theorem MetD.step {T C B r p : Nat} {D : DataW Unit} (h : MetD T C B r D) (hp : r ≤ rank T C B p) {r' : Nat} (hr : rank T C B p < r') : MetD T C B r' (D.put (.int .i64 p) (.lit (.bool true))) := by
  refine ⟨by obtain ⟨es, rfl⟩ := h.m; exact ⟨_, rfl⟩, fun q hq => ?_⟩
  have hne : (q : Int) ≠ (p : Int) := by
    intro e
    have : q = p := by omega
    subst this; omega
  rw [atKey_put_other (ne_key hne)]
  exact h.a q (by omega)
theorem LineD.step {T C B l : Nat} {D : DataW Unit} (h : LineD T C B D) : LineD T C B (D.put (.int .i64 l) (.lit (.string (ownL T C B l)))) := by
  refine ⟨by obtain ⟨es, rfl⟩ := h.m; exact ⟨_, rfl⟩, fun q => ?_⟩
  by_cases e : q = l
  · subst e
    rw [atKey_put_same h.m (isKey _)]
    exact .inr rfl
  · rw [atKey_put_other (ne_key (by omega))]
    exact h.a q
theorem lawL : Keyed Tryd.prog 32 := int_keyed Tryd.underlying32
theorem lawI : Keyed Tryd.prog 3 := int_keyed Tryd.underlying3
theorem zeroB (w : World) : (zeroValue 4).run Tryd.prog w = .ok (.bool false) w := by kernel_rfl
theorem zeroS (w : World) : (zeroValue 9).run Tryd.prog w = .ok (.string ⟨#[]⟩) w := by kernel_rfl
theorem key_loc (p : Nat) (h : p < 100000) : keyOf Tryd.prog 32 (.int .i64 p) = some (.int .i64 p) := keyOf_int_mk Tryd.underlying32 (WalkArith.wf_i64 (by omega))
theorem key_int (p : Nat) (h : p < 100000) : keyOf Tryd.prog 3 (.int .i64 p) = some (.int .i64 p) := keyOf_int_mk Tryd.underlying3 (WalkArith.wf_i64 (by omega))
/-- The statement's marks: the boxes of the layout (n), of the two maps (n1, n2) and of the answer (n3), and the maps themselves (b1, b2). -/
structure NS (T C B r : Nat) (n n1 n2 n3 b1 b2 k : Nat) (w W : World) : Prop where
  a : At T C B n w W
  c1 : Box W n1 #[.map (some b1)] 51
  c2 : Box W n2 #[.map (some b2)] 52
  c3 : Box W n3 #[.bool true] 4
  m1 : ∃ D, W.ownsMap Tryd.prog 32 (plainElem (H := Unit) Tryd.prog 4) b1 k D ∧ MetD T C B r D
  m2 : ∃ D, W.ownsMap Tryd.prog 3 (plainElem (H := Unit) Tryd.prog 9) b2 k D ∧ LineD T C B D
  ord : 0 < w.heap.size ∧ w.heap.size ≤ n ∧ n < b1 ∧ b1 < b2 ∧ b2 < n1 ∧ n1 < n2 ∧ n2 < n3
theorem NS.below {T C B r n n1 n2 n3 b1 b2 k : Nat} {w W W1 : World} (h : NS T C B r n n1 n2 n3 b1 b2 k w W) (hb : Below W.heap.size W W1) : NS T C B r n n1 n2 n3 b1 b2 k w W1 := by
  obtain ⟨D1, o1, d1⟩ := h.m1
  obtain ⟨D2, o2, d2⟩ := h.m2
  exact ⟨h.a.below hb, h.c1.below hb, h.c2.below hb, h.c3.below hb, ⟨D1, owns_below o1 hb, d1⟩, ⟨D2, owns_below o2 hb, d2⟩, h.ord⟩
theorem NS.lift {T C B r r' n n1 n2 n3 b1 b2 k : Nat} {w W : World} (h : NS T C B r n n1 n2 n3 b1 b2 k w W) (hr : r ≤ r') : NS T C B r' n n1 n2 n3 b1 b2 k w W := by
  obtain ⟨D1, o1, d1⟩ := h.m1
  exact ⟨h.a, h.c1, h.c2, h.c3, ⟨D1, o1, d1.m, fun p hp => d1.a p (by omega)⟩, h.m2, h.ord⟩
theorem NS.met {T C B r n n1 n2 n3 b1 b2 k : Nat} {w W : World} (h : NS T C B r n n1 n2 n3 b1 b2 k w W) (p : Nat) (hp : r ≤ rank T C B p) (h9 : p < 100000) : (Instr.lookup 51 (.map (some b1)) (.int .i64 p) false).run Tryd.prog W = .ok (.bool false) W := by
  obtain ⟨D1, o1, d1⟩ := h.m1
  obtain ⟨v, ps, hrun, hv⟩ := o1.lookup lawL Tryd.underlying51 (zeroB W) (plainElem_bool Tryd.underlying4 false) (key_loc p h9)
  rw [d1.a p hp] at hv
  have : v = .bool false := by
    unfold plainElem at hv
    rw [Tryd.underlying4] at hv
    cases v <;> simp at hv
    rw [hv.1]
  rw [this] at hrun
  exact hrun
theorem line_at {k l b2 : Nat} {D2 : DataW Unit} {W : World} (o2 : W.ownsMap Tryd.prog 3 (plainElem (H := Unit) Tryd.prog 9) b2 k D2) (h9 : l < 100000) (u : List UInt8) (hu : D2.atKey (.int .i64 l) (.lit (.string [])) = .lit (.string u)) : (Instr.lookup 52 (.map (some b2)) (.int .i64 ((l : Nat) : Int)) false).run Tryd.prog W = .ok (.string ⟨u.toArray⟩) W := by
  obtain ⟨v, ps, hrun, hv⟩ := o2.lookup lawI Tryd.underlying52 (zeroS W) (plainElem_string Tryd.underlying9 (by simp [ByteArray.size])) (key_int l h9)
  obtain ⟨s, rfl, hz, _⟩ := plainElem_string_inv Tryd.underlying9 hv
  simp only [Prod.mk.injEq] at hz
  have h3 : DataW.lit (H := Unit) (.string u) = .lit (.string s.data.toList) := hu.symm.trans hz.1
  injection h3 with h3
  injection h3 with h3
  rw [hrun, h3]
theorem NS.line {T C B r n n1 n2 n3 b1 b2 k : Nat} {w W : World} (h : NS T C B r n n1 n2 n3 b1 b2 k w W) (l : Nat) (h9 : l < 100000) : (∀ W', Below W.heap.size W W' → (Instr.lookup 52 (.map (some b2)) (.int .i64 ((l : Nat) : Int)) false).run Tryd.prog W' = .ok (.string ⟨#[]⟩) W') ∨ (∀ W', Below W.heap.size W W' → (Instr.lookup 52 (.map (some b2)) (.int .i64 ((l : Nat) : Int)) false).run Tryd.prog W' = .ok (.string ⟨(ownL T C B l).toArray⟩) W') := by
  obtain ⟨D2, o2, d2⟩ := h.m2
  rcases d2.a l with e | e
  · exact .inl (fun W' hb => line_at (owns_below o2 hb) h9 _ e)
  · exact .inr (fun W' hb => line_at (owns_below o2 hb) h9 _ e)
theorem box_grown {W W1 : World} {c b : Nat} {cs : Array Value} {t : TypeId} (h : Box W c cs t) (hg : W.grownBy W1 (some b)) (hne : c ≠ b) : Box W1 c cs t := (hg.block c h.lt (fun e => hne (by injection e))).trans h
theorem grown_below {W W1 : World} {b : Nat} (hg : W.grownBy W1 (some b)) (hb : b ≤ W.heap.size) : Below b W W1 := (Below.refl _ _).grown hg hb (fun j hj => by cases hj; exact Nat.le_refl _)
theorem NS.one {T C B r r' n n1 n2 n3 b1 b2 k p : Nat} {w W W1 : World} {D : DataW Unit} (h : NS T C B r n n1 n2 n3 b1 b2 k w W) (ho : W1.ownsMap Tryd.prog 32 (plainElem (H := Unit) Tryd.prog 4) b1 (k + 1) (D.put (.int .i64 p) (.lit (.bool true)))) (hd : MetD T C B r D) (hlt : b1 < W.heap.size) (hg : W.grownBy W1 (some b1)) (hp : r ≤ rank T C B p) (hr : rank T C B p < r') : NS T C B r' n n1 n2 n3 b1 b2 (k + 1) w W1 := by
  obtain ⟨o0, o1, o2, o3, o4, o5, o6⟩ := h.ord
  obtain ⟨D2, p2, d2⟩ := h.m2
  refine ⟨At.only h.a (grown_below hg (by omega)) (by omega) (by omega) (by omega), box_grown h.c1 hg (by omega), box_grown h.c2 hg (by omega), box_grown h.c3 hg (by omega), ⟨_, ho, hd.step hp hr⟩, ⟨D2, (p2.kept hg (fun e => by injection e with e; omega)).mono (by omega), d2⟩, h.ord⟩
theorem NS.two {T C B r n n1 n2 n3 b1 b2 k l : Nat} {w W W1 : World} {D : DataW Unit} (h : NS T C B r n n1 n2 n3 b1 b2 k w W) (ho : W1.ownsMap Tryd.prog 3 (plainElem (H := Unit) Tryd.prog 9) b2 (k + 1) (D.put (.int .i64 l) (.lit (.string (ownL T C B l))))) (hd : LineD T C B D) (hlt : b2 < W.heap.size) (hg : W.grownBy W1 (some b2)) : NS T C B r n n1 n2 n3 b1 b2 (k + 1) w W1 := by
  obtain ⟨o0, o1, o2, o3, o4, o5, o6⟩ := h.ord
  obtain ⟨D1, p1, d1⟩ := h.m1
  refine ⟨At.only h.a (grown_below hg (by omega)) (by omega) (by omega) (by omega), box_grown h.c1 hg (by omega), box_grown h.c2 hg (by omega), box_grown h.c3 hg (by omega), ⟨D1, (p1.kept hg (fun e => by injection e with e; omega)).mono (by omega), d1⟩, ⟨_, ho, hd.step⟩, h.ord⟩
theorem owns_belowN {w w1 : World} {m b n : Nat} {D : DataW Unit} {kt : TypeId} {R : Value → Option (DataW Unit × List MemPlace)} (h : w.ownsMap Tryd.prog kt R b n D) (hb : Below m w w1) (hm : b < m) : w1.ownsMap Tryd.prog kt R b n D := by
  obtain ⟨es, clock, hk, F, hs, hD⟩ := h
  exact ⟨es, clock, (hb.block b hm).trans hk, F, hs, hD⟩
theorem NS.put {T C B r n n1 n2 n3 b1 b2 k : Nat} {w W : World} (h : NS T C B r n n1 n2 n3 b1 b2 k w W) : NS T C B r n n1 n2 n3 b1 b2 k w (W.setCell ⟨n3, 0, none⟩ (.bool true)) := by
  obtain ⟨o0, o1, o2, o3, o4, o5, o6⟩ := h.ord
  obtain ⟨D1, p1, d1⟩ := h.m1
  obtain ⟨D2, p2, d2⟩ := h.m2
  have hb : Below n3 W (W.setCell ⟨n3, 0, none⟩ (.bool true)) := (Below.refl n3 W).setCell (Nat.le_refl _) _
  exact ⟨At.only h.a hb (by omega) (by omega) (by omega), h.c1.other (by omega) _ _, h.c2.other (by omega) _ _, h.c3.set 0 _, ⟨D1, owns_belowN p1 hb (by omega), d1⟩, ⟨D2, owns_belowN p2 hb (by omega), d2⟩, h.ord⟩
end Go.Proofs.YtgndlknlahglcaaDoor.layoutApart
