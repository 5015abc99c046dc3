/- Memories as data: reading and appending. -/
import Derived.Test.YtbaljoehgdhhhaaWrite
namespace Go.Proofs.Ytbaljoehgdhhhaa
open Go.RowKit Go.Shelf Go.Maps

def zeroMsg : Msg := ⟨0, 0, 0, 0, []⟩
def Mem.view (M : Mem) (k : Nat) : List (Int × Int) := M.vs.getD k []
def Mem.hist (M : Mem) (p : Nat) : List Msg := M.hs.getD p []
def Mem.msg (M : Mem) (p i : Nat) : Msg := (M.hist p).getD i zeroMsg
def Mem.readAt (M : Mem) (k p i : Nat) (join : Bool) : Mem :=
  ⟨M.hs, M.vs.set k (if join then joinL (withL (M.view k) p i) (M.msg p i).view else withL (M.view k) p i)⟩
def Mem.writeAt (M : Mem) (k p : Nat) (a b c : Int) (rel : Bool) : Mem :=
  ⟨M.hs.set p (M.hist p ++ [⟨a, b, c, (k : Int) + 1, if rel then withL (M.view k) p (M.hist p).length else withL [] p (M.hist p).length⟩]), M.vs.set k (withL (M.view k) p (M.hist p).length)⟩

structure Mem.Good (N : Nat) (M : Mem) : Prop where
  np : M.hs.length ≤ 4096
  nv : M.vs.length ≤ 8
  hl : ∀ h ∈ M.hs, 0 < h.length ∧ h.length ≤ N

theorem Mem.Good.hist {N : Nat} {M : Mem} (h : M.Good N) {p : Nat} (hp : p < M.hs.length) : 0 < (M.hist p).length ∧ (M.hist p).length ≤ N := by
  refine h.hl _ ?_
  unfold Mem.hist
  rw [List.getD_eq_getElem?_getD, List.getElem?_eq_getElem hp]; exact List.getElem_mem hp
theorem Mem.Good.readAt {N : Nat} {M : Mem} (h : M.Good N) (k p i : Nat) (j : Bool) : (M.readAt k p i j).Good N :=
  ⟨h.np, by simp [Mem.readAt]; exact h.nv, h.hl⟩
theorem Mem.Good.writeAt {N : Nat} {M : Mem} (h : M.Good N) (k p : Nat) (a b c : Int) (r : Bool) (hp : p < M.hs.length) : (M.writeAt k p a b c r).Good (N + 1) := by
  refine ⟨by simp [Mem.writeAt]; exact h.np, by simp [Mem.writeAt]; exact h.nv, fun x hx => ?_⟩
  rcases List.mem_or_eq_of_mem_set hx with hx | rfl
  · have := h.hl x hx; omega
  · have := h.hist hp
    simp; omega
theorem Mem.Good.mono {N N' : Nat} {M : Mem} (h : M.Good N) (hn : N ≤ N') : M.Good N' := ⟨h.np, h.nv, fun x hx => ⟨(h.hl x hx).1, Nat.le_trans (h.hl x hx).2 hn⟩⟩

/-- What lies at an address and a thread of an opened memory. -/
theorem MO.pick {B bP bV : Nat} {P : List PL} {V : List VL} {W : World} (h : MO B bP bV P V W) {M : Mem} (h1 : P.map (fun x => x.2.map (·.1)) = M.hs) (h2 : V.map (·.2) = M.vs) {k p : Nat} (hk : k < M.vs.length) (hp : p < M.hs.length) :
    ∃ ha q vp, P[p]? = some (.slice ha q.length q.length, q) ∧ q.map (·.1) = M.hist p ∧ q.length = (M.hist p).length ∧ V[k]? = some (vp, M.view k) := by
  have lp : p < P.length := by rw [← h1] at hp; simpa using hp
  have lk : k < V.length := by rw [← h2] at hk; simpa using hk
  have ep := List.getElem?_eq_getElem lp
  have ek := List.getElem?_eq_getElem lk
  obtain ⟨ha, e, _⟩ := (h.atP ep).slice
  have e1 : (P[p].2).map (·.1) = M.hist p := by
    unfold Mem.hist
    rw [← h1, List.getD_eq_getElem?_getD, List.getElem?_map, ep]; rfl
  refine ⟨ha, P[p].2, V[k].1, ?_, e1, by rw [← e1, List.length_map], ?_⟩
  · rw [ep, ← e]
  · rw [ek]
    have : M.view k = V[k].2 := by
      unfold Mem.view
      rw [← h2, List.getD_eq_getElem?_getD, List.getElem?_map, ek]; rfl
    rw [this]

/-- A message of an address. -/
theorem q_msg {q : List MP} {l : List Msg} (h : q.map (·.1) = l) {i : Nat} (hi : i < q.length) : ∃ xp, q[i]? = some (l.getD i zeroMsg, xp) := by
  refine ⟨q[i].2, ?_⟩
  have : l.getD i zeroMsg = q[i].1 := by
    rw [← h, List.getD_eq_getElem?_getD, List.getElem?_map, List.getElem?_eq_getElem hi]; rfl
  rw [List.getElem?_eq_getElem hi, this]

/-- A memory whose blocks of cells lie where D allows. -/
def MD (D : Nat → Prop) (w : World) (pv vv : Value) (M : Mem) : Prop := ∃ (P : List PL) (V : List VL),
  RW w pv (P.map (·.1)) ∧ (∀ x ∈ P, HW w x.1 x.2) ∧ P.map (fun x => x.2.map (·.1)) = M.hs ∧
  RW w vv (V.map fun x => .map x.1) ∧ (∀ x ∈ V, VW w x.1 x.2) ∧ V.map (·.2) = M.vs ∧
  (∀ a n c, pv = .slice (some a) n c → D a.block) ∧ (∀ a n c, vv = .slice (some a) n c → D a.block) ∧ ∀ x ∈ P, ∀ a n c, x.1 = .slice (some a) n c → D a.block
theorem MD.mw {D : Nat → Prop} {w : World} {pv vv : Value} {M : Mem} (h : MD D w pv vv M) : MW w pv vv M := by
  obtain ⟨P, V, h1, h2, h3, h4, h5, h6, _⟩ := h
  exact ⟨P, V, h1, h2, h3, h4, h5, h6⟩
theorem MD.below {D : Nat → Prop} {w w1 : World} {pv vv : Value} {M : Mem} (h : MD D w pv vv M) (hb : Below w.heap.size w w1) : MD D w1 pv vv M := by
  obtain ⟨P, V, h1, h2, h3, h4, h5, h6, h7⟩ := h
  exact ⟨P, V, h1.below hb, fun x hx => (h2 x hx).below hb, h3, h4.below hb, fun x hx => (h5 x hx).below hb, h6, h7⟩
theorem MD.imp {D D' : Nat → Prop} {w : World} {pv vv : Value} {M : Mem} (h : MD D w pv vv M) (hi : ∀ b, D b → D' b) : MD D' w pv vv M := by
  obtain ⟨P, V, h1, h2, h3, h4, h5, h6, h7, h8, h9⟩ := h
  exact ⟨P, V, h1, h2, h3, h4, h5, h6, fun a n c e => hi _ (h7 a n c e), fun a n c e => hi _ (h8 a n c e), fun x hx a n c e => hi _ (h9 x hx a n c e)⟩
theorem MD.only {D : Nat → Prop} {w w1 : World} {pv vv : Value} {M : Mem} {b : Nat} {cs : Array Value} {t : TypeId} (h : MD D w pv vv M) (hx : Box w b cs t) (hb : ¬ D b) (ho : Only b w w1) : MD D w1 pv vv M := by
  obtain ⟨P, V, h1, h2, h3, h4, h5, h6, h7, h8, h9⟩ := h
  refine ⟨P, V, ?_, fun x hm => (h2 x hm).only hx (fun a n c e e2 => hb (e2 ▸ h9 x hm a n c e)) ho, h3, ?_, fun x hm => (h5 x hm).only hx ho, h6, h7, h8, h9⟩
  · rcases h1 with h1 | ⟨b1, t1, e, hk⟩
    · exact .inl h1
    · exact .inr ⟨b1, t1, e, (ho.block b1 (fun e2 => hb (e2 ▸ h7 _ _ _ e))).trans hk⟩
  · rcases h4 with h1 | ⟨b1, t1, e, hk⟩
    · exact .inl h1
    · exact .inr ⟨b1, t1, e, (ho.block b1 (fun e2 => hb (e2 ▸ h8 _ _ _ e))).trans hk⟩
theorem MO.ofD {D : Nat → Prop} {w : World} {pv vv : Value} {M : Mem} (h : MD D w pv vv M) (h1 : 0 < M.hs.length) (h2 : 0 < M.vs.length) : ∃ bP bV P V, pv = .slice (some ⟨bP, 0, none⟩) M.hs.length M.hs.length ∧ vv = .slice (some ⟨bV, 0, none⟩) M.vs.length M.vs.length ∧
    P.map (fun x => x.2.map (·.1)) = M.hs ∧ V.map (·.2) = M.vs ∧ MO w.heap.size bP bV P V w ∧ (D bP ∧ D bV ∧ ∀ x ∈ P, ∀ a n c, x.1 = .slice (some a) n c → D a.block) := by
  obtain ⟨P, V, r1, h3, h4, r2, h5, h6, h7, h8, h9⟩ := h
  have l1 : P.length = M.hs.length := by rw [← h4, List.length_map]
  have l2 : V.length = M.vs.length := by rw [← h6, List.length_map]
  rcases r1 with ⟨_, e⟩ | ⟨bP, t, rfl, hk⟩
  · exfalso; have : P = [] := by simpa using e
    subst this; simp at l1; omega
  rcases r2 with ⟨_, e⟩ | ⟨bV, t', rfl, hk'⟩
  · exfalso; have : V = [] := by simpa using e
    subst this; simp at l2; omega
  exact ⟨bP, bV, P, V, by rw [List.length_map, l1], by rw [List.length_map, l2], h4, h6, ⟨⟨t, hk⟩, ⟨t', hk'⟩, h3, h5, lt_block hk, lt_block hk', fun x hx => hw_lt (h3 x hx), Nat.le_refl _⟩, h7 _ _ _ rfl, h8 _ _ _ rfl, h9⟩
theorem MO.toD {D : Nat → Prop} {B bP bV : Nat} {P : List PL} {V : List VL} {W : World} (h : MO B bP bV P V W) {M : Mem} {np nv : Nat} (h1 : P.map (fun x => x.2.map (·.1)) = M.hs) (h2 : V.map (·.2) = M.vs) (e1 : P.length = np) (e2 : V.length = nv)
    (d1 : D bP) (d2 : D bV) (d3 : ∀ x ∈ P, ∀ a n c, x.1 = .slice (some a) n c → D a.block) :
    MD D W (.slice (some ⟨bP, 0, none⟩) np np) (.slice (some ⟨bV, 0, none⟩) nv nv) M := by
  obtain ⟨t, ht⟩ := h.rp
  obtain ⟨t', ht'⟩ := h.rv
  exact ⟨P, V, .inr ⟨bP, t, by rw [List.length_map, e1], ht⟩, h.hp, h1, .inr ⟨bV, t', by rw [List.length_map, e2], ht'⟩, h.hv, h2, fun a n c e => by cases e; exact d1, fun a n c e => by cases e; exact d2, d3⟩
/-- What D becomes behind an operation. -/
def Dn (D : Nat → Prop) (w : World) : Nat → Prop := fun b => D b ∨ w.heap.size ≤ b

def wordV (x : Msg) : Value := .agg #[.int .i64 x.val, .int .u32 x.ver, .int .u32 x.ref]
end Go.Proofs.Ytbaljoehgdhhhaa
