/- A memory with addresses and threads, opened: its two rows, its histories, its views. -/
import Derived.Test.YtbaljoehgdhhhaaMem
namespace Go.Proofs.Ytbaljoehgdhhhaa
open Go.RowKit Go.Shelf Go.Maps

abbrev PL := Value × List MP
abbrev VL := Option Nat × List (Int × Int)

/-- The two rows lie in blocks bP and bV; all blocks but the maps' lie below B. -/
structure MO (B bP bV : Nat) (P : List PL) (V : List VL) (W : World) : Prop where
  rp : ∃ t, W.heap[bP]? = some (.cells (P.map (·.1)).toArray t (0, 0))
  rv : ∃ t, W.heap[bV]? = some (.cells (V.map fun x => .map x.1).toArray t (0, 0))
  hp : ∀ x ∈ P, HW W x.1 x.2
  hv : ∀ x ∈ V, VW W x.1 x.2
  ltP : bP < B
  ltV : bV < B
  bh : ∀ x ∈ P, ∀ a n c, x.1 = .slice (some a) n c → a.block < B
  le : B ≤ W.heap.size

theorem MO.below {B bP bV : Nat} {P : List PL} {V : List VL} {W W' : World} (h : MO B bP bV P V W) (hb : Below W.heap.size W W') : MO B bP bV P V W' := by
  obtain ⟨t, ht⟩ := h.rp
  obtain ⟨t', ht'⟩ := h.rv
  exact ⟨⟨t, (hb.block _ (lt_block ht)).trans ht⟩, ⟨t', (hb.block _ (lt_block ht')).trans ht'⟩, fun x hx => (h.hp x hx).below hb, fun x hx => (h.hv x hx).below hb, h.ltP, h.ltV, h.bh, Nat.le_trans h.le hb.size⟩

theorem MO.only {B bP bV b : Nat} {P : List PL} {V : List VL} {W W' : World} {cs : Array Value} {t : TypeId} (h : MO B bP bV P V W) (hx : Box W b cs t) (hb : B ≤ b) (ho : Only b W W') : MO B bP bV P V W' := by
  obtain ⟨t1, ht⟩ := h.rp
  obtain ⟨t2, ht'⟩ := h.rv
  have := h.ltP
  have := h.ltV
  exact ⟨⟨t1, (ho.block _ (by omega)).trans ht⟩, ⟨t2, (ho.block _ (by omega)).trans ht'⟩, fun x hm => (h.hp x hm).only hx (fun a n c e => by have := h.bh x hm a n c e; omega) ho, fun x hm => (h.hv x hm).only hx ho, h.ltP, h.ltV, h.bh, by rw [ho.size]; exact h.le⟩

theorem hw_lt {w : World} {v : Value} {q : List MP} (h : HW w v q) : ∀ a n c, v = .slice (some a) n c → a.block < w.heap.size := by
  rintro a n c rfl
  obtain ⟨_, h | ⟨b', t, e, hk⟩⟩ := h
  · exact absurd h.1 (by simp)
  · simp only [Value.slice.injEq, Option.some.injEq] at e
    rw [e.1]; exact lt_block hk

theorem MO.of {w : World} {pv vv : Value} {M : Mem} (h : MW w pv vv M) (h1 : 0 < M.hs.length) (h2 : 0 < M.vs.length) : ∃ bP bV P V, pv = .slice (some ⟨bP, 0, none⟩) M.hs.length M.hs.length ∧ vv = .slice (some ⟨bV, 0, none⟩) M.vs.length M.vs.length ∧
    P.map (fun x => x.2.map (·.1)) = M.hs ∧ V.map (·.2) = M.vs ∧ MO w.heap.size bP bV P V w := by
  obtain ⟨P, V, r1, h3, h4, r2, h5, h6⟩ := h
  have l1 : P.length = M.hs.length := by rw [← h4, List.length_map]
  have l2 : V.length = M.vs.length := by rw [← h6, List.length_map]
  rcases r1 with ⟨_, e⟩ | ⟨bP, t, rfl, hk⟩
  · exfalso; have : P = [] := by simpa using e
    subst this; simp at l1; omega
  rcases r2 with ⟨_, e⟩ | ⟨bV, t', rfl, hk'⟩
  · exfalso; have : V = [] := by simpa using e
    subst this; simp at l2; omega
  refine ⟨bP, bV, P, V, by rw [List.length_map, l1], by rw [List.length_map, l2], h4, h6, ⟨t, hk⟩, ⟨t', hk'⟩, h3, h5, lt_block hk, lt_block hk', fun x hx => hw_lt (h3 x hx), Nat.le_refl _⟩

theorem MO.to {B bP bV : Nat} {P : List PL} {V : List VL} {W : World} (h : MO B bP bV P V W) {M : Mem} {np nv : Nat} (h1 : P.map (fun x => x.2.map (·.1)) = M.hs) (h2 : V.map (·.2) = M.vs) (e1 : P.length = np) (e2 : V.length = nv) :
    MW W (.slice (some ⟨bP, 0, none⟩) np np) (.slice (some ⟨bV, 0, none⟩) nv nv) M := by
  obtain ⟨t, ht⟩ := h.rp
  obtain ⟨t', ht'⟩ := h.rv
  exact ⟨P, V, .inr ⟨bP, t, by rw [List.length_map, e1], ht⟩, h.hp, h1, .inr ⟨bV, t', by rw [List.length_map, e2], ht'⟩, h.hv, h2⟩

theorem MO.cellP {B bP bV : Nat} {P : List PL} {V : List VL} {W : World} (h : MO B bP bV P V W) {i : Nat} {x : PL} (hx : P[i]? = some x) : W.cell? ⟨bP, i, none⟩ = some x.1 := by
  obtain ⟨t, ht⟩ := h.rp
  rw [cell_row ht, List.getElem?_map, hx]; rfl
theorem MO.cellV {B bP bV : Nat} {P : List PL} {V : List VL} {W : World} (h : MO B bP bV P V W) {i : Nat} {x : VL} (hx : V[i]? = some x) : W.cell? ⟨bV, i, none⟩ = some (.map x.1) := by
  obtain ⟨t, ht⟩ := h.rv
  rw [cell_row ht, List.getElem?_map, hx]; rfl
theorem MO.atP {B bP bV : Nat} {P : List PL} {V : List VL} {W : World} (h : MO B bP bV P V W) {i : Nat} {x : PL} (hx : P[i]? = some x) : HW W x.1 x.2 := h.hp x (List.mem_of_getElem? hx)
theorem MO.atV {B bP bV : Nat} {P : List PL} {V : List VL} {W : World} (h : MO B bP bV P V W) {i : Nat} {x : VL} (hx : V[i]? = some x) : VW W x.1 x.2 := h.hv x (List.mem_of_getElem? hx)
theorem MO.rowV {B bP bV : Nat} {P : List PL} {V : List VL} {W : World} (h : MO B bP bV P V W) {nv : Nat} (e2 : V.length = nv) : RW W (.slice (some ⟨bV, 0, none⟩) nv nv) (V.map fun x => .map x.1) := by
  obtain ⟨t', ht'⟩ := h.rv
  exact .inr ⟨bV, t', by rw [List.length_map, e2], ht'⟩
theorem MO.rowP {B bP bV : Nat} {P : List PL} {V : List VL} {W : World} (h : MO B bP bV P V W) {np : Nat} (e1 : P.length = np) : RW W (.slice (some ⟨bP, 0, none⟩) np np) (P.map (·.1)) := by
  obtain ⟨t, ht⟩ := h.rp
  exact .inr ⟨bP, t, by rw [List.length_map, e1], ht⟩
theorem oneV_cells (V : List VL) : ∀ x ∈ V.map (fun x => Value.map x.1), x.oneCell' = true := by
  intro x hx; obtain ⟨y, _, rfl⟩ := List.mem_map.1 hx; rfl
theorem MO.oneP {B bP bV : Nat} {P : List PL} {V : List VL} {W : World} (h : MO B bP bV P V W) : ∀ x ∈ P.map (·.1), x.oneCell' = true := by
  intro x hx
  obtain ⟨y, hy, rfl⟩ := List.mem_map.1 hx
  obtain ⟨a, e, _⟩ := (h.hp y hy).slice
  rw [e]; rfl
theorem row_block {W : World} {b n c : Nat} {cs : List Value} (h : RW W (.slice (some ⟨b, 0, none⟩) n c) cs) : ∃ t, W.heap[b]? = some (.cells cs.toArray t (0, 0)) := by
  rcases h with ⟨e, _⟩ | ⟨b', t, e, hk⟩
  · cases e
  · simp only [Value.slice.injEq, Option.some.injEq, Addr.mk.injEq] at e
    obtain rfl := e.1.1
    exact ⟨t, hk⟩

/-- Another view of one thread. -/
theorem MO.setV {B bP bV bN i n c : Nat} {P : List PL} {V : List VL} {W : World} (h : MO B bP bV P V W) {p : Option Nat} {m : List (Int × Int)} (hr : RW W (.slice (some ⟨bN, 0, none⟩) n c) ((V.map fun x => Value.map x.1).set i (.map p))) (hv : VW W p m) :
    MO W.heap.size bP bN P (V.set i (p, m)) W := by
  obtain ⟨t, ht⟩ := row_block hr
  obtain ⟨t1, ht1⟩ := h.rp
  have hle := h.le
  refine ⟨⟨t1, ht1⟩, ⟨t, ?_⟩, h.hp, fun x hx => ?_, lt_block ht1, lt_block ht, fun x hx => hw_lt (h.hp x hx), Nat.le_refl _⟩
  · rw [ht, List.map_set]
  · rcases List.mem_or_eq_of_mem_set hx with hx | rfl
    · exact h.hv x hx
    · exact hv
/-- Another history of one address. -/
theorem MO.setP {B bP bV bN i n c : Nat} {P : List PL} {V : List VL} {W : World} (h : MO B bP bV P V W) {v : Value} {q : List MP} (hr : RW W (.slice (some ⟨bN, 0, none⟩) n c) ((P.map (·.1)).set i v)) (hq : HW W v q) :
    MO W.heap.size bN bV (P.set i (v, q)) V W := by
  obtain ⟨t, ht⟩ := row_block hr
  obtain ⟨t1, ht1⟩ := h.rv
  refine ⟨⟨t, ?_⟩, ⟨t1, ht1⟩, fun x hx => ?_, h.hv, lt_block ht, lt_block ht1, fun x hx => ?_, Nat.le_refl _⟩
  · rw [ht, List.map_set]
  · rcases List.mem_or_eq_of_mem_set hx with hx | rfl
    · exact h.hp x hx
    · exact hq
  · rcases List.mem_or_eq_of_mem_set hx with hx | rfl
    · exact hw_lt (h.hp x hx)
    · exact hw_lt hq

set_option maxRecDepth 100000 in
theorem at_b (p : Option Nat) (m : List (Int × Int)) (l : Int) (w : World) (h0 : -9223372036854775808 ≤ l) (h1 : l < 9223372036854775808) (hv : VW w p m) :
    Calls Try.prog 19 #[.agg #[.map p], .int .i64 l] w fun e w' => e = .returned (.int .i64 (atL m l)) ∧ Below w.heap.size w w' := by
  refine (at_any p m l w h0 h1 hv).mono ?_
  rintro e w1 ⟨rfl, rfl⟩
  exact ⟨rfl, below_new _ _⟩
theorem len_c (a : Option Addr) (n c : Nat) (w : World) : Calls Try.prog 21 #[.agg #[.slice a n c]] w fun e w' => e = .returned (.int .i64 n) ∧ Below w.heap.size w w' := by
  refine (len_any a n c w).mono ?_
  rintro e w1 ⟨rfl, rfl⟩
  exact ⟨rfl, below_new _ _⟩
set_option maxRecDepth 100000 in
set_option maxHeartbeats 800000 in
theorem newest_any (z : Int) (a : Option Addr) (n c : Nat) (f : Int) (w : World) (hn : n ≤ 1000000) :
    Calls Try.prog 40 #[.agg #[.int .i64 z], .agg #[.slice a n c], .int .i64 f] w fun e w' => e = .returned (.int .i64 ((n : Int) - 1)) ∧ Below w.heap.size w w' := by
  have BB := Lib.hid (b2 w (.cells #[.int .i64 z] 110) (.cells #[.slice a n c] 65))
  go_enter Try.func40, Try.ntmps40
  go_wp2_with fail
  refine (len_c a n c _).mono ?_
  rintro e w1 ⟨rfl, hb⟩
  have BB2 := BB.out.trans (hb.mono BB.out.size)
  clear hb
  have hw : wrap64 ((n : Int) - 1) = (n : Int) - 1 := by rw [← IntWalk.i64_left, IntWalk.i64_in _ (by omega)]
  go_wp2
  go_ret
  exact ⟨by first | rfl | (rw [← hw]; rfl), BB2⟩
set_option maxRecDepth 100000 in
set_option maxHeartbeats 800000 in
theorem chosen_any (z : Int) (a : Option Addr) (n c : Nat) (f : Int) (w : World) (hn : n ≤ 1000000) (f0 : -9223372036854775808 ≤ f) (f1 : f < 9223372036854775808) (z0 : -9223372036854775808 ≤ z) (z1 : z < 9223372036854775808) :
    Calls Try.prog 41 #[.agg #[.int .i64 z], .agg #[.slice a n c], .int .i64 f] w fun e w' => e = .returned (.int .i64 (chooseL n f z)) ∧ Below w.heap.size w w' := by
  have BB := Lib.hid (b2 w (.cells #[.int .i64 z] 110) (.cells #[.slice a n c] 65))
  go_enter Try.func41, Try.ntmps41
  go_wp2_with fail
  refine (choose_any a n c f z _ hn f0 f1 z0 z1).mono ?_
  rintro e w1 ⟨rfl, hb⟩
  have BB2 := BB.out.trans (hb.mono BB.out.size)
  clear hb
  go_wp2
  go_ret
  exact ⟨rfl, BB2⟩
end Go.Proofs.Ytbaljoehgdhhhaa
