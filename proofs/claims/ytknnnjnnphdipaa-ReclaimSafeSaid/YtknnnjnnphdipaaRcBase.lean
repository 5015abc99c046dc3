/- Slices of ints and of items as lists, boxes, rows of one's own; append and sort on them. -/
import Derived.Test.YtknnnjnnphdipaaRcPlain
import Derived.Test.YtknnnjnnphdipaaRcShelf
import Derived.WalkKit
import Derived.WalkSpells
import Derived.WalkLawsBesides
import Derived.ProofKit
import Derived.OpenShut
import Derived.Lib.Hide
import Derived.IntWalk
import Derived.Deep.LoopGhost
import Derived.Deep.RegionHeld3
import Derived.Deep.AppendLies
import Derived.Deep.AppendSrc
import Derived.Deep.Upon
import Derived.Carry
import Derived.Maps.Own
import Derived.Maps.OwnOps
import Derived.Maps.OwnSet
import Derived.Handy
import Derived.Sort.OwnSortedInts
namespace Go.Proofs.Ytknnnjnnphdipaa
open Go.ChangeShapes Go.WideShapes Go.ChangeAt Go.RowKit Go.Maps

/-- The cells of block b from off on read as the ints L. -/
def Rd (w : World) (b off : Nat) (L : List Int) : Prop :=
  ∀ i, i < L.length → w.cell? ⟨b, off + i, none⟩ = some (.int .i64 (L.getD i 0))
/-- The slice v reads as the ints L. -/
def IS (w : World) (v : Value) (L : List Int) : Prop :=
  ∃ a cap, v = .slice a L.length cap ∧ L.length ≤ cap ∧ (L = [] ∨ ∃ b off, a = some ⟨b, off, none⟩ ∧ b < w.heap.size ∧ Rd w b off L)
theorem IS.below {w w1 : World} {v : Value} {L : List Int} (h : IS w v L) (hb : Below w.heap.size w w1) : IS w1 v L := by
  obtain ⟨a, cap, hv, hcap, h | ⟨b, off, ha, hl, hc⟩⟩ := h
  · exact ⟨a, cap, hv, hcap, .inl h⟩
  · exact ⟨a, cap, hv, hcap, .inr ⟨b, off, ha, Nat.lt_of_lt_of_le hl hb.size, fun i hi => (hb.cell hl).trans (hc i hi)⟩⟩
theorem IS.nil (w : World) (a : Option Addr) (cap : Nat) : IS w (.slice a 0 cap) [] := ⟨a, cap, rfl, Nat.zero_le _, .inl rfl⟩
theorem below1 (w : World) (o : Obj) : Below w.heap.size w (w.alloc o) := (Below.refl _ _).alloc (Nat.le_refl _) o
theorem below_drewN {B : Nat} {a w : World} (h : Below B a w) (n : Nat) : Below B a (w.drewN n) := ⟨h.os, h.tape, h.output, h.size, h.block⟩
theorem lt_block {w : World} {b : Nat} {o : Obj} (h : w.heap[b]? = some o) : b < w.heap.size := (Array.getElem?_eq_some_iff.1 h).1
theorem blk1 (w : World) (a : Obj) {n : Nat} (hn : n = w.heap.size) : (w.alloc a).heap[n]? = some a := by subst hn; exact heap_alloc_new ..
theorem blkS {w : World} {a : Obj} {n : Nat} {o : Obj} (h : w.heap[n]? = some o) : (w.alloc a).heap[n]? = some o := by
  rw [Below.heap_alloc _ _ _ (lt_block h)]; exact h
/-- Block b holds just these cells, none of them frozen. -/
def Box (w : World) (b : Nat) (cs : Array Value) (t : TypeId) : Prop := w.heap[b]? = some (.cells cs t (0, 0))
theorem Box.lt {w : World} {b : Nat} {cs : Array Value} {t : TypeId} (h : Box w b cs t) : b < w.heap.size := lt_block h
theorem Box.below {w w1 : World} {b : Nat} {cs : Array Value} {t : TypeId} (h : Box w b cs t) (hb : Below w.heap.size w w1) : Box w1 b cs t := (hb.block b h.lt).trans h
theorem Box.cell {w : World} {b : Nat} {cs : Array Value} {t : TypeId} (h : Box w b cs t) (j : Nat) : w.cell? ⟨b, j, none⟩ = cs[j]? := by
  unfold World.cell?
  simp [show w.heap[b]? = _ from h]
theorem Box.free {w : World} {b : Nat} {cs : Array Value} {t : TypeId} (h : Box w b cs t) (j : Nat) : w.frozen? ⟨b, j, none⟩ = false := by
  unfold World.frozen?
  simp [show w.heap[b]? = _ from h]
theorem Box.new (w : World) (cs : Array Value) (t : TypeId) {n : Nat} (hn : n = w.heap.size) : Box (w.alloc (.cells cs t)) n cs t := blk1 w _ hn
theorem Box.alloc {w : World} {b : Nat} {cs : Array Value} {t : TypeId} (h : Box w b cs t) (o : Obj) : Box (w.alloc o) b cs t := blkS h
theorem Box.drewN {w : World} {b : Nat} {cs : Array Value} {t : TypeId} (h : Box w b cs t) (n : Nat) : Box (w.drewN n) b cs t := h
theorem Box.set {w : World} {b : Nat} {cs : Array Value} {t : TypeId} (h : Box w b cs t) (j : Nat) (u : Value) : Box (w.setCell ⟨b, j, none⟩ u) b (cs.setIfInBounds j u) t := by
  unfold Box at *
  unfold World.setCell
  simp only
  rw [Array.getElem?_modify, if_pos rfl, h]
  rfl
theorem Box.other {w : World} {b : Nat} {cs : Array Value} {t : TypeId} (h : Box w b cs t) {b' : Nat} (hb : b ≠ b') (j : Nat) (u : Value) : Box (w.setCell ⟨b', j, none⟩ u) b cs t := by
  unfold Box at *
  rw [Below.heap_setCell _ _ _ _ (by simpa using hb)]; exact h
theorem Box.one {w : World} {b : Nat} {u : Value} {t : TypeId} (h : Box w b #[u] t) : w.cell? ⟨b, 0, none⟩ = some u ∧ w.frozen? ⟨b, 0, none⟩ = false := ⟨h.cell 0, h.free 0⟩
theorem Box.ne {w : World} {b c : Nat} {x y : Array Value} {t s : TypeId} (h : Box w b x t) (h' : Box w c y s) (hts : t ≠ s) : b ≠ c := by
  rintro rfl
  unfold Box at h h'
  rw [h] at h'
  injection h' with h'
  injection h' with _ e
  exact hts e
theorem Box.grown {w w' : World} {b : Nat} {cs : Array Value} {t : TypeId} {row : Option Nat} (h : Box w b cs t) (hg : w.grownBy w' row) (hne : some b ≠ row) : Box w' b cs t := (hg.block b h.lt hne).trans h

/-- A list of ints as the cells of a row. -/
def flat (m : List Int) : List Value := m.map (Value.int .i64)
theorem flat_append (a b : List Int) : flat (a ++ b) = flat a ++ flat b := List.map_append
theorem flat_one (l : List Int) : ∀ u ∈ flat l, u.oneCell' = true := by
  intro u hu
  obtain ⟨x, _, rfl⟩ := List.mem_map.1 hu; rfl
theorem flat_len (l : List Int) : (flat l).length = l.length := List.length_map _
/-- The slice v of ints reads as L, and is nobody else's to write; its block is not below B. -/
def Row (t : TypeId) (B : Nat) (w : World) (v : Value) (L : List Int) : Prop := w.ownsRow B t 1 v L.length (flat L)
theorem Row.nil (t : TypeId) (B : Nat) (w : World) : Row t B w (.slice none 0 0) [] := World.ownsRow_nil w B t 1
theorem row_below {w w1 : World} {B : Nat} {e : TypeId} {size : Nat} {v : Value} {n : Nat} {xs : List Value} (h : w.ownsRow B e size v n xs) (hb : Below w.heap.size w w1) : w1.ownsRow B e size v n xs := by
  obtain ⟨h1, h2 | ⟨g, cap, cur, hv, hB, hh, r⟩⟩ := h
  · exact ⟨h1, .inl h2⟩
  · have hg : g < w.heap.size := (Array.getElem?_eq_some_iff.1 hh).1
    exact ⟨h1, .inr ⟨g, cap, cur, hv, hB, (hb.block g hg).trans hh, r⟩⟩
theorem Row.below {t : TypeId} {B : Nat} {w w1 : World} {v : Value} {m : List Int} (h : Row t B w v m) (hb : Below w.heap.size w w1) : Row t B w1 v m := row_below h hb
theorem Row.mono {t : TypeId} {B B' : Nat} {w : World} {v : Value} {m : List Int} (h : Row t B w v m) (hB : B' ≤ B) : Row t B' w v m := by
  obtain ⟨h1, h2 | ⟨g, cap, cur, hv, hb, r⟩⟩ := h
  · exact ⟨h1, .inl h2⟩
  · exact ⟨h1, .inr ⟨g, cap, cur, hv, Nat.le_trans hB hb, r⟩⟩
theorem Row.is {t : TypeId} {B : Nat} {w : World} {v : Value} {m : List Int} (h : Row t B w v m) : IS w v m := by
  have h0 := h
  obtain ⟨h1, ⟨h2, h3⟩ | ⟨g, cap, cur, hv, hB, hh, hc, r⟩⟩ := h
  · obtain rfl := List.length_eq_zero_iff.1 h3
    exact ⟨_, _, h2, Nat.le_refl _, .inl rfl⟩
  · subst hv
    refine ⟨_, cap, rfl, hc, .inr ⟨g, 0, rfl, (Array.getElem?_eq_some_iff.1 hh).1, fun i hi => ?_⟩⟩
    rw [Nat.zero_add]
    refine (World.ownsRow.cellAt h0 i (by omega)).trans ?_
    simp [flat, List.getD, hi]
theorem Row.form {t : TypeId} {B : Nat} {w : World} {v : Value} {m : List Int} (h : Row t B w v m) : ∃ a cap, v = .slice a m.length cap ∧ m.length ≤ cap := by
  obtain ⟨a, cap, hv, hc, _⟩ := h.is
  exact ⟨a, cap, hv, hc⟩
/-- A store into a block of another type leaves the row. -/
theorem Row.other {e : TypeId} {B : Nat} {w : World} {v : Value} {m : List Int} {b : Nat} {cs : Array Value} {t : TypeId} (h : Row e B w v m) (hx : Box w b cs t) (ht : t ≠ e) (j : Nat) (u : Value) : Row e B (w.setCell ⟨b, j, none⟩ u) v m := by
  obtain ⟨h1, h2 | ⟨g, cap, cur, hv, hB, hh, r⟩⟩ := h
  · exact ⟨h1, .inl h2⟩
  · refine ⟨h1, .inr ⟨g, cap, cur, hv, hB, ?_, r⟩⟩
    exact Box.other (t := e) hh (fun h => by subst h; exact Box.ne hx hh ht rfl) j u
theorem Row.grownOther {t : TypeId} {B : Nat} {w w' : World} {v : Value} {m : List Int} {row : Option Nat} (h : Row t B w v m) (hg : w.grownBy w' row) (hne : ∀ g, v.ownBlock = some g → some g ≠ row) : Row t B w' v m := by
  obtain ⟨h1, h2 | ⟨g, cap, cur, hv, hB, hh, r⟩⟩ := h
  · exact ⟨h1, .inl h2⟩
  · exact ⟨h1, .inr ⟨g, cap, cur, hv, hB, (hg.block g (lt_block hh) (hne g (by rw [hv]; rfl))).trans hh, r⟩⟩
theorem box_not_row {e : TypeId} {B : Nat} {w : World} {v : Value} {m : List Int} {b : Nat} {cs : Array Value} {t : TypeId} (h : Row e B w v m) (hx : Box w b cs t) (ht : t ≠ e) : some b ≠ v.ownBlock := by
  obtain ⟨h1, ⟨h2, _⟩ | ⟨g, cap, cur, hv, hB, hh, r⟩⟩ := h
  · rw [h2]; exact fun h => by cases h
  · rw [hv]
    intro h
    have h' : b = g := by simpa [Value.ownBlock] using h
    subst h'
    exact Box.ne hx hh ht rfl
theorem info_parts {P : Program} {t : TypeId} {z : Value} {s b : Nat} (h : (P.info? t).map (fun i => (i.zero, i.size, i.bytes)) = some (some z, s, b)) : ∃ i, P.info? t = some i ∧ i.zero = some z ∧ i.size = s ∧ i.bytes = b := by
  cases hi : P.info? t with
  | none => rw [hi] at h; cases h
  | some i =>
    rw [hi] at h
    simp only [Option.map_some, Option.some.injEq, Prod.mk.injEq] at h
    exact ⟨i, rfl, h.1, h.2.1, h.2.2⟩
theorem infoI : (Try.prog.info? 3).map (fun i => (i.zero, i.size, i.bytes)) = some (some (.int .i64 0), 1, 8) := by kernel_rfl
theorem infoI2 : (Try.prog.info? 2).map (fun i => (i.zero, i.size, i.bytes)) = some (some (.int .i64 0), 1, 8) := by kernel_rfl
theorem infoE : (Try.prog.info? 31).map (fun i => (i.zero, i.size, i.bytes)) = some (some (.int .i64 0), 1, 8) := by kernel_rfl
theorem infoB : (Try.prog.info? 4).map (fun i => (i.zero, i.size, i.bytes)) = some (some (.bool false), 1, 1) := by kernel_rfl
theorem addr_add (b o j : Nat) : (⟨b, o, none⟩ : Addr).add j = ⟨b, o + j, none⟩ := by simp only [Addr.add]; split <;> simp_all
theorem below_app {B : Nat} {w wr w1 : World} {vo : Value} {nn : Nat} {xs : List Value} (hnx : Below B w wr) (hB : B ≤ wr.heap.size) {e : TypeId} (hown : wr.ownsRow B e 1 vo nn xs) (hg : wr.grownBy w1 vo.ownBlock) : Below B w w1 :=
  hnx.grown hg hB (fun j hj => (hown.lt j hj).1)
theorem flat_at {l : List Int} {j : Nat} {u : Value} (h : (flat l)[j]? = some u) : j < l.length ∧ u = .int .i64 (l.getD j 0) := by
  have hj : j < l.length := by
    rcases Nat.lt_or_ge j (flat l).length with h' | h'
    · rwa [flat_len] at h'
    · rw [List.getElem?_eq_none h'] at h; cases h
  refine ⟨hj, ?_⟩
  simp [flat, hj] at h
  rw [← h, List.getD, List.getElem?_eq_getElem hj]; rfl
/-- append of the ints xs onto a row of one's own. -/
theorem run_app {st e : TypeId} (hst : Try.prog.underlying st = some (.slice e)) (hin : (Try.prog.info? e).map (fun i => (i.zero, i.size, i.bytes)) = some (some (.int .i64 0), 1, 8)) {w : World} {B : Nat} {v : Value} {l : List Int} (ty : TypeId) (hown : Row e B w v l) {x : Value} {ss : List Int} (hx : IS w x ss) (hn : l.length + ss.length ≤ 1000000) (hB : B ≤ w.heap.size) :
    ∃ v' w', (Builtin.append_ #[st, st] ty #[v, x]).run Try.prog w = .ok v' w' ∧ Row e B w' v' (l ++ ss) ∧ w.grownBy w' v.ownBlock := by
  obtain ⟨i, hi, hz, h1, h2⟩ := info_parts hin
  obtain ⟨a, c, rfl, hcap, hc⟩ := hx
  unfold Row at *
  rw [flat_append, List.length_append]
  cases ss with
  | nil =>
    have hsrc : Src Try.prog i.size st (.slice a 0 c) 0 [] w := by
      cases a with
      | none => exact Src.ofNil w hst c
      | some a => exact Src.ofSlice w hst a 0 c [] (by simp) (fun j u h => by simp at h) (fun u h => by cases h)
    obtain ⟨base, sc', hv, hle⟩ : ∃ base sc', v = .slice base l.length sc' ∧ l.length ≤ sc' := by
      obtain ⟨_, ⟨e1, e2⟩ | ⟨g, cap, cur, e1, _, _, hle, _⟩⟩ := hown
      · exact ⟨_, _, by rw [e2]; exact e1, by omega⟩
      · exact ⟨_, _, e1, hle⟩
    subst hv
    have hr := run_append_nothing w st st ty e i hst hi base l.length sc' hle (.slice a 0 c) hsrc
    exact ⟨_, _, hr, by simpa [flat] using hown, World.grownBy.refl _ _⟩
  | cons s r =>
    rcases hc with hc | ⟨b, o, rfl, hlt, hcs⟩
    · cases hc
    obtain ⟨v', w', e1, e2, e3, _⟩ := run_append_own_at (P := Try.prog) w B st ty e i (.int .i64 0) 1 8 hst hi hz h1 h2 rfl (by decide) v l.length (flat l) hown ⟨b, o, none⟩ (s :: r).length c (flat (s :: r)) (by rw [flat_len, Nat.mul_one])
      (fun j u hu => by
        obtain ⟨hj, rfl⟩ := flat_at hu
        rw [addr_add]; exact hcs j hj) (flat_one _) (by unfold maxLen; omega) (by omega) hB
    exact ⟨v', w', e1, e2, e3⟩
theorem wpList_app {st e : TypeId} (hst : Try.prog.underlying st = some (.slice e)) (hin : (Try.prog.info? e).map (fun i => (i.zero, i.size, i.bytes)) = some (some (.int .i64 0), 1, 8)) (w : World) {ops : Array Oper} {rest : List Oper} {o : Oper} {a : Act} {Q : Exit → Act → World → Prop} (hgd : o.guard = none) (s x : Operand)
    (ho : o.op = .call { callee := .builtin .append, args := #[s, x], argTypes := #[st, st] }) {B : Nat} {v : Value} {l : List Int} (hs : a.eval s = v) (hown : Row e B w v l) {xv : Value} {ss : List Int} (hxv : a.eval x = xv) (hx : IS w xv ss) (hn : l.length + ss.length ≤ 1000000) (hB : B ≤ w.heap.size)
    (hK : ∀ v' w', Row e B w' v' (l ++ ss) → w.grownBy w' v.ownBlock → wpList Try.prog ops Q rest (a.put o.dst v') w') : wpList Try.prog ops Q (o :: rest) a w := by
  refine wpList_plain hgd fun K' hK' => ?_
  obtain ⟨v', w', hrun, r1, r2⟩ := run_app hst hin o.type hown hx hn hB
  unfold Oper.wp
  simp [execOp, ho, resolve, invoke, builtin, hs, hxv, hrun, Result.andThen]
  exact hK' _ _ (hK v' w' r1 r2)
/-- A block just made of ints reads as them. -/
theorem IS.ofBox {w : World} {b : Nat} {cs : Array Value} {t : TypeId} {L : List Int} {n cap : Nat} (h : Box w b cs t) (hn : n = L.length) (hl : cs.toList = flat L) (hc : n ≤ cap) : IS w (.slice (some ⟨b, 0, none⟩) n cap) L := by
  subst hn
  refine ⟨_, cap, rfl, hc, .inr ⟨b, 0, rfl, h.lt, fun i hi => ?_⟩⟩
  rw [h.cell, ← Array.getElem?_toList, hl]
  simp [flat, List.getD, hi]
theorem Row.ofBox {e : TypeId} {w : World} {B b : Nat} {cs : Array Value} {L : List Int} {n : Nat} (h : Box w b cs e) (hB : B ≤ b) (hn : n = L.length) (hl : cs.toList = flat L) (hm : L.length ≤ 100000) : Row e B w (.slice (some ⟨b, 0, none⟩) n n) L := by
  subst hn
  refine ⟨by rw [flat_len, Nat.mul_one], .inr ⟨b, L.length, cs, rfl, hB, h, Nat.le_refl _, by unfold maxLen; omega, ?_, ?_⟩⟩
  · rw [← Array.length_toList, hl, flat_len, Nat.mul_one]
  · rw [hl, List.take_of_length_le (by rw [flat_len, Nat.mul_one]; exact Nat.le_refl _)]
/-- append onto a row that is new behind w0. -/
theorem wpList_app' {st e : TypeId} (hst : Try.prog.underlying st = some (.slice e)) (hin : (Try.prog.info? e).map (fun i => (i.zero, i.size, i.bytes)) = some (some (.int .i64 0), 1, 8)) (w : World) {ops : Array Oper} {rest : List Oper} {o : Oper} {a : Act} {Q : Exit → Act → World → Prop} (hgd : o.guard = none) (s x : Operand)
    (ho : o.op = .call { callee := .builtin .append, args := #[s, x], argTypes := #[st, st] }) {w0 : World} {v : Value} {l : List Int} (hs : a.eval s = v) (hb : Below w0.heap.size w0 w) (hown : Row e w0.heap.size w v l) {xv : Value} {ss : List Int} (hxv : a.eval x = xv) (hx : IS w xv ss) (hn : l.length + ss.length ≤ 1000000)
    (hK : ∀ v' w', Row e w0.heap.size w' v' (l ++ ss) → Below w0.heap.size w0 w' → w.grownBy w' v.ownBlock → wpList Try.prog ops Q rest (a.put o.dst v') w') : wpList Try.prog ops Q (o :: rest) a w :=
  wpList_app hst hin w hgd s x ho hs hown hxv hx hn hb.size fun v' w' h1 h2 => hK v' w' h1 (below_app hb hb.size hown h2) h2
/-- The library's sort of a row of one's own. -/
theorem sort_row {B : Nat} {w : World} {v : Value} {L : List Int} (h : Row 3 B w v L) (hn : L.length ≤ 1000000) :
    Calls Try.prog 23 #[v] w fun e w' => e = .returned (.tuple #[]) ∧ Row 3 B w' v (L.mergeSort fun x y => decide (x ≤ y)) ∧ w.grownBy w' v.ownBlock := by
  obtain ⟨h1, ⟨h2, h3⟩ | ⟨g, cap, cur, hv, hB, hh, hc, hm, hs, ht⟩⟩ := h
  · obtain rfl := List.length_eq_zero_iff.1 h3
    subst h2
    refine (Any.slices_Sort_int_none Try.lays189 none 0 w).mono ?_
    rintro e w' ⟨rfl, rfl⟩
    exact ⟨rfl, by rw [show ([] : List Int).mergeSort (fun x y => decide (x ≤ y)) = [] by simp]; exact Row.nil _ _ _, World.grownBy.refl _ _⟩
  · subst hv
    have hH := holds_of_blockI (ss := L) hh (by have e := ht; rw [Nat.mul_one] at e; exact e)
    have hc0 := Any.slices_Sort_int Try.lays189 g 0 cap L w hH (lt_block hh) (by omega)
    refine Calls.mono hc0 ?_
    rintro e w' ⟨rfl, n, os, rfl⟩
    refine ⟨rfl, ?_, grownBy_sortedI _⟩
    have := ownsRow_sortedI (n := n) (os := os) (ts := L.mergeSort fun x y => decide (x ≤ y)) (List.length_mergeSort _) hB hh hc hm hs
    unfold Row
    rw [List.length_mergeSort]
    exact this
theorem sort_inc {L : List Int} (hd : L.Nodup) : Inc (L.mergeSort fun x y => decide (x ≤ y)) := by
  have h1 := List.pairwise_mergeSort (le := fun x y : Int => decide (x ≤ y)) (by intro a b c; simp; omega) (by intro a b; simp; omega) L
  have h2 : (L.mergeSort fun x y => decide (x ≤ y)).Nodup := (List.mergeSort_perm L _).nodup_iff.2 hd
  unfold Inc
  refine List.Pairwise.imp₂ ?_ h1 h2
  intro a b h3 h4
  simp at h3
  omega
theorem sort_mem {L : List Int} (x : Int) : x ∈ (L.mergeSort fun x y => decide (x ≤ y)) ↔ x ∈ L := (List.mergeSort_perm L _).mem_iff
end Go.Proofs.Ytknnnjnnphdipaa
