/- Histories in the world: their messages' cells, their views; the contract of Len. -/
import Derived.Test.YtbaljoehgdhhhaaViewBase
import Derived.Test.YtbaljoehgdhhhaaCopy
import Derived.WalkKit
import Derived.WalkSpells
import Derived.WalkLawsBesides
import Derived.Carry
import Derived.Lib.Hide
namespace Go.Proofs.Ytbaljoehgdhhhaa
open Go.RowKit Go.Shelf Go.Maps

/-- A message: the word's three numbers, the thread, the view's pairs. -/
structure Msg where
  val : Int
  ver : Int
  ref : Int
  thr : Int
  view : List (Int × Int)

/-- A message and its view's map. -/
abbrev MP := Msg × Option Nat
def msgV (x : MP) : Value := .agg #[.int .i64 x.1.val, .int .u32 x.1.ver, .int .u32 x.1.ref, .int .i64 x.1.thr, .map x.2]
def cells1 (x : MP) : List Value := [.int .i64 x.1.val, .int .u32 x.1.ver, .int .u32 x.1.ref, .int .i64 x.1.thr, .map x.2]
def cellsL (q : List MP) : List Value := q.flatMap cells1

theorem cellsL_length (q : List MP) : (cellsL q).length = q.length * 5 := by
  induction q with
  | nil => rfl
  | cons x r ih => simp [cellsL, cells1] at ih ⊢; omega
theorem cellsL_append (q r : List MP) : cellsL (q ++ r) = cellsL q ++ cellsL r := by simp [cellsL]
theorem cellsL_cons (x : MP) (r : List MP) : cellsL (x :: r) = cells1 x ++ cellsL r := rfl
theorem cellsL_one (q : List MP) : ∀ v ∈ cellsL q, v.oneCell' = true := by
  intro v hv
  simp only [cellsL, List.mem_flatMap, cells1] at hv
  obtain ⟨x, _, hv⟩ := hv
  simp at hv
  rcases hv with rfl | rfl | rfl | rfl | rfl <;> rfl
theorem cellsL_at (q : List MP) (i : Nat) (x : MP) (h : q[i]? = some x) :
    (cellsL q)[i * 5]? = some (.int .i64 x.1.val) ∧ (cellsL q)[i * 5 + 1]? = some (.int .u32 x.1.ver) ∧ (cellsL q)[i * 5 + 2]? = some (.int .u32 x.1.ref) ∧ (cellsL q)[i * 5 + 3]? = some (.int .i64 x.1.thr) ∧ (cellsL q)[i * 5 + 4]? = some (.map x.2) := by
  induction q generalizing i with
  | nil => simp at h
  | cons y r ih =>
    cases i with
    | zero =>
      have : y = x := by simpa using h
      subst this
      simp [cellsL_cons, cells1]
    | succ i =>
      have := ih i (by simpa using h)
      have e : ∀ j, (cellsL (y :: r))[(i + 1) * 5 + j]? = (cellsL r)[i * 5 + j]? := fun j => by
        rw [cellsL_cons, List.getElem?_append_right (by simp [cells1]; omega)]
        congr 1
        simp [cells1]; omega
      have e0 := e 0
      simp only [Nat.add_zero] at e0
      rw [e0, e, e, e, e]
      exact this

/-- The slice v holds the messages q, in a block of its own. -/
def HW (w : World) (v : Value) (q : List MP) : Prop :=
  (∀ x ∈ q, VW w x.2 x.1.view) ∧ ((v = .slice none 0 0 ∧ q = []) ∨ ∃ b t, v = .slice (some ⟨b, 0, none⟩) q.length q.length ∧ w.heap[b]? = some (.cells (cellsL q).toArray t (0, 0)))

theorem lt_block {w : World} {b : Nat} {o : Obj} (h : w.heap[b]? = some o) : b < w.heap.size := by
  rcases Nat.lt_or_ge b w.heap.size with h1 | h1
  · exact h1
  · rw [Array.getElem?_eq_none h1] at h; cases h

theorem HW.below {w w1 : World} {v : Value} {q : List MP} (h : HW w v q) (hb : Below w.heap.size w w1) : HW w1 v q := by
  refine ⟨fun x hx => (h.1 x hx).below hb, ?_⟩
  rcases h.2 with h | ⟨b, t, e, hk⟩
  · exact .inl h
  · exact .inr ⟨b, t, e, (hb.block b (lt_block hk)).trans hk⟩
theorem HW.alloc {w : World} {v : Value} {q : List MP} (h : HW w v q) (o : Obj) : HW (w.alloc o) v q := h.below ((Below.refl _ _).alloc (Nat.le_refl _) o)
theorem HW.nil (w : World) : HW w (.slice none 0 0) [] := ⟨by simp, .inl ⟨rfl, rfl⟩⟩
/-- The value is a slice of that length. -/
theorem HW.slice {w : World} {v : Value} {q : List MP} (h : HW w v q) : ∃ a, v = .slice a q.length q.length ∧ (0 < q.length → ∃ b t, b < w.heap.size ∧ a = some ⟨b, 0, none⟩ ∧ w.heap[b]? = some (.cells (cellsL q).toArray t (0, 0))) := by
  rcases h.2 with ⟨rfl, rfl⟩ | ⟨b, t, rfl, hk⟩
  · exact ⟨none, rfl, by simp⟩
  · exact ⟨_, rfl, fun _ => ⟨b, t, lt_block hk, rfl, hk⟩⟩

theorem cell_row {w : World} {b : Nat} {cs : List Value} {t : TypeId} (h : w.heap[b]? = some (.cells cs.toArray t (0, 0))) (j : Nat) : w.cell? ⟨b, j, none⟩ = cs[j]? := by
  unfold World.cell?
  simp [h]

theorem add_none (b o j : Nat) : (⟨b, o, none⟩ : Addr).add j = ⟨b, o + j, none⟩ := by unfold Addr.add; split <;> simp_all

theorem blk1 (w : World) (a : Obj) {n : Nat} (hn : n = w.heap.size) : (w.alloc a).heap[n]? = some a := by subst hn; exact heap_alloc_new ..
theorem blkS {w : World} {a : Obj} {n : Nat} {o : Obj} (h : w.heap[n]? = some o) : (w.alloc a).heap[n]? = some o := by
  rw [Below.heap_alloc _ _ _ (lt_block h)]; exact h

/-- Block b holds just these cells, none of them frozen. -/
def Box (w : World) (b : Nat) (cs : Array Value) (t : TypeId) : Prop := w.heap[b]? = some (.cells cs t (0, 0))
theorem Box.lt {w : World} {b : Nat} {cs : Array Value} {t : TypeId} (h : Box w b cs t) : b < w.heap.size := lt_block h
theorem Box.below {w w1 : World} {b : Nat} {cs : Array Value} {t : TypeId} (h : Box w b cs t) (hb : Below w.heap.size w w1) : Box w1 b cs t := (hb.block b h.lt).trans h
theorem Box.cell {w : World} {b : Nat} {cs : Array Value} {t : TypeId} (h : Box w b cs t) (j : Nat) : w.cell? ⟨b, j, none⟩ = cs[j]? := by
  unfold World.cell?
  simp [show w.heap[b]? = _ from h]
theorem Box.free {w : World} {b : Nat} {cs : Array Value} {t : TypeId} (h : Box w b cs t) (j : Nat) : w.frozen? ⟨b, j, none⟩ = false := by
  unfold World.frozen?
  simp [show w.heap[b]? = _ from h]
theorem Box.cells5 {w : World} {b : Nat} {x0 x1 x2 x3 x4 : Value} {t : TypeId} (h : Box w b #[x0, x1, x2, x3, x4] t) : (w.cell? ⟨b, 0, none⟩ = some x0 ∧ w.cell? ⟨b, 1, none⟩ = some x1 ∧ w.cell? ⟨b, 2, none⟩ = some x2 ∧ w.cell? ⟨b, 3, none⟩ = some x3 ∧ w.cell? ⟨b, 4, none⟩ = some x4) ∧
    (w.frozen? ⟨b, 0, none⟩ = false ∧ w.frozen? ⟨b, 1, none⟩ = false ∧ w.frozen? ⟨b, 2, none⟩ = false ∧ w.frozen? ⟨b, 3, none⟩ = false ∧ w.frozen? ⟨b, 4, none⟩ = false) :=
  ⟨⟨h.cell 0, h.cell 1, h.cell 2, h.cell 3, h.cell 4⟩, h.free 0, h.free 1, h.free 2, h.free 3, h.free 4⟩
theorem Box.new (w : World) (cs : Array Value) (t : TypeId) {n : Nat} (hn : n = w.heap.size) : Box (w.alloc (.cells cs t)) n cs t := blk1 w _ hn
theorem Box.alloc {w : World} {b : Nat} {cs : Array Value} {t : TypeId} (h : Box w b cs t) (o : Obj) : Box (w.alloc o) b cs t := blkS h
theorem Box.drew {w : World} {b : Nat} {cs : Array Value} {t : TypeId} (h : Box w b cs t) : Box w.drew b cs t := h
theorem Box.set {w : World} {b : Nat} {cs : Array Value} {t : TypeId} (h : Box w b cs t) (j : Nat) (u : Value) : Box (w.setCell ⟨b, j, none⟩ u) b (cs.setIfInBounds j u) t := by
  unfold Box at *
  unfold World.setCell
  simp only
  rw [Array.getElem?_modify, if_pos rfl, h]
  rfl
theorem Box.other {w : World} {b : Nat} {cs : Array Value} {t : TypeId} (h : Box w b cs t) {b' : Nat} (hb : b ≠ b') (j : Nat) (u : Value) : Box (w.setCell ⟨b', j, none⟩ u) b cs t := by
  unfold Box at *
  rw [Below.heap_setCell _ _ _ _ (by simpa using hb)]; exact h

/-- Only block b may differ. -/
structure Only (b : Nat) (w w' : World) : Prop where
  size : w'.heap.size = w.heap.size
  block : ∀ j, j ≠ b → w'.heap[j]? = w.heap[j]?
theorem Only.refl (b : Nat) (w : World) : Only b w w := ⟨rfl, fun _ _ => rfl⟩
theorem Only.set {b : Nat} {w w' : World} (h : Only b w w') (i : Nat) (u : Value) : Only b w (w'.setCell ⟨b, i, none⟩ u) :=
  ⟨by rw [← h.size]; simp, fun j hj => by rw [Below.heap_setCell _ _ _ _ (by simpa using hj)]; exact h.block j hj⟩
theorem Box.only {w w' : World} {b c : Nat} {cs : Array Value} {t : TypeId} (h : Box w c cs t) (hne : c ≠ b) (ho : Only b w w') : Box w' c cs t := (ho.block c hne).trans h
theorem VW.only {w w' : World} {b : Nat} {p : Option Nat} {m : List (Int × Int)} {cs : Array Value} {t : TypeId} (h : VW w p m) (hx : Box w b cs t) (ho : Only b w w') : VW w' p m := by
  obtain ⟨h1, h2 | ⟨b', n, e, hn, es, clock, hk, F, hs, hD⟩⟩ := h
  · exact ⟨h1, .inl h2⟩
  · refine ⟨h1, .inr ⟨b', n, e, hn, es, clock, (ho.block b' (fun e => ?_)).trans hk, F, hs, hD⟩⟩
    rw [e, show w.heap[b]? = _ from hx] at hk
    cases hk
theorem HW.only {w w' : World} {b : Nat} {v : Value} {q : List MP} {cs : Array Value} {t : TypeId} (h : HW w v q) (hx : Box w b cs t) (hb : ∀ a n c, v = .slice (some a) n c → a.block ≠ b) (ho : Only b w w') : HW w' v q := by
  refine ⟨fun x hm => (h.1 x hm).only hx ho, ?_⟩
  rcases h.2 with h | ⟨b', t', e, hk'⟩
  · exact .inl h
  · exact .inr ⟨b', t', e, (ho.block b' (hb _ _ _ e)).trans hk'⟩
theorem _root_.Go.RowKit.Below.put {B : Nat} {w W : World} (h : Below B w W) (b : Nat) (hb : B ≤ b) (i : Nat) (u : Value) : Below B w (W.setCell ⟨b, i, none⟩ u) := h.setCell (by simpa using hb) u
theorem below_new (w : World) (o : Obj) : Below w.heap.size w (w.alloc o) := (Below.refl _ _).alloc (Nat.le_refl _) o
theorem Box.cells6 {w : World} {b : Nat} {x0 x1 x2 x3 x4 x5 : Value} {t : TypeId} (h : Box w b #[x0, x1, x2, x3, x4, x5] t) : (w.cell? ⟨b, 0, none⟩ = some x0 ∧ w.cell? ⟨b, 1, none⟩ = some x1 ∧ w.cell? ⟨b, 2, none⟩ = some x2 ∧ w.cell? ⟨b, 3, none⟩ = some x3 ∧ w.cell? ⟨b, 4, none⟩ = some x4 ∧ w.cell? ⟨b, 5, none⟩ = some x5) ∧ w.frozen? ⟨b, 0, none⟩ = false ∧ w.frozen? ⟨b, 1, none⟩ = false ∧ w.frozen? ⟨b, 2, none⟩ = false ∧ w.frozen? ⟨b, 3, none⟩ = false ∧ w.frozen? ⟨b, 4, none⟩ = false ∧ w.frozen? ⟨b, 5, none⟩ = false := ⟨⟨h.cell 0, h.cell 1, h.cell 2, h.cell 3, h.cell 4, h.cell 5⟩, h.free 0, h.free 1, h.free 2, h.free 3, h.free 4, h.free 5⟩
theorem Box.cells4 {w : World} {b : Nat} {x0 x1 x2 x3 : Value} {t : TypeId} (h : Box w b #[x0, x1, x2, x3] t) : (w.cell? ⟨b, 0, none⟩ = some x0 ∧ w.cell? ⟨b, 1, none⟩ = some x1 ∧ w.cell? ⟨b, 2, none⟩ = some x2 ∧ w.cell? ⟨b, 3, none⟩ = some x3) ∧ w.frozen? ⟨b, 0, none⟩ = false ∧ w.frozen? ⟨b, 1, none⟩ = false ∧ w.frozen? ⟨b, 2, none⟩ = false ∧ w.frozen? ⟨b, 3, none⟩ = false := ⟨⟨h.cell 0, h.cell 1, h.cell 2, h.cell 3⟩, h.free 0, h.free 1, h.free 2, h.free 3⟩
theorem Box.cells1 {w : World} {b : Nat} {x0 : Value} {t : TypeId} (h : Box w b #[x0] t) : w.cell? ⟨b, 0, none⟩ = some x0 ∧ w.frozen? ⟨b, 0, none⟩ = false := ⟨h.cell 0, h.free 0⟩
theorem Box.cells2 {w : World} {b : Nat} {x0 x1 : Value} {t : TypeId} (h : Box w b #[x0, x1] t) : (w.cell? ⟨b, 0, none⟩ = some x0 ∧ w.cell? ⟨b, 1, none⟩ = some x1) ∧ w.frozen? ⟨b, 0, none⟩ = false ∧ w.frozen? ⟨b, 1, none⟩ = false := ⟨⟨h.cell 0, h.cell 1⟩, h.free 0, h.free 1⟩
theorem Box.cells3 {w : World} {b : Nat} {x0 x1 x2 : Value} {t : TypeId} (h : Box w b #[x0, x1, x2] t) : (w.cell? ⟨b, 0, none⟩ = some x0 ∧ w.cell? ⟨b, 1, none⟩ = some x1 ∧ w.cell? ⟨b, 2, none⟩ = some x2) ∧ w.frozen? ⟨b, 0, none⟩ = false ∧ w.frozen? ⟨b, 1, none⟩ = false ∧ w.frozen? ⟨b, 2, none⟩ = false := ⟨⟨h.cell 0, h.cell 1, h.cell 2⟩, h.free 0, h.free 1, h.free 2⟩

set_option maxRecDepth 100000 in
theorem len_any (a : Option Addr) (n c : Nat) (w : World) :
    Calls Try.prog 21 #[.agg #[.slice a n c]] w fun e w' => e = .returned (.int .i64 n) ∧ w.alloc (.cells #[.slice a n c] 65) = w' := by
  go_enter Try.func21, Try.ntmps21
  go_wp2
  go_ret
  exact ⟨rfl, rfl⟩
theorem len_b (v : Value) (q : List MP) (n : Nat) (hn : q.length = n) (w : World) (h : HW w v q) :
    Calls Try.prog 21 #[.agg #[v]] w fun e w' => e = .returned (.int .i64 n) ∧ Below w.heap.size w w' := by
  obtain ⟨a, rfl, _⟩ := h.slice
  subst hn
  refine (len_any a _ _ w).mono ?_
  rintro e w1 ⟨rfl, rfl⟩
  exact ⟨rfl, (Below.refl _ _).alloc (Nat.le_refl _) _⟩
end Go.Proofs.Ytbaljoehgdhhhaa
