/- Boxes: blocks that hold just these cells. -/
import Derived.Test.YtpgcnejofnhhfaaDoorWords
namespace Go.Proofs.YtpgcnejofnhhfaaDoor
open Go.RowKit
theorem lt_block {w : World} {b : Nat} {o : Obj} (h : w.heap[b]? = some o) : b < w.heap.size := (Array.getElem?_eq_some_iff.1 h).1
theorem blk1 (w : World) (a : Obj) {n : Nat} (hn : n = w.heap.size) : (w.alloc a).heap[n]? = some a := by subst hn; exact heap_alloc_new ..
theorem blkS {w : World} {a : Obj} {n : Nat} {o : Obj} (h : w.heap[n]? = some o) : (w.alloc a).heap[n]? = some o := by
  rw [Below.heap_alloc _ _ _ (lt_block h)]; exact h
/-- Block b holds just these cells, none of them frozen. -/
def Box (w : World) (b : Nat) (cs : Array Value) (t : TypeId) : Prop := w.heap[b]? = some (.cells cs t (0, 0))
theorem Box.lt {w : World} {b : Nat} {cs : Array Value} {t : TypeId} (h : Box w b cs t) : b < w.heap.size := lt_block h
theorem Box.below {w w1 : World} {b : Nat} {cs : Array Value} {t : TypeId} (h : Box w b cs t) (hb : Below w.heap.size w w1) : Box w1 b cs t := (hb.block b h.lt).trans h
theorem Box.cell {w : World} {b : Nat} {cs : Array Value} {t : TypeId} (h : Box w b cs t) (j : Nat) : w.cell? ⟨b, j, none⟩ = cs[j]? := by
  unfold World.cell?
  simp [show w.heap[b]? = _ from h]
theorem Box.free {w : World} {b : Nat} {cs : Array Value} {t : TypeId} (h : Box w b cs t) (j : Nat) : w.frozen? ⟨b, j, none⟩ = false := by
  unfold World.frozen?
  simp [show w.heap[b]? = _ from h]
theorem Box.new (w : World) (cs : Array Value) (t : TypeId) {n : Nat} (hn : n = w.heap.size) : Box (w.alloc (.cells cs t)) n cs t := blk1 w _ hn
theorem Box.alloc {w : World} {b : Nat} {cs : Array Value} {t : TypeId} (h : Box w b cs t) (o : Obj) : Box (w.alloc o) b cs t := blkS h
theorem Box.drew {w : World} {b : Nat} {cs : Array Value} {t : TypeId} (h : Box w b cs t) : Box w.drew b cs t := h
theorem Box.set {w : World} {b : Nat} {cs : Array Value} {t : TypeId} (h : Box w b cs t) (j : Nat) (u : Value) : Box (w.setCell ⟨b, j, none⟩ u) b (cs.setIfInBounds j u) t := by
  unfold Box at *
  unfold World.setCell
  simp only
  rw [Array.getElem?_modify, if_pos rfl, h]
  rfl
theorem Box.other {w : World} {b : Nat} {cs : Array Value} {t : TypeId} (h : Box w b cs t) {b' : Nat} (hb : b ≠ b') (j : Nat) (u : Value) : Box (w.setCell ⟨b', j, none⟩ u) b cs t := by
  unfold Box at *
  rw [Below.heap_setCell _ _ _ _ (by simpa using hb)]; exact h

/-- Only block b may differ. -/
structure Only (b : Nat) (w w' : World) : Prop where
  size : w'.heap.size = w.heap.size
  block : ∀ j, j ≠ b → w'.heap[j]? = w.heap[j]?
theorem Only.refl (b : Nat) (w : World) : Only b w w := ⟨rfl, fun _ _ => rfl⟩
theorem Only.set {b : Nat} {w w' : World} (h : Only b w w') (i : Nat) (u : Value) : Only b w (w'.setCell ⟨b, i, none⟩ u) :=
  ⟨by rw [← h.size]; simp, fun j hj => by rw [Below.heap_setCell _ _ _ _ (by simpa using hj)]; exact h.block j hj⟩
theorem Box.only {w w' : World} {b c : Nat} {cs : Array Value} {t : TypeId} (h : Box w c cs t) (hne : c ≠ b) (ho : Only b w w') : Box w' c cs t := (ho.block c hne).trans h
theorem Box.cells3 {w : World} {b : Nat} {x0 x1 x2 : Value} {t : TypeId} (h : Box w b #[x0, x1, x2] t) : (w.cell? ⟨b, 0, none⟩ = some x0 ∧ w.cell? ⟨b, 1, none⟩ = some x1 ∧ w.cell? ⟨b, 2, none⟩ = some x2) ∧ w.frozen? ⟨b, 0, none⟩ = false ∧ w.frozen? ⟨b, 1, none⟩ = false ∧ w.frozen? ⟨b, 2, none⟩ = false := ⟨⟨h.cell 0, h.cell 1, h.cell 2⟩, h.free 0, h.free 1, h.free 2⟩
/-- Block b is stored into, all below b stays. -/
theorem below_set {w W : World} {n b : Nat} (h : Below n w W) (hb : n ≤ b) (j : Nat) (u : Value) : Below n w (W.setCell ⟨b, j, none⟩ u) := h.setCell (by simpa using hb) _
end Go.Proofs.YtpgcnejofnhhfaaDoor
