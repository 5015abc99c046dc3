/- Small laws for drawn regions driven by hand: boxes made and stored into, append. -/
import Derived.Test.YtfegeahieajmkaaDoorDsWords
import Derived.Test.YtfegeahieajmkaaDoorDsFirst
import Derived.Deep.RegionLaw
namespace Go.Proofs.YtfegeahieajmkaaDoor
open Go.ChangeShapes Go.WideShapes Go.ChangeAt Go.RowKit Go.Maps
theorem below_new (w : World) (o : Obj) : Below w.heap.size w (w.alloc o) := below1 w o
theorem _root_.Go.RowKit.Below.put {n : Nat} {w W : World} (h : Below n w W) (b : Nat) (hb : n ≤ b) (i : Nat) (u : Value) : Below n w (W.setCell ⟨b, i, none⟩ u) := h.setCell (by simpa using hb) _
/-- Only block b may differ. -/
structure Only (b : Nat) (w w' : World) : Prop where
  size : w'.heap.size = w.heap.size
  block : ∀ j, j ≠ b → w'.heap[j]? = w.heap[j]?
theorem Only.refl (b : Nat) (w : World) : Only b w w := ⟨rfl, fun _ _ => rfl⟩
theorem Only.set {b : Nat} {w w' : World} (h : Only b w w') (i : Nat) (u : Value) : Only b w (w'.setCell ⟨b, i, none⟩ u) :=
  ⟨by rw [← h.size]; simp, fun j hj => by rw [Below.heap_setCell _ _ _ _ (by simpa using hj)]; exact h.block j hj⟩
theorem Box.only {w w' : World} {b c : Nat} {cs : Array Value} {t : TypeId} (h : Box w c cs t) (hne : c ≠ b) (ho : Only b w w') : Box w' c cs t := (ho.block c hne).trans h
theorem gl_only {w w' : World} {b : Nat} (h : Lay.Gl w) (hb : b ≠ 0) (ho : Only b w w') : Lay.Gl w' :=
  ⟨fun r hr => by
    have := h.z r hr
    unfold World.cell? at *
    rw [ho.block 0 (Ne.symm hb)]
    exact this, by rw [ho.size]; exact h.big⟩
theorem Box.cells3 {w : World} {b : Nat} {x0 x1 x2 : Value} {t : TypeId} (h : Box w b #[x0, x1, x2] t) : (w.cell? ⟨b, 0, none⟩ = some x0 ∧ w.cell? ⟨b, 1, none⟩ = some x1 ∧ w.cell? ⟨b, 2, none⟩ = some x2) ∧ w.frozen? ⟨b, 0, none⟩ = false ∧ w.frozen? ⟨b, 1, none⟩ = false ∧ w.frozen? ⟨b, 2, none⟩ = false := ⟨⟨h.cell 0, h.cell 1, h.cell 2⟩, h.free 0, h.free 1, h.free 2⟩
theorem Box.cells8 {w : World} {b : Nat} {x0 x1 x2 x3 x4 x5 x6 x7 : Value} {t : TypeId} (h : Box w b #[x0, x1, x2, x3, x4, x5, x6, x7] t) : (w.cell? ⟨b, 0, none⟩ = some x0 ∧ w.cell? ⟨b, 1, none⟩ = some x1 ∧ w.cell? ⟨b, 2, none⟩ = some x2 ∧ w.cell? ⟨b, 3, none⟩ = some x3 ∧ w.cell? ⟨b, 4, none⟩ = some x4 ∧ w.cell? ⟨b, 5, none⟩ = some x5 ∧ w.cell? ⟨b, 6, none⟩ = some x6 ∧ w.cell? ⟨b, 7, none⟩ = some x7) ∧ w.frozen? ⟨b, 0, none⟩ = false ∧ w.frozen? ⟨b, 1, none⟩ = false ∧ w.frozen? ⟨b, 2, none⟩ = false ∧ w.frozen? ⟨b, 3, none⟩ = false ∧ w.frozen? ⟨b, 4, none⟩ = false ∧ w.frozen? ⟨b, 5, none⟩ = false ∧ w.frozen? ⟨b, 6, none⟩ = false ∧ w.frozen? ⟨b, 7, none⟩ = false :=
  ⟨⟨h.cell 0, h.cell 1, h.cell 2, h.cell 3, h.cell 4, h.cell 5, h.cell 6, h.cell 7⟩, h.free 0, h.free 1, h.free 2, h.free 3, h.free 4, h.free 5, h.free 6, h.free 7⟩
end Go.Proofs.YtfegeahieajmkaaDoor
