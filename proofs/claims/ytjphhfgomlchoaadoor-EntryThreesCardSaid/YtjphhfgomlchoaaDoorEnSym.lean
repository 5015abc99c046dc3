/- Rows of entries: an entry stored, two entries swapped, two ranges swapped. -/
import Derived.Test.YtjphhfgomlchoaaDoorEnSorts
namespace Go.Proofs.YtjphhfgomlchoaaDoor
open Go.ChangeShapes Go.WideShapes Go.ChangeAt Go.RowKit Go.Maps
/-- The world with the entry x at place j of block g. -/
def put6 (w : World) (g j : Nat) (x : En) : World := ((((((w.setCell ⟨g, j * 6, none⟩ (.int .i64 x.1)).setCell ⟨g, j * 6 + 1, none⟩ (.int .i64 x.2.1.1)).setCell ⟨g, j * 6 + 2, none⟩ (.int .u32 x.2.1.2.1)).setCell ⟨g, j * 6 + 3, none⟩ (.int .u32 x.2.1.2.2)).setCell ⟨g, j * 6 + 4, none⟩ (.int .i64 x.2.2.1)).setCell ⟨g, j * 6 + 5, none⟩ (.bool x.2.2.2))
theorem row_put {B : Nat} {w : World} {g n c : Nat} {L : List En} (h : RowK enE 48 B w (.slice (some ⟨g, 0, none⟩) n c) L) {j : Nat} (hj : j < L.length) (x : En) : RowK enE 48 B (put6 w g j x) (.slice (some ⟨g, 0, none⟩) n c) (L.set j x) := by
  unfold put6
  have h1 := h.set (i := j) (j := 0) (u := (.int .i64 x.1)) (a := (x.1, ((L[j]!).2.1.1, (L[j]!).2.1.2.1, (L[j]!).2.1.2.2), (L[j]!).2.2.1, (L[j]!).2.2.2)) hj (by decide) rfl
  have e1 : (L.set j (x.1, ((L[j]!).2.1.1, (L[j]!).2.1.2.1, (L[j]!).2.1.2.2), (L[j]!).2.2.1, (L[j]!).2.2.2))[j]! = (x.1, ((L[j]!).2.1.1, (L[j]!).2.1.2.1, (L[j]!).2.1.2.2), (L[j]!).2.2.1, (L[j]!).2.2.2) := by
    rw [getElem!_pos _ j (by rw [List.length_set]; exact hj), List.getElem_set_self]
  have h2 := h1.set (i := j) (j := 1) (u := (.int .i64 x.2.1.1)) (a := (x.1, (x.2.1.1, (L[j]!).2.1.2.1, (L[j]!).2.1.2.2), (L[j]!).2.2.1, (L[j]!).2.2.2)) (by rw [List.length_set]; exact hj) (by decide) (by rw [e1]; rfl)
  rw [List.set_set] at h2
  have e2 : (L.set j (x.1, (x.2.1.1, (L[j]!).2.1.2.1, (L[j]!).2.1.2.2), (L[j]!).2.2.1, (L[j]!).2.2.2))[j]! = (x.1, (x.2.1.1, (L[j]!).2.1.2.1, (L[j]!).2.1.2.2), (L[j]!).2.2.1, (L[j]!).2.2.2) := by
    rw [getElem!_pos _ j (by rw [List.length_set]; exact hj), List.getElem_set_self]
  have h3 := h2.set (i := j) (j := 2) (u := (.int .u32 x.2.1.2.1)) (a := (x.1, (x.2.1.1, x.2.1.2.1, (L[j]!).2.1.2.2), (L[j]!).2.2.1, (L[j]!).2.2.2)) (by rw [List.length_set]; exact hj) (by decide) (by rw [e2]; rfl)
  rw [List.set_set] at h3
  have e3 : (L.set j (x.1, (x.2.1.1, x.2.1.2.1, (L[j]!).2.1.2.2), (L[j]!).2.2.1, (L[j]!).2.2.2))[j]! = (x.1, (x.2.1.1, x.2.1.2.1, (L[j]!).2.1.2.2), (L[j]!).2.2.1, (L[j]!).2.2.2) := by
    rw [getElem!_pos _ j (by rw [List.length_set]; exact hj), List.getElem_set_self]
  have h4 := h3.set (i := j) (j := 3) (u := (.int .u32 x.2.1.2.2)) (a := (x.1, (x.2.1.1, x.2.1.2.1, x.2.1.2.2), (L[j]!).2.2.1, (L[j]!).2.2.2)) (by rw [List.length_set]; exact hj) (by decide) (by rw [e3]; rfl)
  rw [List.set_set] at h4
  have e4 : (L.set j (x.1, (x.2.1.1, x.2.1.2.1, x.2.1.2.2), (L[j]!).2.2.1, (L[j]!).2.2.2))[j]! = (x.1, (x.2.1.1, x.2.1.2.1, x.2.1.2.2), (L[j]!).2.2.1, (L[j]!).2.2.2) := by
    rw [getElem!_pos _ j (by rw [List.length_set]; exact hj), List.getElem_set_self]
  have h5 := h4.set (i := j) (j := 4) (u := (.int .i64 x.2.2.1)) (a := (x.1, (x.2.1.1, x.2.1.2.1, x.2.1.2.2), x.2.2.1, (L[j]!).2.2.2)) (by rw [List.length_set]; exact hj) (by decide) (by rw [e4]; rfl)
  rw [List.set_set] at h5
  have e5 : (L.set j (x.1, (x.2.1.1, x.2.1.2.1, x.2.1.2.2), x.2.2.1, (L[j]!).2.2.2))[j]! = (x.1, (x.2.1.1, x.2.1.2.1, x.2.1.2.2), x.2.2.1, (L[j]!).2.2.2) := by
    rw [getElem!_pos _ j (by rw [List.length_set]; exact hj), List.getElem_set_self]
  have h6 := h5.set (i := j) (j := 5) (u := (.bool x.2.2.2)) (a := x) (by rw [List.length_set]; exact hj) (by decide) (by rw [e5]; rfl)
  rw [List.set_set] at h6
  exact h6
theorem put6_grown (w : World) (g j : Nat) (x : En) : w.grownBy (put6 w g j x) (some g) := by
  unfold put6
  have s : ∀ (W : World) (o : Nat) (u : Value), W.grownBy (W.setCell ⟨g, o, none⟩ u) (some g) := fun W o u =>
    ⟨rfl, rfl, rfl, by simp, fun k _ hk => heap_setCell_other W ⟨g, o, none⟩ k u (fun e => hk (by rw [e]))⟩
  exact (((((s _ _ _).trans (s _ _ _)).trans (s _ _ _)).trans (s _ _ _)).trans (s _ _ _)).trans (s _ _ _)
theorem row_en {B : Nat} {w : World} {g n c : Nat} {L : List En} (h : RowK enE 48 B w (.slice (some ⟨g, 0, none⟩) n c) L) {j : Nat} (hj : j < L.length) : w.cell? ⟨g, j * 6, none⟩ = some (.int .i64 (L[j]!).1) ∧ w.cell? ⟨g, j * 6 + 1, none⟩ = some (.int .i64 (L[j]!).2.1.1) ∧ w.cell? ⟨g, j * 6 + 2, none⟩ = some (.int .u32 (L[j]!).2.1.2.1) ∧ w.cell? ⟨g, j * 6 + 3, none⟩ = some (.int .u32 (L[j]!).2.1.2.2) ∧ w.cell? ⟨g, j * 6 + 4, none⟩ = some (.int .i64 (L[j]!).2.2.1) ∧ w.cell? ⟨g, j * 6 + 5, none⟩ = some (.bool (L[j]!).2.2.2) := by
  obtain ⟨a', c', e, _, h⟩ := h.sk
  injection e with e1 e2 e3
  rcases h with h | ⟨b, off, h1, h2, h3⟩
  · subst h; simp at hj
  · rw [← e1] at h1
    injection h1 with h1
    injection h1 with h1 h4
    subst h1 h4
    have := en_cells h3 hj
    simp only [Nat.zero_add] at this
    exact this
/-- Two elements swapped. -/
def swpE (L : List En) (i j : Nat) : List En := (L.set i L[j]!).set j L[i]!
theorem swpE_len (L : List En) (i j : Nat) : (swpE L i j).length = L.length := by unfold swpE; simp
/-- Swapped ranges: the m elements from a on with those from b on. -/
def swpR (L : List En) (a b : Nat) : Nat → List En
  | 0 => L
  | m + 1 => swpE (swpR L a b m) (a + m) (b + m)
theorem swpR_len (L : List En) (a b m : Nat) : (swpR L a b m).length = L.length := by
  induction m with
  | zero => rfl
  | succ m ih => unfold swpR; rw [swpE_len, ih]
theorem row_swp {B : Nat} {w : World} {g n c : Nat} {L : List En} (h : RowK enE 48 B w (.slice (some ⟨g, 0, none⟩) n c) L) {i j : Nat} (hi : i < L.length) (hj : j < L.length) : RowK enE 48 B (put6 (put6 w g i L[j]!) g j L[i]!) (.slice (some ⟨g, 0, none⟩) n c) (swpE L i j) ∧ w.grownBy (put6 (put6 w g i L[j]!) g j L[i]!) (some g) :=
  ⟨row_put (row_put h hi _) (by rw [List.length_set]; exact hj) _, (put6_grown _ _ _ _).trans (put6_grown _ _ _ _)⟩
end Go.Proofs.YtjphhfgomlchoaaDoor
