/- The initial words of a layout as a row of one's own; words stored into such a row. -/
import Derived.Test.YtfegeahieajmkaaDoorDsEqual
import Derived.Test.YtfegeahieajmkaaDoorLayFirst
namespace Go.Proofs.YtfegeahieajmkaaDoor
open Go.ChangeShapes Go.WideShapes Go.ChangeAt Go.RowKit Go.Maps
open Lay (startL checkI placeI mayI sizeI Ok starts checkI_ok)
def firstL (T C B : Nat) : List Wd := (List.range (startL T C B 7)).map fun i => (Lay.fv T C B T B i, 0, 0)
theorem firstL_len (T C B : Nat) : (firstL T C B).length = startL T C B 7 := by simp [firstL]
theorem firstL_at (T C B : Nat) {i : Nat} (h : i < startL T C B 7) : (firstL T C B)[i]! = (Lay.fv T C B T B i, 0, 0) := by
  rw [getElem!_pos _ i (by rw [firstL_len]; exact h)]; simp [firstL]
theorem firstL_ok (T C B : Nat) : ∀ x ∈ firstL T C B, OkW x := by
  intro x hx
  obtain ⟨i, _, rfl⟩ := List.mem_map.1 hx
  refine ⟨?_, by simp, by simp⟩
  unfold Lay.fv
  repeat' split
  all_goals (simp only; omega)
theorem row_of_fi {B b n : Nat} {f : Nat → Int} {W : World} (h : Lay.FI b n f W) (hB : B ≤ b) (hn : n ≤ 5200) : RowK wdE 47 B W (.slice (some ⟨b, 0, none⟩) n n) ((List.range n).map fun i => (f i, 0, 0)) := by
  obtain ⟨cs, h1, h2, h3⟩ := h
  refine RowK.ofBox h1 hB (by simp) ?_ (by simp; omega)
  apply List.ext_getElem?
  intro x
  have hl : (wdE.flat ((List.range n).map fun i => ((f i, 0, 0) : Wd))).length = n * 3 := by rw [flatK_len]; simp [wdE]
  rcases Nat.lt_or_ge x (n * 3) with hx | hx
  · obtain ⟨e0, e1, e2⟩ := h3 (x / 3) (by omega)
    have hg : ((List.range n).map fun i => ((f i, 0, 0) : Wd))[x / 3]! = (f (x / 3), 0, 0) := by
      rw [getElem!_pos _ (x / 3) (by simp; omega)]; simp
    have hf := flatK_at (E := wdE) ((List.range n).map fun i => ((f i, 0, 0) : Wd)) (x / 3) (x % 3) (by simp; omega) (show x % 3 < 3 by omega)
    rw [hg] at hf
    have hx3 : x / 3 * wdE.k + x % 3 = x := by show x / 3 * 3 + x % 3 = x; omega
    rw [hx3] at hf
    rw [hf, Array.getElem?_toList]
    rcases (show x % 3 = 0 ∨ x % 3 = 1 ∨ x % 3 = 2 by omega) with h | h | h
    · rw [h, show x = x / 3 * 3 by omega, e0]
      rw [show x / 3 * 3 / 3 = x / 3 by omega]
      rfl
    · rw [h, show x = x / 3 * 3 + 1 by omega, e1]; rfl
    · rw [h, show x = x / 3 * 3 + 2 by omega, e2]; rfl
  · rw [List.getElem?_eq_none (by rw [Array.length_toList, h2]; exact hx), List.getElem?_eq_none (by rw [hl]; exact hx)]
/-- A word stored into a row. -/
theorem RowK.put3 {B : Nat} {w : World} {g n c : Nat} {L : List Wd} (h : RowK wdE 47 B w (.slice (some ⟨g, 0, none⟩) n c) L) {i : Nat} (hi : i < L.length) (x y z : Int) : RowK wdE 47 B (((w.setCell ⟨g, i * 3, none⟩ (.int .i64 x)).setCell ⟨g, i * 3 + 1, none⟩ (.int .u32 y)).setCell ⟨g, i * 3 + 2, none⟩ (.int .u32 z)) (.slice (some ⟨g, 0, none⟩) n c) (L.set i (x, y, z)) := by
  obtain ⟨⟨l0, l1, l2⟩, hl⟩ : ∃ y, L[i]! = y := ⟨_, rfl⟩
  have h1 := h.set (i := i) (j := 0) hi (show 0 < 3 by omega) (u := .int .i64 x) (a := (x, l1, l2)) (by rw [hl]; rfl)
  have e1 : (L.set i ((x, l1, l2) : Wd))[i]! = (x, l1, l2) := by rw [getElem!_pos _ i (by simpa using hi)]; simp
  have h2 := h1.set (i := i) (j := 1) (by simpa using hi) (show 1 < 3 by omega) (u := .int .u32 y) (a := (x, y, l2)) (by rw [e1]; rfl)
  rw [List.set_set] at h2
  have e2 : (L.set i ((x, y, l2) : Wd))[i]! = (x, y, l2) := by rw [getElem!_pos _ i (by simpa using hi)]; simp
  have h3 := h2.set (i := i) (j := 2) (by simpa using hi) (show 2 < 3 by omega) (u := .int .u32 z) (a := (x, y, z)) (by rw [e2]; rfl)
  rw [List.set_set] at h3
  exact h3
theorem RowK.put3Below {B : Nat} {w0 w : World} {g n c : Nat} {L : List Wd} (h : RowK wdE 47 B w (.slice (some ⟨g, 0, none⟩) n c) L) (hb : Below B w0 w) (i : Nat) (x y z : Int) : Below B w0 (((w.setCell ⟨g, i * 3, none⟩ (.int .i64 x)).setCell ⟨g, i * 3 + 1, none⟩ (.int .u32 y)).setCell ⟨g, i * 3 + 2, none⟩ (.int .u32 z)) := by
  obtain ⟨h1, ⟨h2, _⟩ | ⟨g', cap, cur, hv, hB, hh, _⟩⟩ := h
  · cases h2
  injection hv with e1
  injection e1 with e1
  injection e1 with e1
  subst e1
  exact ((hb.setCell hB _).setCell hB _).setCell hB _
/-- The cells of a word of a row, and that they are not frozen. -/
theorem RowK.at3 {B : Nat} {w : World} {g n c : Nat} {L : List Wd} (h : RowK wdE 47 B w (.slice (some ⟨g, 0, none⟩) n c) L) {i : Nat} (hi : i < L.length) : (w.cell? ⟨g, i * 3, none⟩ = some (.int .i64 (L[i]!).1) ∧ w.cell? ⟨g, i * 3 + 1, none⟩ = some (.int .u32 (L[i]!).2.1) ∧ w.cell? ⟨g, i * 3 + 2, none⟩ = some (.int .u32 (L[i]!).2.2)) ∧ w.frozen? ⟨g, i * 3, none⟩ = false ∧ w.frozen? ⟨g, i * 3 + 1, none⟩ = false ∧ w.frozen? ⟨g, i * 3 + 2, none⟩ = false := by
  have hs := h.sk
  obtain ⟨a, cap, e, _, hz | ⟨b, off, ha, hl, hc⟩⟩ := hs
  · subst hz; simp at hi
  · injection e with e1 e2 e3
    have := e1.trans ha
    injection this with this
    injection this with e4 e5
    subst e4 e5
    have hc := wd_cells hc hi
    simp only [Nat.zero_add] at hc
    exact ⟨hc, h.free _, h.free _, h.free _⟩
/-- The first j words of X laid into M from a on. -/
def layN (M X : List Wd) (a : Nat) : Nat → List Wd
  | 0 => M
  | j + 1 => (layN M X a j).set (a + j) X[j]!
theorem layN_len (M X : List Wd) (a j : Nat) : (layN M X a j).length = M.length := by
  induction j with
  | zero => rfl
  | succ j ih => rw [layN, List.length_set, ih]
theorem layN_at (M X : List Wd) (a j p : Nat) (hp : p < M.length) : (layN M X a j)[p]! = if a ≤ p ∧ p < a + j then X[p - a]! else M[p]! := by
  induction j with
  | zero => rw [layN, if_neg (by omega)]
  | succ j ih =>
    rw [layN, getElem!_pos _ p (by rw [List.length_set, layN_len]; exact hp), List.getElem_set]
    by_cases h : a + j = p
    · rw [if_pos h, if_pos (by omega), ← h, Nat.add_sub_cancel_left]
    · rw [if_neg h, ← getElem!_pos (layN M X a j) p (by rw [layN_len]; exact hp), ih]
      by_cases h2 : a ≤ p ∧ p < a + j
      · rw [if_pos h2, if_pos (by omega)]
      · rw [if_neg h2, if_neg (by omega)]
theorem ok_set {M : List Wd} (h : ∀ x ∈ M, OkW x) (i : Nat) {a : Wd} (ha : OkW a) : ∀ x ∈ M.set i a, OkW x := by
  intro x hx
  rcases List.mem_or_eq_of_mem_set hx with hx | rfl
  · exact h x hx
  · exact ha
theorem layN_ok {M X : List Wd} (a j : Nat) (h : ∀ x ∈ M, OkW x) (hX : ∀ x ∈ X, OkW x) (hj : j ≤ X.length) : ∀ x ∈ layN M X a j, OkW x := by
  induction j with
  | zero => exact h
  | succ j ih => rw [layN]; exact ok_set (ih (by omega)) _ (hX _ (mem_at (by omega)))
end Go.Proofs.YtfegeahieajmkaaDoor
