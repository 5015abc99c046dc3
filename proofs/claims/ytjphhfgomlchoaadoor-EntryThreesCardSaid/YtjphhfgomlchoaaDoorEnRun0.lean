/- Three swaps: the law's argument, the search for a location written twice. -/
import Derived.Test.YtjphhfgomlchoaaDoorEnMade
namespace Go.Proofs.YtjphhfgomlchoaaDoor
open Go.ChangeShapes Go.WideShapes Go.ChangeAt Go.RowKit Go.Maps
theorem flat_set {α : Type} [Inhabited α] {E : Enc α} (L : List α) {i j : Nat} (hi : i < L.length) (hj : j < E.k) {u : Value} {a : α} (ha : E.enc a = (E.enc L[i]!).set j u) : (E.flat L).set (i * E.k + j) u = E.flat (L.set i a) := by
  have hlt : i * E.k + j < L.length * E.k := by
    have : (i + 1) * E.k ≤ L.length * E.k := Nat.mul_le_mul_right _ hi
    rw [Nat.succ_mul] at this
    omega
  apply List.ext_getElem?
  intro x
  rcases Nat.lt_or_ge x (L.length * E.k) with hx | hx
  · have hp := E.pos
    have hr : x % E.k < E.k := Nat.mod_lt _ hp
    have hd : x / E.k < L.length := (Nat.div_lt_iff_lt_mul hp).2 hx
    have e : x = x / E.k * E.k + x % E.k := by rw [Nat.mul_comm]; exact (Nat.div_add_mod x E.k).symm
    rw [List.getElem?_set]
    by_cases hxe : i * E.k + j = x
    · rw [if_pos hxe, if_pos (by rw [flatK_len]; omega)]
      rw [← hxe, flatK_at _ _ _ (by rw [List.length_set]; exact hi) hj, getElem!_pos _ i (by rw [List.length_set]; exact hi), List.getElem_set_self, ha, List.getElem?_set_self (by rw [E.len]; exact hj)]
    · rw [if_neg hxe, e, flatK_at _ _ _ hd hr, flatK_at _ _ _ (by rw [List.length_set]; exact hd) hr, getElem!_pos (L.set i a) _ (by rw [List.length_set]; exact hd)]
      by_cases hxi : i = x / E.k
      · subst hxi
        have hjx : j ≠ x % E.k := fun h => hxe (by rw [h]; exact e.symm)
        rw [List.getElem_set_self, ha, List.getElem?_set_ne hjx]
      · rw [List.getElem_set_ne hxi, getElem!_pos L _ hd]
  · rw [List.getElem?_eq_none (by rw [List.length_set, flatK_len]; exact hx), List.getElem?_eq_none (by rw [flatK_len, List.length_set]; exact hx)]
/-- The cells of a Run. -/
def rcL (W : List Wd) (a b c : Value) : List Value := wdE.flat W ++ [a, b, c]
theorem flat18 {W : List Wd} (h : W.length = 6) : (wdE.flat W).length = 18 := by rw [flatK_len, h]; rfl
theorem rc_word {W : List Wd} (h : W.length = 6) (a b c : Value) {i : Nat} (hi : i < 6) : (rcL W a b c)[i * 3]? = some (.int .i64 (W[i]!).1) ∧ (rcL W a b c)[i * 3 + 1]? = some (.int .u32 (W[i]!).2.1) ∧ (rcL W a b c)[i * 3 + 2]? = some (.int .u32 (W[i]!).2.2) := by
  have hf := flat18 h
  have e : ∀ j, j < 3 → (rcL W a b c)[i * 3 + j]? = (wdE.enc W[i]!)[j]? := fun j hj => by
    unfold rcL
    rw [List.getElem?_append_left (by rw [hf]; omega)]
    exact flatK_at W i j (by omega) hj
  exact ⟨e 0 (by omega), e 1 (by omega), e 2 (by omega)⟩
theorem rc_tail {W : List Wd} (h : W.length = 6) (a b c : Value) : (rcL W a b c)[18]? = some a ∧ (rcL W a b c)[19]? = some b ∧ (rcL W a b c)[20]? = some c := by
  have hf := flat18 h
  unfold rcL
  refine ⟨?_, ?_, ?_⟩
  · rw [List.getElem?_append_right (by omega), hf]; rfl
  · rw [List.getElem?_append_right (by omega), hf]; rfl
  · rw [List.getElem?_append_right (by omega), hf]; rfl
theorem rc_set {W : List Wd} (h : W.length = 6) (a b c : Value) {i : Nat} (hi : i < 6) (z : Int) : (rcL W a b c).set (i * 3 + 2) (.int .u32 z) = rcL (W.set i ((W[i]!).1, (W[i]!).2.1, z)) a b c := by
  unfold rcL
  rw [List.set_append_left _ _ (by rw [flat18 h]; omega)]
  congr 1
  exact flat_set (E := wdE) W (i := i) (j := 2) (by omega) (show 2 < 3 by omega) rfl
theorem rc_range {w : World} {q : Nat} {W : List Wd} {a b c : Value} (_ : W.length = 6) (hb : Box w q (rcL W a b c).toArray 43) : w.rangeAt q 0 (wdE.flat W) := by
  intro j v hv
  have hj : j < (wdE.flat W).length := (List.getElem?_eq_some_iff.1 hv).1
  rw [Nat.zero_add, hb.cell]
  simp only [List.getElem?_toArray]
  unfold rcL
  rw [List.getElem?_append_left hj]
  exact hv
theorem arr_word {cs : Array Value} {W : List Wd} (h : Arr6 cs W) {i : Nat} (hi : i < 6) : cs[i * 3]? = some (.int .i64 (W[i]!).1) ∧ cs[i * 3 + 1]? = some (.int .u32 (W[i]!).2.1) ∧ cs[i * 3 + 2]? = some (.int .u32 (W[i]!).2.2) := by
  have e : ∀ j, j < 3 → cs[i * 3 + j]? = (wdE.enc W[i]!)[j]? := fun j hj => by
    rw [h.1, List.getElem?_toArray]
    exact flatK_at W i j (by rw [h.2]; exact hi) hj
  exact ⟨e 0 (by omega), e 1 (by omega), e 2 (by omega)⟩
/-- The references of the first i words struck. -/
def clr (W : List Wd) : Nat → List Wd
  | 0 => W
  | i + 1 => (clr W i).set i (((clr W i)[i]!).1, ((clr W i)[i]!).2.1, 0)
theorem clr_len (W : List Wd) (i : Nat) : (clr W i).length = W.length := by
  induction i with
  | zero => rfl
  | succ i ih => unfold clr; rw [List.length_set]; exact ih
theorem clr_at {W : List Wd} (h : W.length = 6) (i : Nat) : ∀ j, j < 6 → (clr W i)[j]! = if j < i then ((W[j]!).1, (W[j]!).2.1, 0) else W[j]! := by
  induction i with
  | zero => intro j _; rfl
  | succ i ih =>
    intro j hj
    have hl : (clr W i).length = 6 := by rw [clr_len]; exact h
    unfold clr
    by_cases e : j = i
    · subst e
      rw [getElem!_pos _ j (by rw [List.length_set, hl]; exact hj), List.getElem_set_self, ih j hj, if_neg (by omega), if_pos (by omega)]
    · have e2 : ((clr W i).set i (((clr W i)[i]!).1, ((clr W i)[i]!).2.1, 0))[j]! = (clr W i)[j]! := by
        rw [getElem!_pos _ j (by rw [List.length_set, hl]; exact hj), getElem!_pos _ j (by rw [hl]; exact hj), List.getElem_set_ne (by omega)]
      rw [e2, ih j hj]
      by_cases h1 : j < i
      · rw [if_pos h1, if_pos (by omega)]
      · rw [if_neg h1, if_neg (by omega)]
/-- Whether two entries write one location. -/
def pq (p q : En) : Bool := decide (p.1 = q.1) && (p.2.2.2 && q.2.2.2)
def tw (A B : List En) : Bool := A.any fun p => B.any (pq p)
theorem tw_iff (A B : List En) : tw A B = true ↔ twiceP A B := by
  unfold tw twiceP pq
  simp only [List.any_eq_true, Bool.and_eq_true, decide_eq_true_eq]
theorem any_take {α : Type} [Inhabited α] (L : List α) (f : α → Bool) {j : Nat} (h : j < L.length) : (L.take (j + 1)).any f = ((L.take j).any f || f L[j]!) := by
  rw [take_snoc L h, List.any_append]
  simp
theorem insS_eq : insS = srt := funext insS_srt
theorem low_clr {W : List Wd} (h : W.length = 6) (hO : ∀ x ∈ W, OkW x) (hv : ∀ j, j < 6 → (W[j]!).2.1 ≤ 1073741824) : Low 1073741824 (clr W 6) := by
  intro i hi
  rw [clr_at h 6 i hi, if_pos hi]
  have := (hO W[i]! (mem_at (by omega))).2.1
  exact ⟨rfl, this.1, hv i hi⟩
/-- A Run that is opened. -/
def RunV (W : List Wd) (a b c : Value) : Value := .agg (rcL W a b c).toArray
end Go.Proofs.YtjphhfgomlchoaaDoor
