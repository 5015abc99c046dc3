/- Sort of a list of fewer than 20 entries. -/
import Derived.Test.YtjphhfgomlchoaaDoorEnSmall
import Derived.Test.YtjphhfgomlchoaaDoorEnShelf
namespace Go.Proofs.YtjphhfgomlchoaaDoor
open Go.ChangeShapes Go.WideShapes Go.ChangeAt Go.RowKit Go.Maps
theorem flat_sort {α : Type} [Inhabited α] (E : Enc α) (L : List α) : (Go.Sort.flatK E.enc E.k L.toArray).toList = E.flat L := by
  apply List.ext_getElem?
  intro t
  have hp := E.pos
  rcases Nat.lt_or_ge t (L.length * E.k) with h | h
  · have hd : t / E.k < L.length := (Nat.div_lt_iff_lt_mul hp).2 h
    have hr : t % E.k < E.k := Nat.mod_lt _ hp
    have e : t = t / E.k * E.k + t % E.k := by rw [Nat.mul_comm]; exact (Nat.div_add_mod t E.k).symm
    have f := flatK_at (E := E) L _ _ hd hr
    rw [← e] at f
    rw [f, Array.getElem?_toList, Array.getElem?_eq_getElem (by rw [Go.Sort.size_flatK]; simpa using h), ← getElem!_pos _ t (by rw [Go.Sort.size_flatK]; simpa using h), Go.Sort.get_flatK _ _ _ _ (by simpa using h)]
    have e2 : L.toArray[t / E.k]! = L[t / E.k]! := by simp
    rw [e2, getElem!_pos (E.enc L[t / E.k]!) _ (by rw [E.len]; exact hr), List.getElem?_eq_getElem (by rw [E.len]; exact hr)]
  · rw [List.getElem?_eq_none (by rw [Array.length_toList, Go.Sort.size_flatK]; simpa using h), List.getElem?_eq_none (by rw [flatK_len]; exact h)]
theorem rowK_holds {α : Type} [Inhabited α] {E : Enc α} {t : TypeId} {B : Nat} {w : World} {g n c : Nat} {L : List α} (h : RowK E t B w (.slice (some ⟨g, 0, none⟩) n c) L) : Go.Sort.HoldsK E.enc E.k w g 0 L.toArray := by
  obtain ⟨h1, ⟨h2, _⟩ | ⟨g', cap, cur, hv, hB, hh, hc, hm, hs, ht⟩⟩ := h
  · cases h2
  injection hv with e1 e2 e3
  injection e1 with e1
  injection e1 with e1
  subst e1 e2 e3
  intro j hj
  have hj' : j < L.length * E.k := by simpa using hj
  refine ⟨?_, by simp [World.frozen?, hh]⟩
  have q : (cur.toList.take (L.length * E.k))[j]? = (E.flat L)[j]? := by rw [ht]
  rw [List.getElem?_take_of_lt hj'] at q
  simp only [World.cell?, hh, Nat.zero_add]
  simp only [Option.isSome_none, Bool.false_eq_true, if_false]
  rw [← Array.getElem?_toList, q, ← flat_sort, Array.getElem?_toList, Array.getElem?_eq_getElem hj, getElem!_pos _ j hj]
  rfl
theorem heap_sortK {w : World} {g n : Nat} {os : Array Obj} {cur : Array Value} {e : TypeId} {fr : Nat × Nat} (F : Array Value) (hb : w.heap[g]? = some (.cells cur e fr)) :
    (Go.Sort.grow (Go.Sort.putRow id (Go.Sort.ahead w n) g 0 F) os).heap[g]? = some (.cells (Go.Sort.putCells id 0 F cur) e fr) := by
  have hg : g < w.heap.size := (Array.getElem?_eq_some_iff.1 hb).1
  rw [Go.Sort.heap_grow_old _ _ (by simpa using hg)]
  simp [Go.Sort.putRow, Go.Sort.mapBlock, Go.Sort.ahead, Array.getElem?_modify, hb, Go.Sort.onCells]
theorem grown_sortK {w : World} {g n : Nat} {os : Array Obj} (F : Array Value) : w.grownBy (Go.Sort.grow (Go.Sort.putRow id (Go.Sort.ahead w n) g 0 F) os) (some g) := by
  refine ⟨rfl, rfl, rfl, by simp, fun k hk hne => ?_⟩
  rw [Go.Sort.heap_grow_old _ _ (by simpa using hk)]
  have : g ≠ k := fun e => hne (by rw [e])
  simp [Go.Sort.putRow, Go.Sort.mapBlock, Go.Sort.ahead, Array.getElem?_modify, this]
theorem take_putCellsK (cur F : Array Value) (h : F.size ≤ cur.size) : (Go.Sort.putCells id 0 F cur).toList.take F.size = F.toList := by
  apply List.ext_getElem?
  intro j
  by_cases hj : j < F.size
  · rw [List.getElem?_take_of_lt hj, Array.getElem?_toList]
    simp [Go.Sort.putCells, hj, show j < cur.size by omega]
  · rw [List.getElem?_take_eq_none (by omega), List.getElem?_eq_none (by simp; omega)]
/-- Behind the sort the same slice owns the list laid. -/
theorem rowK_sorted {α : Type} [Inhabited α] {E : Enc α} {t : TypeId} {B : Nat} {w : World} {g n c m : Nat} {os : Array Obj} {L L' : List α} (h : RowK E t B w (.slice (some ⟨g, 0, none⟩) n c) L) (hl : L'.length = L.length) : RowK E t B (sortWorldK E.enc E.k w g 0 m L'.toArray os) (.slice (some ⟨g, 0, none⟩) n c) L' ∧ w.grownBy (sortWorldK E.enc E.k w g 0 m L'.toArray os) (some g) := by
  refine ⟨?_, grown_sortK _⟩
  obtain ⟨h1, ⟨h2, _⟩ | ⟨g', cap, cur, hv, hB, hh, hc, hm, hs, ht⟩⟩ := h
  · cases h2
  injection hv with e1 e2 e3
  injection e1 with e1
  injection e1 with e1
  subst e1 e2 e3
  unfold RowK
  rw [hl]
  refine ⟨by rw [flatK_len, hl], .inr ⟨g, c, _, rfl, hB, heap_sortK _ hh, hc, hm, by simpa [Go.Sort.putCells] using hs, ?_⟩⟩
  have hz : (Go.Sort.flatK E.enc E.k L'.toArray).size = L.length * E.k := by rw [Go.Sort.size_flatK]; simp [hl]
  rw [← hz, take_putCellsK _ _ (by rw [hz, hs]; exact Nat.mul_le_mul_right _ hc), flat_sort]
def cmpE (x y : En) : Int := if x.1 < y.1 then -1 else if y.1 < x.1 then 1 else 0
set_option maxRecDepth 100000 in
theorem nan_any (a : Int) (w : World) : Calls Tryd.prog 45 #[.int .i64 a] w fun e w' => e = .returned (.bool false) ∧ w' = w := by
  have h : (a != a) = false := by simp
  go_enter Tryd.func45, Tryd.ntmps45
  go_wp2_with fail
  go_ret
  exact ⟨rfl, rfl⟩
set_option maxRecDepth 100000 in
theorem compare_any (a b : Int) (w : World) : Calls Tryd.prog 31 #[.int .i64 a, .int .i64 b] w fun e w' => e = .returned (.int .i64 (if a < b then -1 else if b < a then 1 else 0)) ∧ w' = w := by
  by_cases h1 : a < b
  · go_enter Tryd.func31, Tryd.ntmps31
    go_wp2_with fail
    refine (nan_any a w).mono ?_
    rintro e w' ⟨rfl, rfl⟩
    go_wp2_with fail
    refine (nan_any b _).mono ?_
    rintro e w' ⟨rfl, rfl⟩
    go_wp2_with fail
    go_ret
    exact ⟨by simp, rfl⟩
  · by_cases h2 : b < a
    · go_enter Tryd.func31, Tryd.ntmps31
      go_wp2_with fail
      refine (nan_any a w).mono ?_
      rintro e w' ⟨rfl, rfl⟩
      go_wp2_with fail
      refine (nan_any b _).mono ?_
      rintro e w' ⟨rfl, rfl⟩
      go_wp2_with fail
      go_ret
      exact ⟨by simp, rfl⟩
    · go_enter Tryd.func31, Tryd.ntmps31
      go_wp2_with fail
      refine (nan_any a w).mono ?_
      rintro e w' ⟨rfl, rfl⟩
      go_wp2_with fail
      refine (nan_any b _).mono ?_
      rintro e w' ⟨rfl, rfl⟩
      go_wp2_with fail
      go_ret
      exact ⟨by simp, rfl⟩
set_option maxRecDepth 100000 in
theorem cmp_any (x y : En) (w : World) : Calls Tryd.prog 30 #[.agg (enE.enc x).toArray, .agg (enE.enc y).toArray] w fun e w' => e = .returned (.int .i64 (cmpE x y)) ∧ ∃ os, w' = Go.Sort.grow w os := by
  obtain ⟨y0, ⟨y1, y2, y3⟩, y4, y5⟩ := x
  obtain ⟨z0, ⟨z1, z2, z3⟩, z4, z5⟩ := y
  unfold cmpE
  simp only [enE]
  have CC := Lib.hid (compare_any y0 z0)
  obtain ⟨r, hr⟩ : ∃ r : Int, (if y0 < z0 then -1 else if z0 < y0 then 1 else 0) = r := ⟨_, rfl⟩
  rw [hr] at CC ⊢
  clear hr
  go_enter Tryd.func30, Tryd.ntmps30
  go_wp2_with fail
  refine (CC.out _).mono ?_
  rintro e w' ⟨rfl, rfl⟩
  go_wp2_with fail
  go_ret
  exact ⟨rfl, _, by rw [Go.Sort.alloc_eq_grow, Go.Sort.alloc_eq_grow, Go.Sort.grow_grow]⟩
/-- The list sorted as slices.SortStableFunc does up to 19 entries. -/
def insS (L : List En) : List En := (Go.Sort.insertionSort (ltOf cmpE) L.toArray 0 L.length).toList
theorem eg30 : ∀ args w, (callFunc 30 args).run Tryd.prog w = .ok (.enter 30 args) w := by
  intro args w
  exact (enters_of Tryd.func30 rfl rfl args w)
theorem insertion_any (g n c : Nat) (L : List En) (B : Nat) (w : World) (h : RowK enE 48 B w (.slice (some ⟨g, 0, none⟩) n c) L) (hl : L.length ≤ 1000) : Calls Tryd.prog 56 #[.slice (some ⟨g, 0, none⟩) n c, .int .i64 0, .int .i64 n, .func (.func 30) #[] #[]] w fun e w' => e = .returned (.tuple #[]) ∧ ∃ m os, w' = sortWorldK enE.enc enE.k w g 0 m (Go.Sort.insertionSort (ltOf cmpE) L.toArray 0 L.length) os := by
  have hn : n = L.length := by
    obtain ⟨a', c', e, _⟩ := h.sk
    injection e
  subst hn
  have := AnyQ.insertionSortCmpFunc Tryd.laysIns enE.k Tryd.isAgg48 Tryd.sizeOf48 enE.enc enE.len enE.one cmpE 30 #[] g 0 c 0 L.length L.toArray w eg30 (fun m os dk hs x y => by
    have := cmp_any x y (sortWorldK enE.enc enE.k w g 0 m dk os)
    exact this.mono fun e w' ⟨he, os', hw⟩ => ⟨he, 0, os', hw⟩) (rowK_holds h) (by
      obtain ⟨h1, ⟨h2, _⟩ | ⟨g', cap, cur, hv, hB, hh, _⟩⟩ := h
      · cases h2
      · injection hv with e1; injection e1 with e1; injection e1 with e1; rw [e1]; exact lt_block hh) (Nat.zero_le _) (by simp) (by simp; omega)
  exact this
end Go.Proofs.YtjphhfgomlchoaaDoor
