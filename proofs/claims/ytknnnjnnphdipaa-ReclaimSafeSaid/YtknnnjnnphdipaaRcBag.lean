/- The small functions of a bag: Len, with. -/
import Derived.Test.YtknnnjnnphdipaaRcItem
import Derived.Laws.CopyOwn
namespace Go.Proofs.Ytknnnjnnphdipaa
open Go.ChangeShapes Go.WideShapes Go.ChangeAt Go.RowKit Go.Maps
set_option maxRecDepth 100000 in
theorem len_any (cs : Array Value) (L : List It) (w : World) (h : BV cs L) : Calls Try.prog 17 #[.agg cs] w fun e w' => e = .returned (.int .i64 L.length) ∧ Below w.heap.size w w' := by
  have HB := Lib.hid (Box.new w cs 29 rfl)
  have c0 : (w.alloc (.cells cs 29)).cell? ⟨w.heap.size, 192, none⟩ = some (.int .i64 L.length) := (HB.out.cell 192).trans h.count
  clear h
  go_enter Try.func17, Try.ntmps17
  go_wp2_with fail
  go_ret
  exact ⟨rfl, below1 _ _⟩
def zBag : Array Value := Array.replicate 193 (.int .i64 0)
theorem zero29 (w : World) : (zeroValue 29).run Try.prog w = .ok (.agg zBag) w := by kernel_rfl
theorem BV.zero : BV zBag [] := ⟨by simp [zBag], fun i hi => by simp at hi, by simp [zBag], by simp, by kernel_rfl⟩
/-- The bag's cells behind with. -/
def addC (cs : Array Value) (n : Nat) (x : It) : Array Value := (((cs.setIfInBounds (n * 3) (.int .i64 x.1)).setIfInBounds (n * 3 + 1) (.int .i64 x.2.1)).setIfInBounds (n * 3 + 2) (.int .i64 x.2.2)).setIfInBounds 192 (.int .i64 (n + 1))
theorem all_set {cs : Array Value} (h : cs.all (·.oneCell') = true) (i : Nat) {u : Value} (hu : u.oneCell' = true) : (cs.setIfInBounds i u).all (·.oneCell') = true := by
  rw [Array.all_eq_true_iff_forall_mem] at *
  intro v hv
  rcases Array.mem_or_eq_of_mem_setIfInBounds hv with h1 | h1
  · exact h v h1
  · subst h1; exact hu
theorem BV.add {cs : Array Value} {L : List It} (h : BV cs L) {n : Nat} (hn : L.length = n) (hl : n < 64) (x : It) : BV (addC cs n x) (L ++ [x]) := by
  have hs := h.size
  refine ⟨by simp [addC, hs], fun i hi => ?_, by simp [addC, hs, hn], by simp; omega, ?_⟩
  · rw [List.length_append, List.length_singleton] at hi
    unfold addC
    simp only [Array.getElem?_setIfInBounds, Array.size_setIfInBounds, hs]
    by_cases e : i = n
    · subst e
      have e3 : (L ++ [x]).getD i zIt = x := by rw [List.getD, List.getElem?_append_right (by omega), hn]; simp
      rw [e3]
      refine ⟨?_, ?_, ?_⟩
      · rw [if_neg (by omega), if_neg (by omega), if_neg (by omega), if_pos rfl, if_pos (by omega)]
      · rw [if_neg (by omega), if_neg (by omega), if_pos rfl, if_pos (by omega)]
      · rw [if_neg (by omega), if_pos rfl, if_pos (by omega)]
    · have hi' : i < L.length := by omega
      obtain ⟨c0, c1, c2⟩ := h.at_ i hi'
      have e3 : (L ++ [x]).getD i zIt = L.getD i zIt := by rw [List.getD, List.getElem?_append_left hi']; rfl
      rw [e3]
      refine ⟨?_, ?_, ?_⟩
      · rw [if_neg (by omega), if_neg (by omega), if_neg (by omega), if_neg (by omega)]; exact c0
      · rw [if_neg (by omega), if_neg (by omega), if_neg (by omega), if_neg (by omega)]; exact c1
      · rw [if_neg (by omega), if_neg (by omega), if_neg (by omega), if_neg (by omega)]; exact c2
  · unfold addC
    exact all_set (all_set (all_set (all_set h.one _ rfl) _ rfl) _ rfl) _ rfl
theorem BV.any {cs : Array Value} {L : List It} (h : BV cs L) {j : Nat} (hj : j < 193) : ∃ u, cs[j]? = some u := ⟨_, Array.getElem?_eq_getElem (by rw [h.size]; exact hj)⟩
theorem Box.row {w : World} {b c : Nat} {cs ds : Array Value} {t : TypeId} (h : Box w b cs t) (hne : b ≠ c) : Box (w.setRow c ds) b cs t := (setRow_other w c b ds hne).trans h
theorem Box.rowSame {w : World} {b : Nat} {cs ds : Array Value} {t : TypeId} (h : Box w b cs t) : Box (w.setRow b ds) b ds t := setRow_heap w b cs ds t (0, 0) h
theorem below_row {B b : Nat} {w w1 : World} (h : Below B w w1) (hb : B ≤ b) (cs : Array Value) : Below B w (w1.setRow b cs) := below_setRow h hb cs
theorem wpList_loadBag {ops : Array Oper} {rest : List Oper} {d k : Nat} {ty : TypeId} {pos : String} {after : Array _} {a : Act} {w : World} {Q : Exit → Act → World → Prop} (g : Nat) (cs : Array Value) (t : TypeId)
    (hx : a.eval (.tmp k) = .pointer (some ⟨g, 0, none⟩)) (hg : Box w g cs t) (hs : cs.size = 193) (h : wpList Try.prog ops Q rest (a.put (some d) (.agg cs)) w) :
    wpList Try.prog ops Q (⟨some d, .load 29 (.tmp k), ty, pos, after, none⟩ :: rest) a w :=
  wpList_load_row rfl 29 (.tmp k) rfl g hx t cs (0, 0) _ hg Try.underlying29 rfl (by rw [hs]; exact infoBag) h
theorem wpList_storeBag {ops : Array Oper} {rest : List Oper} {p k : Nat} {ty : TypeId} {pos : String} {after : Array _} {a : Act} {w : World} {Q : Exit → Act → World → Prop} (g : Nat) (cs old : Array Value) (t : TypeId)
    (hx : a.eval (.tmp p) = .pointer (some ⟨g, 0, none⟩)) (hy : a.eval (.tmp k) = .agg cs) (hg : Box w g old t) (ho : old.size = 193) (hs : cs.size = 193) (h1 : cs.all (·.oneCell') = true) (h : wpList Try.prog ops Q rest (a.put none undef) (w.setRow g cs)) :
    wpList Try.prog ops Q (⟨none, .store 29 (.tmp p) (.tmp k), ty, pos, after, none⟩ :: rest) a w :=
  wpList_store_row rfl 29 (.tmp p) (.tmp k) rfl g cs hx hy t old hg (by rw [hs]; exact infoBag) (ho.trans hs.symm) h1 h
theorem zBag_size : zBag.size = 193 := by simp [zBag]
set_option maxRecDepth 100000 in
theorem with_any (cs : Array Value) (L : List It) (x : It) (w : World) (h : BV cs L) (hl : L.length < 64) : Calls Try.prog 21 #[.agg cs, itV x] w fun e w' => ∃ cs', e = .returned (.agg cs') ∧ BV cs' (L ++ [x]) ∧ Below w.heap.size w w' := by
  unfold itV
  have H := Lib.hid h
  clear h
  obtain ⟨n, hn⟩ : ∃ n, L.length = n := ⟨_, rfl⟩
  rw [hn] at hl
  have HN := Lib.hid hn
  clear hn
  have zv := zero29
  go_enter Try.func21, Try.ntmps21
  go_upto_region 1 with fail
  clear zv
  obtain ⟨q, hq⟩ : ∃ q, w.heap.size = q := ⟨_, rfl⟩
  obtain ⟨W, hW⟩ : ∃ W, ((w.alloc (.cells cs 29)).alloc (.cells #[.int .i64 x.1, .int .i64 x.2.1, .int .i64 x.2.2] 26)).alloc (.cells zBag 29) = W := ⟨_, rfl⟩
  have B0 : Hid (Box W q cs 29) := Lib.hid (by rw [← hW]; exact ((Box.new w cs 29 hq.symm).alloc _).alloc _)
  have B1 : Hid (Box W (q + 1) #[.int .i64 x.1, .int .i64 x.2.1, .int .i64 x.2.2] 26) := Lib.hid (by rw [← hW]; exact (Box.new (w.alloc (.cells cs 29)) _ 26 (by simp; omega)).alloc _)
  have B2 : Hid (Box W (q + 1 + 1) zBag 29) := Lib.hid (by rw [← hW]; exact Box.new _ _ 29 (by simp; omega))
  have BW : Hid (Below w.heap.size w W) := Lib.hid (by rw [← hW]; exact (((below1 w _).alloc (by simp) _).alloc (by simp; omega) _))
  rw [hW, hq]
  have HQ := Lib.hid hq
  clear hW hq
  have x0 := B1.out.cell 0
  have x1 := B1.out.cell 1
  have x2 := B1.out.cell 2
  simp at x0 x1 x2
  have c0 : W.cell? ⟨q, 192, none⟩ = some (.int .i64 n) := by rw [B0.out.cell, H.out.count, HN.out]
  obtain ⟨u0, hu0⟩ := H.out.any (j := n * 3) (by omega)
  obtain ⟨u1, hu1⟩ := H.out.any (j := n * 3 + 1) (by omega)
  obtain ⟨u2, hu2⟩ := H.out.any (j := n * 3 + 2) (by omega)
  have d0 := (B0.out.cell (n * 3)).trans hu0
  have d1 := (B0.out.cell (n * 3 + 1)).trans hu1
  have d2 := (B0.out.cell (n * 3 + 2)).trans hu2
  have f0 := B0.out.free (n * 3)
  have f1 := B0.out.free (n * 3 + 1)
  have f2 := B0.out.free (n * 3 + 2)
  clear hu0 hu1 hu2
  go_upto_region 2 with fail
  obtain ⟨W2, hW2⟩ : ∃ W2, ((W.setCell ⟨q, n * 3, none⟩ (.int .i64 x.1)).setCell ⟨q, n * 3 + 1, none⟩ (.int .i64 x.2.1)).setCell ⟨q, n * 3 + 2, none⟩ (.int .i64 x.2.2) = W2 := ⟨_, rfl⟩
  obtain ⟨c1, hc1⟩ : ∃ c, ((cs.setIfInBounds (n * 3) (.int .i64 x.1)).setIfInBounds (n * 3 + 1) (.int .i64 x.2.1)).setIfInBounds (n * 3 + 2) (.int .i64 x.2.2) = c := ⟨_, rfl⟩
  have HC : Hid (addC cs n x = c1.setIfInBounds 192 (.int .i64 (n + 1))) := Lib.hid (by rw [← hc1]; rfl)
  have C0 : Hid (Box W2 q c1 29) := Lib.hid (by rw [← hW2, ← hc1]; exact ((B0.out.set _ _).set _ _).set _ _)
  have C2 : Hid (Box W2 (q + 1 + 1) zBag 29) := Lib.hid (by rw [← hW2]; exact ((B2.out.other (by omega) _ _).other (by omega) _ _).other (by omega) _ _)
  have BW2 : Hid (Below w.heap.size w W2) := Lib.hid (by rw [← hW2]; exact ((BW.out.setCell (by simp [HQ.out]) _).setCell (by simp [HQ.out]) _).setCell (by simp [HQ.out]) _)
  have hs := H.out.size
  have e0 : W2.cell? ⟨q, 192, none⟩ = some (.int .i64 n) := by
    rw [C0.out.cell, ← hc1]
    simp only [Array.getElem?_setIfInBounds]
    rw [if_neg (by omega), if_neg (by omega), if_neg (by omega), H.out.count, HN.out]
  have e1 := C0.out.free 192
  rw [hW2]
  clear hW2 hc1 hs B0 B1 B2 BW c0 d0 d1 d2 f0 f1 f2 x0 x1 x2
  go_upto_region 3 with fail
  clear e0 e1
  obtain ⟨W3, hW3⟩ : ∃ W3, W2.setCell ⟨q, 192, none⟩ (.int .i64 ((n : Int) + 1)) = W3 := ⟨_, rfl⟩
  have HV := Lib.hid (H.out.add HN.out hl x)
  have D0 : Hid (Box W3 q (addC cs n x) 29) := Lib.hid (by rw [← hW3, HC.out]; exact C0.out.set _ _)
  have D2 : Hid (Box W3 (q + 1 + 1) zBag 29) := Lib.hid (by rw [← hW3]; exact C2.out.other (by omega) _ _)
  have BW3 : Hid (Below w.heap.size w W3) := Lib.hid (by rw [← hW3]; exact BW2.out.setCell (by simp [HQ.out]) _)
  rw [hW3]
  clear hW3 C0 C2 BW2 HC
  have D3 := Lib.hid (D2.out.rowSame (ds := addC cs n x))
  have BW4 := Lib.hid (below_row BW3.out (b := q + 1 + 1) (by have := HQ.out; omega) (addC cs n x))
  generalize addC cs n x = c2 at *
  have ZS := Lib.hid zBag_size
  go_wp2_with (first
    | ((with_reducible refine wpList_loadBag q c2 29 ?_ ?_ ?_ ?_); rfl; exact D0.out; exact HV.out.size)
    | ((with_reducible refine wpList_storeBag (q + 1 + 1) c2 zBag 29 ?_ ?_ ?_ ?_ ?_ ?_ ?_); rfl; rfl; exact D2.out; exact ZS.out; exact HV.out.size; exact HV.out.one)
    | fail)
  exact bodyPost_ret (v := .agg c2) (results_cell_row (P := Try.prog) rfl _ _ (q + 1 + 1) 29 c2 (0, 0) _ rfl D3.out Try.underlying29 rfl HV.out.info) rfl ⟨c2, rfl, HV.out, BW4.out⟩
end Go.Proofs.Ytknnnjnnphdipaa
