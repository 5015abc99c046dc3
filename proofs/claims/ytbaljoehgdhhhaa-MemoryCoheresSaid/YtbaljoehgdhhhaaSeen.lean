/- The contract of Seen. -/
import Derived.Test.YtbaljoehgdhhhaaAsk
namespace Go.Proofs.Ytbaljoehgdhhhaa
open Go.RowKit Go.Shelf Go.Maps

set_option maxRecDepth 100000 in
set_option maxHeartbeats 1600000 in
theorem seen_no (a1 a2 : Option Addr) (np nv : Nat) (t : Int) (w : World) (ht : t < 1 ∨ (nv : Int) < t) :
    Calls Try.prog 18 #[.agg #[.slice a1 np np, .slice a2 nv nv], .int .i64 t] w fun e w' => e = .returned (.agg #[.map none]) ∧ Below w.heap.size w w' := by
  have hd : decide (1 ≤ t ∧ t ≤ (nv : Int)) = false := by simp; omega
  have BB := Lib.hid (b2 w (.cells #[.slice a1 np np, .slice a2 nv nv] 31) (.cells #[.map none] 60))
  have R1 := Lib.hid (Box.new (w.alloc (.cells #[.slice a1 np np, .slice a2 nv nv] 31)) #[.map none] 60 (n := w.heap.size + 1) (by simp))
  clear ht
  go_enter Try.func18, Try.ntmps18
  go_wp2_with fail
  refine (hasThread_any a1 a2 np nv t _).mono ?_
  rintro e w1 ⟨rfl, hb⟩
  rw [hd]
  have r1 := R1.out.below hb
  have F := BB.out.trans (hb.mono BB.out.size)
  obtain ⟨m0, g0⟩ := r1.cells1
  have c0 := (r1.set 0 (.map none)).cells1.1
  have HF := Lib.hid (F.put (w.heap.size + 1) (by omega) 0 (.map none))
  clear hb F r1 R1 BB
  go_wp2
  refine bodyPost_ret (v := .agg #[.map none]) (by simp [results, Try.results18, go_sem, c0]) rfl ?_
  exact ⟨rfl, HF.out⟩

set_option maxRecDepth 100000 in
set_option maxHeartbeats 1600000 in
theorem seen_ok (pv vv : Value) (M : Mem) (k : Nat) (w : World) (h : MW w pv vv M) (hk : k < M.vs.length) (hl : M.vs.length ≤ 8) :
    Calls Try.prog 18 #[.agg #[pv, vv], .int .i64 ((k : Int) + 1)] w fun e w' => ∃ vp, e = .returned (.agg #[.map vp]) ∧ VW w' vp (M.view k) ∧ Below w.heap.size w w' := by
  obtain ⟨a1, a2, e1, e2⟩ := h.slices
  obtain ⟨P, V, r1, h3, h4, r2, h5, h6⟩ := h
  have l1 : V.length = M.vs.length := by rw [← h6, List.length_map]
  have lp : k < V.length := by omega
  have ep := List.getElem?_eq_getElem lp
  have hw := h5 _ (List.mem_of_getElem? ep)
  have em : V[k].2 = M.view k := by
    unfold Mem.view
    rw [← h6, List.getD_eq_getElem?_getD, List.getElem?_map, ep]; rfl
  rw [em] at hw
  rcases r2 with ⟨_, e0⟩ | ⟨bV, tV, rfl, hkV⟩
  · exfalso; have : V = [] := by simpa using e0
    subst this; simp at lp
  subst e1
  have hc : w.cell? ⟨bV, k, none⟩ = some (.map V[k].1) := by
    rw [cell_row hkV, List.getElem?_map, ep]; rfl
  have hbl : bV < w.heap.size := lt_block hkV
  simp only [List.length_map, l1] at e2 ⊢
  generalize V[k].1 = vp at *
  have HW0 := Lib.hid hw
  clear h3 h4 r1 h5 h6 hkV ep hw em e2 l1 lp
  obtain ⟨np, hnp⟩ : ∃ n, M.hs.length = n := ⟨_, rfl⟩
  obtain ⟨nv, hnv⟩ : ∃ n, M.vs.length = n := ⟨_, rfl⟩
  rw [hnv] at hk hl ⊢
  rw [hnp]
  have hd : decide (1 ≤ (k : Int) + 1 ∧ (k : Int) + 1 ≤ (nv : Int)) = true := by simp; omega
  have hwk : IntKind.i64.wrap ((k : Int)) = k := IntWalk.i64_in _ (by omega)
  clear hnp hnv
  have BM := Lib.hid (Box.alloc (Box.new w #[.slice a1 np np, .slice (some ⟨bV, 0, none⟩) nv nv] 31 rfl) (.cells #[.map none] 60))
  have R1 := Lib.hid (Box.new (w.alloc (.cells #[.slice a1 np np, .slice (some ⟨bV, 0, none⟩) nv nv] 31)) #[.map none] 60 (n := w.heap.size + 1) (by simp))
  have BB := Lib.hid (b2 w (.cells #[.slice a1 np np, .slice (some ⟨bV, 0, none⟩) nv nv] 31) (.cells #[.map none] 60))
  go_enter Try.func18, Try.ntmps18
  go_wp2_with fail
  refine (hasThread_any a1 _ np nv _ _).mono ?_
  rintro e w1 ⟨rfl, hb⟩
  rw [hd]
  have b1 := BM.out.below hb
  have r1 := R1.out.below hb
  have F2 := BB.out.trans (hb.mono BB.out.size)
  rw [← F2.cell (by simpa using hbl)] at hc
  obtain ⟨⟨m0, m1⟩, -⟩ := b1.cells2
  obtain ⟨k0, f0⟩ := r1.cells1
  have on := (Only.refl (w.heap.size + 1) w1).set 0 (.map vp)
  have G4 := Lib.hid ((HW0.out.below F2).only r1 on)
  have G5 := Lib.hid (F2.put (w.heap.size + 1) (by omega) 0 (.map vp))
  have c5 := (r1.set 0 (.map vp)).cells1.1
  clear hb b1 r1 F2 on BM R1 BB HW0
  go_wp2
  refine bodyPost_ret (v := .agg #[.map vp]) (by simp [results, Try.results18, go_sem, c5]) rfl ?_
  exact ⟨vp, rfl, G4.out, G5.out⟩
end Go.Proofs.Ytbaljoehgdhhhaa
