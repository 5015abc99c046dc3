/- The contracts of history's New, Add, At, Last and Choose. -/
import Derived.Test.YtbaljoehgdhhhaaHistWith
namespace Go.Proofs.Ytbaljoehgdhhhaa
open Go.RowKit Go.Shelf Go.Maps

theorem HW.one {w : World} {x : MP} {t : TypeId} {b : Nat} (hb : w.heap.size = b) (hv : VW w x.2 x.1.view) : HW (w.alloc (.cells #[.int .i64 x.1.val, .int .u32 x.1.ver, .int .u32 x.1.ref, .int .i64 x.1.thr, .map x.2] t)) (.slice (some ⟨b, 0, none⟩) 1 1) [x] := by
  subst hb
  refine ⟨fun y hy => ?_, .inr ⟨_, t, rfl, heap_alloc_new ..⟩⟩
  obtain rfl : y = x := by simpa using hy
  exact hv.alloc _

theorem HW.setCell {w : World} {v : Value} {q : List MP} (h : HW w v q) {b : Nat} {cs : Array Value} {t : TypeId} {f : Nat × Nat} (hk : w.heap[b]? = some (.cells cs t f)) (hb : ∀ a n c, v = .slice (some a) n c → b ≠ a.block) (o : Nat) (u : Value) : HW (w.setCell ⟨b, o, none⟩ u) v q := by
  refine ⟨fun x hx => ?_, ?_⟩
  · obtain ⟨h1, h2 | ⟨b', n, e, hn, ho⟩⟩ := h.1 x hx
    · exact ⟨h1, .inl h2⟩
    · refine ⟨h1, .inr ⟨b', n, e, hn, ho.setCell (fun hb => ?_) _⟩⟩
      simp only at hb
      obtain ⟨es, clock, hk', _⟩ := ho
      rw [hb, hk] at hk'
      cases hk'
  · rcases h.2 with h | ⟨b', t', e, hk'⟩
    · exact .inl h
    · exact .inr ⟨b', t', e, by rw [Below.heap_setCell _ _ _ _ (by have := hb _ _ _ e; simpa using fun e => this e.symm)]; exact hk'⟩

set_option maxRecDepth 100000 in
set_option maxHeartbeats 800000 in
theorem new_any (a b c : Int) (w : World) :
    Calls Try.prog 30 #[.agg #[.int .i64 a, .int .u32 b, .int .u32 c]] w (NewHist w [(⟨a, b, c, 0, []⟩, none)]) := by
  have h1 : HW (((w.alloc (.cells #[.int .i64 a, .int .u32 b, .int .u32 c] 45)).alloc (.cells #[.slice none 0 0] 65)).alloc (.cells #[.int .i64 a, .int .u32 b, .int .u32 c, .int .i64 0, .map none] 70)) (.slice (some ⟨w.heap.size + 1 + 1, 0, none⟩) 1 1) [(⟨a, b, c, 0, []⟩, none)] :=
    HW.one (x := (⟨a, b, c, 0, []⟩, none)) (by simp) (VW.nil _)
  have H1 := Lib.hid h1
  clear h1
  go_enter Try.func30, Try.ntmps30
  go_wp2_with fail
  refine (with_two _ _ [] [(⟨a, b, c, 0, []⟩, none)] _ (HW.nil _) H1.out (by simp) (by simp)).mono ?_
  rintro e w1 ⟨b1, hb1, rfl, h2, hB⟩
  simp only [World.size_alloc] at hB hb1
  have c1 : w1.cell? ⟨w.heap.size + 1, 0, none⟩ = some (.slice none 0 0) := (hB.cell (p := ⟨w.heap.size + 1, 0, none⟩) (by simp <;> omega)).trans (by simp [go_sem])
  have f1 : w1.frozen? ⟨w.heap.size + 1, 0, none⟩ = false := (hB.frozen (p := ⟨w.heap.size + 1, 0, none⟩) (by simp <;> omega)).trans (by simp [go_sem])
  have k1 : w1.heap[w.heap.size + 1]? = some (.cells #[.slice none 0 0] 65) := (hB.block _ (by omega)).trans (blkS (blk1 _ _ (by simp)))
  have H2 := Lib.hid (h2.setCell k1 (fun a n c e => by cases e; simp; omega) 0 (.slice (some ⟨b1, 0, none⟩) 1 1))
  have B0 := Lib.hid ((b3 w _ _ _).trans (hB.mono (by omega)))
  clear hB h2 k1 H1
  simp only [List.nil_append, List.length_cons, List.length_nil, Nat.zero_add] at H2 ⊢
  go_wp2
  refine bodyPost_ret (v := .agg #[.slice (some ⟨b1, 0, none⟩) 1 1]) (by simp [results, Try.results30, go_sem, c1]) rfl ?_
  exact ⟨b1, by omega, rfl, H2.out, B0.out.setCell (by simp) _⟩

set_option maxRecDepth 100000 in
set_option maxHeartbeats 800000 in
theorem add_raw (v : Value) (q : List MP) (a b c d : Int) (m : List (Int × Int)) (p : Option Nat) (w : World) (h : HW w v q) (hx : VW w p m) (hl : q.length < 100000) :
    Calls Try.prog 51 #[.agg #[v], .agg #[.int .i64 a, .int .u32 b, .int .u32 c, .int .i64 d, .map p]] w (NewHist w (q ++ [(⟨a, b, c, d, m⟩, p)])) := by
  obtain ⟨ad, rfl, _⟩ := h.slice
  have h1 : HW ((((w.alloc (.cells #[.slice ad q.length q.length] 65)).alloc (.cells #[.int .i64 a, .int .u32 b, .int .u32 c, .int .i64 d, .map p] 70)).alloc (.cells #[.slice none 0 0] 65)).alloc (.cells #[.int .i64 a, .int .u32 b, .int .u32 c, .int .i64 d, .map p] 70)) (.slice (some ⟨w.heap.size + 1 + 1 + 1, 0, none⟩) 1 1) [(⟨a, b, c, d, m⟩, p)] :=
    HW.one (x := (⟨a, b, c, d, m⟩, p)) (by simp) (((hx.alloc _).alloc _).alloc _)
  have H1 := Lib.hid h1
  have H0 := Lib.hid ((((h.alloc (.cells #[.slice ad q.length q.length] 65)).alloc (.cells #[.int .i64 a, .int .u32 b, .int .u32 c, .int .i64 d, .map p] 70)).alloc (.cells #[.slice none 0 0] 65)).alloc (.cells #[.int .i64 a, .int .u32 b, .int .u32 c, .int .i64 d, .map p] 70))
  clear h1 h hx
  obtain ⟨n, hn⟩ : ∃ n, q.length = n := ⟨_, rfl⟩
  have hle : (q ++ [((⟨a, b, c, d, m⟩ : Msg), p)]).length = n + 1 := by rw [List.length_append, hn]; rfl
  rw [hn] at hl H1 H0 ⊢
  go_enter Try.func51, Try.ntmps51
  go_wp2_with fail
  refine (with_two _ _ q [(⟨a, b, c, d, m⟩, p)] _ H0.out H1.out (by simp; omega) (by simp)).mono ?_
  rintro e w1 ⟨b1, hb1, rfl, h2, hB⟩
  rw [hle] at h2 ⊢
  simp only [World.size_alloc] at hB hb1
  have c1 : w1.cell? ⟨w.heap.size + 1 + 1, 0, none⟩ = some (.slice none 0 0) := (hB.cell (p := ⟨w.heap.size + 1 + 1, 0, none⟩) (by simp <;> omega)).trans (by simp [go_sem])
  have f1 : w1.frozen? ⟨w.heap.size + 1 + 1, 0, none⟩ = false := (hB.frozen (p := ⟨w.heap.size + 1 + 1, 0, none⟩) (by simp <;> omega)).trans (by simp [go_sem])
  have k1 : w1.heap[w.heap.size + 1 + 1]? = some (.cells #[.slice none 0 0] 65) := (hB.block _ (by omega)).trans (blkS (blk1 _ _ (by simp)))
  have H2 := Lib.hid (h2.setCell k1 (fun a n c e => by cases e; simp <;> omega) 0 (.slice (some ⟨b1, 0, none⟩) (n + 1) (n + 1)))
  have B0 := Lib.hid (((b3 w _ _ _).alloc (by simp; omega) _).trans (hB.mono (by omega)))
  clear hB h2 k1 H1 H0
  go_wp2
  refine bodyPost_ret (v := .agg #[.slice (some ⟨b1, 0, none⟩) (n + 1) (n + 1)]) (by simp [results, Try.results51, go_sem, c1]) rfl ?_
  exact ⟨b1, by omega, by rw [hle], by rw [hle]; exact H2.out, B0.out.setCell (by simp <;> omega) _⟩

theorem add_any (v : Value) (q : List MP) (x : MP) (w : World) (h : HW w v q) (hx : VW w x.2 x.1.view) (hl : q.length < 100000) :
    Calls Try.prog 51 #[.agg #[v], msgV x] w (NewHist w (q ++ [x])) := add_raw v q _ _ _ _ _ _ w h hx hl
end Go.Proofs.Ytbaljoehgdhhhaa
