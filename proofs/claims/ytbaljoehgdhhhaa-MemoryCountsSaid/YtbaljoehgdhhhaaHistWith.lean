/- The contract of history's with. -/
import Derived.Test.YtbaljoehgdhhhaaHistBase
namespace Go.Proofs.Ytbaljoehgdhhhaa
open Go.RowKit Go.Shelf Go.Maps

theorem infoMsg : (Try.prog.info? 70).map (fun i => (i.zero, i.size, i.bytes)) = some (some (.agg #[.int .i64 0, .int .u32 0, .int .u32 0, .int .i64 0, .map none]), 5, 32) := by kernel_rfl

theorem b3 (w : World) (a b c : Obj) : Below w.heap.size w (((w.alloc a).alloc b).alloc c) := (b2 w a b).alloc (by simp; omega) _

/-- A new history: its messages lie in a block of the call's own. -/
def NewHist (w : World) (q : List MP) (e : Ending) (w' : World) : Prop :=
  ∃ b, w.heap.size ≤ b ∧ e = .returned (.agg #[.slice (some ⟨b, 0, none⟩) q.length q.length]) ∧ HW w' (.slice (some ⟨b, 0, none⟩) q.length q.length) q ∧ Below w.heap.size w w'

theorem own_block {w : World} {base size g n : Nat} {e : TypeId} {xs : List Value} (h : w.ownsRow base e size (.slice (some ⟨g, 0, none⟩) n n) n xs) : w.heap[g]? = some (.cells xs.toArray e (0, 0)) := by
  obtain ⟨h1, ⟨h2, _⟩ | ⟨g', cap, cur, hv, _, hh, _, _, hs, ht⟩⟩ := h
  · cases h2
  · cases hv
    rw [hh]
    congr 2
    rw [List.take_of_length_le (by simp [hs])] at ht
    rw [← ht]

theorem splice_two {α : Type} (Z X Y : List α) (k : Nat) (hk : X.length = k) (hZ : Z.length = k + Y.length) : splice (splice Z 0 X) k Y = X ++ Y := by
  subst hk
  have e1 : splice Z 0 X = X ++ Z.drop X.length := by simp [splice]
  rw [e1]
  unfold splice
  have e2 : (X ++ Z.drop X.length).take X.length = X := by simp
  have e3 : (X ++ Z.drop X.length).drop (X.length + Y.length) = [] := List.drop_eq_nil_of_le (by simp; omega)
  rw [e2, e3]; simp

set_option maxRecDepth 100000 in
set_option maxHeartbeats 800000 in
theorem with_two (v v2 : Value) (q q2 : List MP) (w : World) (h : HW w v q) (h2 : HW w v2 q2) (hl : q.length + q2.length ≤ 100000) (hq : 0 < q2.length) :
    Calls Try.prog 43 #[.agg #[v], v2] w (NewHist w (q ++ q2)) := by
  obtain ⟨a, rfl, ha⟩ := h.slice
  obtain ⟨a2, rfl, ha2⟩ := h2.slice
  have H := Lib.hid h
  have H2 := Lib.hid h2
  have HA := Lib.hid ha
  have HA2 := Lib.hid ha2
  clear h h2 ha ha2
  obtain ⟨n, hn⟩ : ∃ n, q.length = n := ⟨_, rfl⟩
  obtain ⟨n2, hn2⟩ : ∃ n, q2.length = n := ⟨_, rfl⟩
  obtain ⟨i, hi, hz0, hz1, hz2⟩ := info_parts infoMsg
  rw [hn, hn2] at hl
  rw [hn2] at hq
  rw [hn, hn2]
  go_enter Try.func43, Try.ntmps43
  go_wp2_with fail
  refine (len_any a n n _).mono ?_
  rintro e w1 ⟨rfl, rfl⟩
  go_wp2_with (first | (at_make; refine wpList_make_full _ rfl _ _ 63 rfl 0 70 i _ 5 Try.underlying63 hi hz0 hz1 _ _ _ _ (n + n2) rfl rfl (by omega) (by omega) (by rw [hz2]; omega) (by unfold maxLen; omega) (Nat.zero_le _) ?_))
  intro w1 hown hg
  have hk := own_block hown
  have lz := hown.1
  generalize (madeCells _ _).toList = Z at hk lz
  have B3 := (Below.refl _ _).grown hg (Nat.le_refl _) (fun j hj => by cases hj)
  simp only [World.size_alloc] at B3 hk
  clear hown hg
  have c0 : w1.cell? ⟨w.heap.size, 0, none⟩ = some (.slice a n n) := (B3.cell (p := ⟨w.heap.size, 0, none⟩) (by simp; omega)).trans (by simp [go_sem])
  have hpos : 0 < n → some (⟨w.heap.size + 1 + 1 + 1, 0, none⟩ : Addr) = some ⟨w.heap.size + 1 + 1 + 1, 0, none⟩ ∧ ∃ ad, a = some ad ∧ ∀ j v, (cellsL q)[j]? = some v → w1.cell? (ad.add j) = some v := fun h0 => by
    obtain ⟨b, t, hb, rfl, hkb⟩ := HA.out (by omega)
    refine ⟨rfl, _, rfl, fun j v hj => ?_⟩
    rw [add_none, Nat.zero_add, (B3.cell (p := ⟨b, j, none⟩) (by simp; omega)), (b3 w _ _ _).cell (by simpa using hb), cell_row hkb, hj]
  have HP := Lib.hid hpos
  have HB := Lib.hid B3
  have HK := Lib.hid hk
  clear hpos B3 hk
  go_wp2_with (refine wpList_copy_wide rfl (.tmp 13) (.tmp 15) 63 63 rfl 70 5 Try.underlying63 (by rw [hi]; simp [hz1]) _ _ _ _ _ _ rfl rfl (w.heap.size + 1 + 1 + 1) 0 Z 70 HK.out (cellsL q) n (by simp [Nat.min_def]) (by rw [cellsL_length, hn]) HP.out (by rw [cellsL_length, lz]; omega) (cellsL_one q) _ _ HB.out (Nat.le_refl _) ?_)
  intro w2 hk2 hb2
  have hpos2 : 0 < n2 → some (⟨w.heap.size + 1 + 1 + 1, n * 5, none⟩ : Addr) = some ⟨w.heap.size + 1 + 1 + 1, n * 5, none⟩ ∧ ∃ ad, a2 = some ad ∧ ∀ j v, (cellsL q2)[j]? = some v → w2.cell? (ad.add j) = some v := fun h0 => by
    obtain ⟨b, t, hb, rfl, hkb⟩ := HA2.out (by omega)
    refine ⟨rfl, _, rfl, fun j v hj => ?_⟩
    rw [add_none, Nat.zero_add, (hb2.cell (p := ⟨b, j, none⟩) (by simp; omega)), (b3 w _ _ _).cell (by simpa using hb), cell_row hkb, hj]
  have HP2 := Lib.hid hpos2
  have HB2 := Lib.hid hb2
  clear hpos2 hb2 HP HB HK c0
  have lz2 : (splice Z 0 (cellsL q)).length = (n + n2) * 5 := by rw [length_splice _ _ _ (by rw [cellsL_length, lz]; omega), lz]
  go_wp2_with (refine wpList_copy_wide rfl (.tmp 19) (.tmp 20) 63 63 rfl 70 5 Try.underlying63 (by rw [hi]; simp [hz1]) _ _ _ _ _ _ rfl rfl (w.heap.size + 1 + 1 + 1) (n * 5) (splice Z 0 (cellsL q)) 70 hk2.out (cellsL q2) n2 (by simp [Nat.min_def]) (by rw [cellsL_length, hn2]) HP2.out (by rw [cellsL_length, lz2]; omega) (cellsL_one q2) _ _ HB2.out (Nat.le_refl _) ?_)
  intro w3 hk3 hb3
  rw [splice_two Z (cellsL q) (cellsL q2) (n * 5) (by rw [cellsL_length, hn]) (by rw [lz, cellsL_length, hn2]; omega), ← cellsL_append] at hk3
  clear hk2 HB2 HP2 lz2 lz
  have c1 : w3.cell? ⟨w.heap.size + 1, 0, none⟩ = some (.slice none 0 0) := (hb3.cell (p := ⟨w.heap.size + 1, 0, none⟩) (by simp)).trans (by simp [go_sem])
  have f1 : w3.frozen? ⟨w.heap.size + 1, 0, none⟩ = false := (hb3.frozen (p := ⟨w.heap.size + 1, 0, none⟩) (by simp)).trans (by simp [go_sem])
  have B0 := Lib.hid ((b3 w _ _ _).trans (hb3.mono (by omega)))
  clear hb3
  have hle : (q ++ q2).length = n + n2 := by rw [List.length_append, hn, hn2]
  go_wp2
  refine bodyPost_ret (v := .agg #[.slice (some ⟨w.heap.size + 1 + 1 + 1, 0, none⟩) (n + n2) (n + n2)]) (by simp [results, Try.results43, go_sem, c1]) rfl ?_
  refine ⟨w.heap.size + 1 + 1 + 1, by omega, by rw [hle], ?_, B0.out.setCell (by simp) _⟩
  rw [hle]
  refine ⟨fun x hx => ?_, .inr ⟨_, _, by rw [hle], by rw [Below.heap_setCell _ _ _ _ (by simp; omega)]; exact hk3.out⟩⟩
  rcases List.mem_append.1 hx with hx | hx
  · exact (H.out.1 x hx).below (B0.out.setCell (by simp) _)
  · exact (H2.out.1 x hx).below (B0.out.setCell (by simp) _)
end Go.Proofs.Ytbaljoehgdhhhaa
