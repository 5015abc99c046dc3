/- Rows of one-cell elements; the contracts of replaced. -/
import Derived.Test.YtbaljoehgdhhhaaHistOps
import Derived.Test.YtbaljoehgdhhhaaChoose
import Derived.Test.YtbaljoehgdhhhaaViewAt
import Derived.Test.YtbaljoehgdhhhaaViewJoin
namespace Go.Proofs.Ytbaljoehgdhhhaa
open Go.RowKit Go.Shelf Go.Maps

/-- The slice v holds just these cells, in a block of its own. -/
def RW (w : World) (v : Value) (cs : List Value) : Prop :=
  (v = .slice none 0 0 ∧ cs = []) ∨ ∃ b t, v = .slice (some ⟨b, 0, none⟩) cs.length cs.length ∧ w.heap[b]? = some (.cells cs.toArray t (0, 0))
theorem RW.below {w w1 : World} {v : Value} {cs : List Value} (h : RW w v cs) (hb : Below w.heap.size w w1) : RW w1 v cs := by
  rcases h with h | ⟨b, t, e, hk⟩
  · exact .inl h
  · exact .inr ⟨b, t, e, (hb.block b (lt_block hk)).trans hk⟩
theorem RW.slice {w : World} {v : Value} {cs : List Value} (h : RW w v cs) : ∃ a, v = .slice a cs.length cs.length ∧ (0 < cs.length → ∃ b t, b < w.heap.size ∧ a = some ⟨b, 0, none⟩ ∧ w.heap[b]? = some (.cells cs.toArray t (0, 0))) := by
  rcases h with ⟨rfl, rfl⟩ | ⟨b, t, rfl, hk⟩
  · exact ⟨none, rfl, by simp⟩
  · exact ⟨_, rfl, fun _ => ⟨b, t, lt_block hk, rfl, hk⟩⟩

theorem infoH : (Try.prog.info? 65).map (fun i => (i.zero, i.size, i.bytes)) = some (some (.agg #[.slice none 0 0]), 1, 24) := by kernel_rfl
theorem infoV : (Try.prog.info? 60).map (fun i => (i.zero, i.size, i.bytes)) = some (some (.agg #[.map none]), 1, 8) := by kernel_rfl

/-- A new row. -/
def NewRow (w : World) (cs : List Value) (e : Ending) (w' : World) : Prop :=
  ∃ b, w.heap.size ≤ b ∧ e = .returned (.slice (some ⟨b, 0, none⟩) cs.length cs.length) ∧ RW w' (.slice (some ⟨b, 0, none⟩) cs.length cs.length) cs ∧ Below w.heap.size w w'

set_option maxRecDepth 100000 in
set_option maxHeartbeats 1600000 in
theorem repl_h (v : Value) (cs : List Value) (i : Nat) (a' : Option Addr) (n' c' : Nat) (w : World) (h : RW w v cs) (h1 : ∀ x ∈ cs, x.oneCell' = true) (hi : i < cs.length) (hl : cs.length ≤ 100000) :
    Calls Try.prog 52 #[v, .int .i64 i, .agg #[.slice a' n' c']] w (NewRow w (cs.set i (.slice a' n' c'))) := by
  obtain ⟨a, rfl, hp⟩ := h.slice
  obtain ⟨b, t, hb, rfl, hk⟩ := hp (by omega)
  have HK := Lib.hid hk
  have H1 := Lib.hid h1
  clear h hp hk h1
  obtain ⟨n, hn⟩ : ∃ n, cs.length = n := ⟨_, rfl⟩
  have HN := Lib.hid hn
  obtain ⟨ti, hti, hz0, hz1, hz2⟩ := info_parts infoH
  rw [hn] at hi hl ⊢
  clear hn
  go_enter Try.func52, Try.ntmps52
  go_wp2_with (first | (at_make; refine wpList_make_full _ rfl _ _ 28 rfl 0 65 ti _ 1 Try.underlying28 hti hz0 hz1 _ _ _ _ n rfl rfl (by omega) (by omega) (by rw [hz2]; omega) (by unfold maxLen; omega) (Nat.zero_le _) ?_))
  intro w1 hown hg
  have hk := own_block hown
  have lz := hown.1
  generalize (madeCells _ _).toList = Z at hk lz
  have B1 := (Below.refl _ _).grown hg (Nat.le_refl _) (fun j hj => by cases hj)
  simp only [World.size_alloc] at B1 hk
  clear hown hg
  have c0 : w1.cell? ⟨w.heap.size, 0, none⟩ = some (.slice a' n' c') := (B1.cell (p := ⟨w.heap.size, 0, none⟩) (by simp)).trans (by simp [go_sem])
  have hpos : 0 < n → some (⟨w.heap.size + 1, 0, none⟩ : Addr) = some ⟨w.heap.size + 1, 0, none⟩ ∧ ∃ ad, some (⟨b, 0, none⟩ : Addr) = some ad ∧ ∀ j v, cs[j]? = some v → w1.cell? (ad.add j) = some v := fun h0 => by
    refine ⟨rfl, _, rfl, fun j v hj => ?_⟩
    rw [add_none, Nat.zero_add, B1.cell (p := ⟨b, j, none⟩) (by simp; omega), (below_new w _).cell (by simpa using hb), cell_row HK.out, hj]
  have HP := Lib.hid hpos
  have HB := Lib.hid B1
  have HKZ := Lib.hid hk
  clear hpos B1 hk
  go_wp2_with (refine wpList_copy_wide rfl (.tmp 11) (.tmp 12) 28 28 rfl 65 1 Try.underlying28 (by rw [hti]; simp [hz1]) _ _ _ _ _ _ rfl rfl (w.heap.size + 1) 0 Z 65 HKZ.out cs n (by simp [Nat.min_def]) (by rw [HN.out]; omega) HP.out (by rw [HN.out, lz]; omega) H1.out _ _ HB.out (Nat.le_refl _) ?_)
  intro w2 hk2 hb2
  have hspl : splice Z 0 cs = cs := by
    unfold splice
    have hcl := HN.out
    rw [List.take_zero, List.nil_append, List.drop_eq_nil_of_le (by omega), List.append_nil]
  rw [hspl] at hk2
  have c1 : w2.cell? ⟨w.heap.size, 0, none⟩ = some (.slice a' n' c') := (hb2.cell (p := ⟨w.heap.size, 0, none⟩) (by simp)).trans (by simp [go_sem])
  have hx : Box w2 (w.heap.size + 1) cs.toArray 65 := hk2.out
  have hci : ∃ u, w2.cell? ⟨w.heap.size + 1, i, none⟩ = some u := ⟨cs[i]'(by rw [HN.out]; exact hi), by rw [hx.cell i]; simp [HN.out, hi]⟩
  obtain ⟨u, hu⟩ := hci
  have hf := hx.free i
  have HX := Lib.hid (hx.set i (.slice a' n' c'))
  have B0 := Lib.hid ((below_new w (.cells #[.slice a' n' c'] 65)).trans (hb2.mono (by simp)))
  clear hx hk2 hb2 HP HB HKZ HK c0 lz hspl
  go_wp2
  go_ret
  have hle : (cs.set i (.slice a' n' c')).length = n := by rw [List.length_set, HN.out]
  refine ⟨w.heap.size + 1, by omega, by rw [hle]; rfl, .inr ⟨w.heap.size + 1, 65, rfl, ?_⟩, B0.out.put _ (by omega) i _⟩
  have := HX.out
  simpa [Box] using this

set_option maxRecDepth 100000 in
set_option maxHeartbeats 1600000 in
theorem repl_v (v : Value) (cs : List Value) (i : Nat) (p' : Option Nat) (w : World) (h : RW w v cs) (h1 : ∀ x ∈ cs, x.oneCell' = true) (hi : i < cs.length) (hl : cs.length ≤ 100000) :
    Calls Try.prog 53 #[v, .int .i64 i, .agg #[.map p']] w (NewRow w (cs.set i (.map p'))) := by
  obtain ⟨a, rfl, hp⟩ := h.slice
  obtain ⟨b, t, hb, rfl, hk⟩ := hp (by omega)
  have HK := Lib.hid hk
  have H1 := Lib.hid h1
  clear h hp hk h1
  obtain ⟨n, hn⟩ : ∃ n, cs.length = n := ⟨_, rfl⟩
  have HN := Lib.hid hn
  obtain ⟨ti, hti, hz0, hz1, hz2⟩ := info_parts infoV
  rw [hn] at hi hl ⊢
  clear hn
  go_enter Try.func53, Try.ntmps53
  go_wp2_with (first | (at_make; refine wpList_make_full _ rfl _ _ 29 rfl 0 60 ti _ 1 Try.underlying29 hti hz0 hz1 _ _ _ _ n rfl rfl (by omega) (by omega) (by rw [hz2]; omega) (by unfold maxLen; omega) (Nat.zero_le _) ?_))
  intro w1 hown hg
  have hk := own_block hown
  have lz := hown.1
  generalize (madeCells _ _).toList = Z at hk lz
  have B1 := (Below.refl _ _).grown hg (Nat.le_refl _) (fun j hj => by cases hj)
  simp only [World.size_alloc] at B1 hk
  clear hown hg
  have c0 : w1.cell? ⟨w.heap.size, 0, none⟩ = some (.map p') := (B1.cell (p := ⟨w.heap.size, 0, none⟩) (by simp)).trans (by simp [go_sem])
  have hpos : 0 < n → some (⟨w.heap.size + 1, 0, none⟩ : Addr) = some ⟨w.heap.size + 1, 0, none⟩ ∧ ∃ ad, some (⟨b, 0, none⟩ : Addr) = some ad ∧ ∀ j v, cs[j]? = some v → w1.cell? (ad.add j) = some v := fun h0 => by
    refine ⟨rfl, _, rfl, fun j v hj => ?_⟩
    rw [add_none, Nat.zero_add, B1.cell (p := ⟨b, j, none⟩) (by simp; omega), (below_new w _).cell (by simpa using hb), cell_row HK.out, hj]
  have HP := Lib.hid hpos
  have HB := Lib.hid B1
  have HKZ := Lib.hid hk
  clear hpos B1 hk
  go_wp2_with (refine wpList_copy_wide rfl (.tmp 11) (.tmp 12) 29 29 rfl 60 1 Try.underlying29 (by rw [hti]; simp [hz1]) _ _ _ _ _ _ rfl rfl (w.heap.size + 1) 0 Z 60 HKZ.out cs n (by simp [Nat.min_def]) (by rw [HN.out]; omega) HP.out (by rw [HN.out, lz]; omega) H1.out _ _ HB.out (Nat.le_refl _) ?_)
  intro w2 hk2 hb2
  have hspl : splice Z 0 cs = cs := by
    unfold splice
    have hcl := HN.out
    rw [List.take_zero, List.nil_append, List.drop_eq_nil_of_le (by omega), List.append_nil]
  rw [hspl] at hk2
  have c1 : w2.cell? ⟨w.heap.size, 0, none⟩ = some (.map p') := (hb2.cell (p := ⟨w.heap.size, 0, none⟩) (by simp)).trans (by simp [go_sem])
  have hx : Box w2 (w.heap.size + 1) cs.toArray 60 := hk2.out
  have hci : ∃ u, w2.cell? ⟨w.heap.size + 1, i, none⟩ = some u := ⟨cs[i]'(by rw [HN.out]; exact hi), by rw [hx.cell i]; simp [HN.out, hi]⟩
  obtain ⟨u, hu⟩ := hci
  have hf := hx.free i
  have HX := Lib.hid (hx.set i (.map p'))
  have B0 := Lib.hid ((below_new w (.cells #[.map p'] 60)).trans (hb2.mono (by simp)))
  clear hx hk2 hb2 HP HB HKZ HK c0 lz hspl
  go_wp2
  go_ret
  have hle : (cs.set i (.map p')).length = n := by rw [List.length_set, HN.out]
  refine ⟨w.heap.size + 1, by omega, by rw [hle]; rfl, .inr ⟨w.heap.size + 1, 60, rfl, ?_⟩, B0.out.put _ (by omega) i _⟩
  have := HX.out
  simpa [Box] using this

end Go.Proofs.Ytbaljoehgdhhhaa
