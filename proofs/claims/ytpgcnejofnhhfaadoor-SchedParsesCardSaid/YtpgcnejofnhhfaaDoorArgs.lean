/- The arguments of the statements on schedules, opened. -/
import Derived.Test.YtpgcnejofnhhfaaDoorBase
import Derived.Test.YtpgcnejofnhhfaaDoorOpen
import Derived.ShutString
import Derived.ChangeOld
import Derived.Deep.SlicePairs
import Derived.Deep.Strs
namespace Go.Proofs.YtpgcnejofnhhfaaDoor
open Go Go.Joins Go.ChangeShapes Go.WideShapes Go.ChangeAt Go.RowKit Go.Deep

theorem laidOut : laidOutB Tryd.prog = true := by kernel_rfl
theorem i64_wf {n : Int} (h : (Lit.int .i64 n).wf = true) : -9223372036854775808 ≤ n ∧ n < 9223372036854775808 := by
  have := bounds_i64 h
  omega
theorem list3 {α : Type} {cs : List α} (h : cs.length = 3) : ∃ c0 c1 c2, cs = [c0, c1, c2] := by
  match cs, h with
  | [c0, c1, c2], _ => exact ⟨c0, c1, c2, rfl⟩
theorem list4 {α : Type} {cs : List α} (h : cs.length = 4) : ∃ c0 c1 c2 c3, cs = [c0, c1, c2, c3] := by
  match cs, h with
  | [c0, c1, c2, c3], _ => exact ⟨c0, c1, c2, c3, rfl⟩
section
variable {H : Type} {enc : TypeId × Value → H} {w : World} {base : Nat} {spare : Nat → Bool} {held : Bool}
theorem int_cell {t : TypeId} {k : IntKind} {n : Nat} {c : Value} {x : DataW H × List MemPlace} (ht : Tryd.prog.underlying t = some (.int k)) (h : DataW.trod enc Tryd.prog w base spare held n t [c] = some x) : ∃ N, c = .int k N ∧ (Lit.int k N).wf = true := by
  obtain ⟨N, g1, _, g3⟩ := DataW.trod_int ht h
  simp only [List.cons.injEq, and_true] at g1
  exact ⟨N, g1, g3⟩
theorem pick_cells {n : Nat} {cs : List Value} {x : DataW H × List MemPlace} (h : DataW.trod enc Tryd.prog w base spare held n 35 cs = some x) :
    ∃ o : Pk, cs = [.int .i64 o.1, .int .i64 o.2.1, .int .i64 o.2.2] ∧ I64 o.1 ∧ I64 o.2.1 ∧ I64 o.2.2 := by
  obtain ⟨y0, y1, y2, m, _, hl, h0, h1, h2⟩ := trod_struct3 Tryd.underlying35 h
  obtain ⟨c0, c1, c2, rfl⟩ := list3 (hl.trans (by kernel_rfl : Tryd.prog.cellsOf 35 = 3))
  rw [(by kernel_rfl : Tryd.prog.cellsOf 3 = 1)] at h0 h1 h2
  obtain ⟨a, rfl, ha⟩ := int_cell Tryd.underlying3 h0
  obtain ⟨b, rfl, hb⟩ := int_cell Tryd.underlying3 h1
  obtain ⟨c, rfl, hc⟩ := int_cell Tryd.underlying3 h2
  exact ⟨(a, b, c), rfl, i64_wf ha, i64_wf hb, i64_wf hc⟩
theorem drawn_cells {n : Nat} {cs : List Value} {x : DataW H × List MemPlace} (h : DataW.trod enc Tryd.prog w base spare held n 43 cs = some x) :
    ∃ s a b c, cs = [.int .u64 s, .int .i64 a, .int .i64 b, .int .i64 c] ∧ (0 ≤ s ∧ s < 18446744073709551616) := by
  obtain ⟨y0, y1, y2, y3, m, _, hl, h0, h1, h2, h3⟩ := trod_struct4 Tryd.underlying43 h
  obtain ⟨c0, c1, c2, c3, rfl⟩ := list4 (hl.trans (by kernel_rfl : Tryd.prog.cellsOf 43 = 4))
  rw [(by kernel_rfl : Tryd.prog.cellsOf 41 = 1)] at h0
  rw [(by kernel_rfl : Tryd.prog.cellsOf 3 = 1)] at h1 h2 h3
  obtain ⟨s, rfl, hs⟩ := int_cell Tryd.underlying41 h0
  obtain ⟨a, rfl, _⟩ := int_cell Tryd.underlying3 h1
  obtain ⟨b, rfl, _⟩ := int_cell Tryd.underlying3 h2
  obtain ⟨c, rfl, _⟩ := int_cell Tryd.underlying3 h3
  have := bounds_u64 hs
  exact ⟨s, a, b, c, rfl, by omega⟩
end
set_option maxRecDepth 100000 in
theorem open_drawn {H : Type} {enc : TypeId × Value → H} {W : World} {v : Value} {d : DataW H} {p : List MemPlace} {r : Reach} {b0 : Nat}
    (hv : Value.okWide Tryd.prog W r b0 43 v) (h : DataW.Trod enc Tryd.prog W 0 (fun _ => true) true 43 v d p) : ∃ s a b c, v = .agg #[.int .u64 s, .int .i64 a, .int .i64 b, .int .i64 c] ∧ (0 ≤ s ∧ s < 18446744073709551616) := by
  obtain ⟨cs, rfl, _⟩ := okWide_struct Tryd.underlying43 hv
  obtain ⟨fuel, hf⟩ := h
  obtain ⟨s, a, b, c, e, hs⟩ := drawn_cells hf
  refine ⟨s, a, b, c, ?_, hs⟩
  simp only [Value.cells] at e
  rw [← Array.toArray_toList (xs := cs), e]
set_option maxRecDepth 100000 in
theorem open_picks {H : Type} {enc : TypeId × Value → H} {W : World} {v : Value} {d : DataW H} {p : List MemPlace} {r : Reach} {b0 : Nat}
    (hv : Value.okWide Tryd.prog W r b0 23 v) (h : DataW.Trod enc Tryd.prog W 0 (fun _ => true) true 23 v d p) : ∃ l, PS W v l ∧ PkOk l := by
  obtain ⟨a, len, cap, rfl⟩ := okWide_slice Tryd.underlying23 hv
  obtain ⟨fuel, hf⟩ := h
  rcases open_slice Tryd.underlying23 hf with ⟨hcs, _⟩ | ⟨x, l', c', m, n, D, Pl, hcs, _, hl, hm, hmm, _, hall⟩
  · simp [Value.cells] at hcs
    obtain ⟨rfl, rfl, rfl⟩ := hcs
    exact ⟨[], PS.nil _ _ _, fun p hp => by cases hp⟩
  · simp [Value.cells] at hcs
    obtain ⟨rfl, rfl, rfl⟩ := hcs
    simp only [if_true] at hmm
    subst hmm
    rw [(by kernel_rfl : Tryd.prog.cellsOf 35 = 3)] at hall
    have each : ∀ i, i < m → ∃ o : Pk, (I64 o.1 ∧ I64 o.2.1 ∧ I64 o.2.2) ∧ W.cell? (x.add (i * 3)) = some (.int .i64 o.1) ∧ W.cell? (x.add (i * 3 + 1)) = some (.int .i64 o.2.1) ∧ W.cell? (x.add (i * 3 + 2)) = some (.int .i64 o.2.2) := by
      intro i hi
      obtain ⟨cs', h1, h2⟩ := hall i hi
      obtain ⟨o, rfl, ho⟩ := pick_cells h2
      obtain ⟨_, _, hcell⟩ := World.cells?_some h1
      refine ⟨o, ho, ?_, ?_, ?_⟩
      · simpa [add_add] using hcell 0 (by omega)
      · simpa [add_add] using hcell 1 (by omega)
      · simpa [add_add] using hcell 2 (by omega)
    cases hlen : len with
    | zero => exact ⟨[], PS.nil _ _ _, fun p hp => by cases hp⟩
    | succ k =>
      obtain ⟨b, off, spot⟩ := x
      have hc0 : ∃ v, W.cell? ((⟨b, off, spot⟩ : Addr).add (0 * 3)) = some v := by obtain ⟨o, _, h, _⟩ := each 0 (by omega); exact ⟨_, h⟩
      obtain ⟨v0, hc0⟩ := hc0
      have hspot : spot = none := by simpa [Addr.add] using World.cell?_spot hc0
      subst hspot
      have hlt : b < W.heap.size := by
        rcases Nat.lt_or_ge b W.heap.size with h' | h'
        · exact h'
        · simp [World.cell?, Addr.add, Array.getElem?_eq_none h'] at hc0
      obtain ⟨F, hF⟩ := choose_lt (α := Pk) each
      rw [← hlen]
      refine ⟨(List.range len).map F, ⟨some ⟨b, off, none⟩, m, by simp, .inr ⟨b, off, rfl, hlt, fun i hi => ?_⟩⟩, fun o ho => ?_⟩
      · have hi' : i < len := by simpa using hi
        obtain ⟨_, c0, c1, c2⟩ := hF i (by omega)
        have q : ((List.range len).map F).getD i zPk = F i := by simp [List.getD, hi']
        rw [q]
        rw [add_plain] at c0 c1 c2
        simp only [← Nat.add_assoc] at c0 c1 c2
        exact ⟨c0, c1, c2⟩
      · obtain ⟨i, hi, rfl⟩ := List.mem_map.1 ho
        have hi' := List.mem_range.1 hi
        exact (hF i (by omega)).1
end Go.Proofs.YtpgcnejofnhhfaaDoor
