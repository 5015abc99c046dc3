/- The arguments of the statements on reclaiming, opened: a slice of items, slices of ints. -/
import Derived.Test.YtknnnjnnphdipaaRcProt
import Derived.Test.YtknnnjnnphdipaaRows
import Derived.ProofKit
import Derived.ShutString
import Derived.ChangeOld
import Derived.Deep.SlicePairs
import Derived.Deep.Strs
import Derived.Lib.SmallJoins
namespace Go.Proofs.Ytknnnjnnphdipaa
open Go.Joins Go.ChangeShapes Go.WideShapes Go.ChangeAt Go.RowKit Go.Deep

theorem own : ownKnob Try.prog.godebug = none := by kernel_rfl
theorem laidOut : laidOutB Try.prog = true := by kernel_rfl
theorem i64_wf {n : Int} (h : (Lit.int .i64 n).wf = true) : I64 n := by
  have := bounds_i64 h
  unfold I64
  omega
theorem list3 {α : Type} {cs : List α} (h : cs.length = 3) : ∃ c0 c1 c2, cs = [c0, c1, c2] := by
  match cs, h with
  | [c0, c1, c2], _ => exact ⟨c0, c1, c2, rfl⟩
section
variable {H : Type} {enc : TypeId × Value → H} {w : World} {base : Nat} {spare : Nat → Bool} {held : Bool}
theorem int_cell {t : TypeId} {k : IntKind} {n : Nat} {c : Value} {x : DataW H × List MemPlace} (ht : Try.prog.underlying t = some (.int k)) (h : DataW.trod enc Try.prog w base spare held n t [c] = some x) : ∃ N, c = .int k N ∧ (Lit.int k N).wf = true := by
  obtain ⟨N, g1, _, g3⟩ := DataW.trod_int ht h
  simp only [List.cons.injEq, and_true] at g1
  exact ⟨N, g1, g3⟩
theorem item_cells {n : Nat} {cs : List Value} {x : DataW H × List MemPlace} (h : DataW.trod enc Try.prog w base spare held n 26 cs = some x) :
    ∃ o : It, cs = [.int .i64 o.1, .int .i64 o.2.1, .int .i64 o.2.2] := by
  obtain ⟨y0, y1, y2, m, _, hl, h0, h1, h2⟩ := trod_struct3 Try.underlying26 h
  obtain ⟨c0, c1, c2, rfl⟩ := list3 (hl.trans (by kernel_rfl : Try.prog.cellsOf 26 = 3))
  rw [(by kernel_rfl : Try.prog.cellsOf 3 = 1)] at h0
  rw [(by kernel_rfl : Try.prog.cellsOf 2 = 1)] at h1 h2
  obtain ⟨a, rfl, ha⟩ := int_cell Try.underlying3 h0
  obtain ⟨b, rfl, hb⟩ := int_cell Try.underlying2 h1
  obtain ⟨c, rfl, hc⟩ := int_cell Try.underlying2 h2
  exact ⟨(a, b, c), rfl⟩
end
set_option maxRecDepth 100000 in
theorem open_ints {H : Type} {enc : TypeId × Value → H} {W : World} {v : Value} {d : DataW H} {p : List MemPlace} {r : Reach} {b0 : Nat}
    (hv : Value.okWide Try.prog W r b0 38 v) (h : DataW.Trod enc Try.prog W 0 (fun _ => true) true 38 v d p) : ∃ l, IS W v l ∧ OkL l := by
  obtain ⟨a, len, cap, rfl⟩ := okWide_slice Try.underlying38 hv
  obtain ⟨fuel, hf⟩ := h
  rcases open_slice Try.underlying38 hf with ⟨hcs, _⟩ | ⟨x, l', c', m, n, D, Pl, hcs, _, hl, hm, hmm, _, hall⟩
  · simp [Value.cells] at hcs
    obtain ⟨rfl, rfl, rfl⟩ := hcs
    exact ⟨[], IS.nil _ _ _, fun p hp => by cases hp⟩
  · simp [Value.cells] at hcs
    obtain ⟨rfl, rfl, rfl⟩ := hcs
    simp only [if_true] at hmm
    subst hmm
    rw [(by kernel_rfl : Try.prog.cellsOf 2 = 1)] at hall
    have each : ∀ i, i < m → ∃ o : Int, I64 o ∧ W.cell? (x.add i) = some (.int .i64 o) := by
      intro i hi
      obtain ⟨cs', h1, h2⟩ := hall i hi
      obtain ⟨hlen, _, hcell⟩ := World.cells?_some h1
      match cs', hlen with
      | [c], _ =>
        obtain ⟨N, rfl, hN⟩ := int_cell Try.underlying2 h2
        exact ⟨N, i64_wf hN, by simpa [add_add] using hcell 0 (by omega)⟩
    cases hlen : len with
    | zero => exact ⟨[], IS.nil _ _ _, fun p hp => by cases hp⟩
    | succ k =>
      obtain ⟨b, off, spot⟩ := x
      obtain ⟨v0, hc0⟩ : ∃ v, W.cell? ((⟨b, off, spot⟩ : Addr).add 0) = some v := by obtain ⟨o, _, h⟩ := each 0 (by omega); exact ⟨_, h⟩
      have hspot : spot = none := by simpa [Addr.add] using World.cell?_spot hc0
      subst hspot
      have hlt : b < W.heap.size := by
        rcases Nat.lt_or_ge b W.heap.size with h' | h'
        · exact h'
        · simp [World.cell?, Addr.add, Array.getElem?_eq_none h'] at hc0
      obtain ⟨F, hF⟩ := choose_lt (α := Int) each
      rw [← hlen]
      refine ⟨(List.range len).map F, ⟨some ⟨b, off, none⟩, m, by simp, by simp; exact hl, .inr ⟨b, off, rfl, hlt, fun i hi => ?_⟩⟩, fun o ho => ?_⟩
      · have hi' : i < len := by simpa using hi
        obtain ⟨_, c0⟩ := hF i (by omega)
        have q : ((List.range len).map F).getD i 0 = F i := by simp [List.getD, hi']
        rw [q]
        rw [add_plain] at c0
        exact c0
      · obtain ⟨i, hi, rfl⟩ := List.mem_map.1 ho
        have hi' := List.mem_range.1 hi
        exact (hF i (by omega)).1
set_option maxRecDepth 100000 in
theorem open_items {H : Type} {enc : TypeId × Value → H} {W : World} {v : Value} {d : DataW H} {p : List MemPlace} {r : Reach} {b0 : Nat}
    (hv : Value.okWide Try.prog W r b0 22 v) (h : DataW.Trod enc Try.prog W 0 (fun _ => true) true 22 v d p) : ∃ l, PS W v l := by
  obtain ⟨a, len, cap, rfl⟩ := okWide_slice Try.underlying22 hv
  obtain ⟨fuel, hf⟩ := h
  rcases open_slice Try.underlying22 hf with ⟨hcs, _⟩ | ⟨x, l', c', m, n, D, Pl, hcs, _, hl, hm, hmm, _, hall⟩
  · simp [Value.cells] at hcs
    obtain ⟨rfl, rfl, rfl⟩ := hcs
    exact ⟨[], PS.nil _ _ _⟩
  · simp [Value.cells] at hcs
    obtain ⟨rfl, rfl, rfl⟩ := hcs
    simp only [if_true] at hmm
    subst hmm
    rw [(by kernel_rfl : Try.prog.cellsOf 26 = 3)] at hall
    have each : ∀ i, i < m → ∃ o : It, W.cell? (x.add (i * 3)) = some (.int .i64 o.1) ∧ W.cell? (x.add (i * 3 + 1)) = some (.int .i64 o.2.1) ∧ W.cell? (x.add (i * 3 + 2)) = some (.int .i64 o.2.2) := by
      intro i hi
      obtain ⟨cs', h1, h2⟩ := hall i hi
      obtain ⟨o, rfl⟩ := item_cells h2
      obtain ⟨_, _, hcell⟩ := World.cells?_some h1
      refine ⟨o, ?_, ?_, ?_⟩
      · simpa [add_add] using hcell 0 (by omega)
      · simpa [add_add] using hcell 1 (by omega)
      · simpa [add_add] using hcell 2 (by omega)
    cases hlen : len with
    | zero => exact ⟨[], PS.nil _ _ _⟩
    | succ k =>
      obtain ⟨b, off, spot⟩ := x
      have hc0 : ∃ v, W.cell? ((⟨b, off, spot⟩ : Addr).add (0 * 3)) = some v := by obtain ⟨o, h, _⟩ := each 0 (by omega); exact ⟨_, h⟩
      obtain ⟨v0, hc0⟩ := hc0
      have hspot : spot = none := by simpa [Addr.add] using World.cell?_spot hc0
      subst hspot
      have hlt : b < W.heap.size := by
        rcases Nat.lt_or_ge b W.heap.size with h' | h'
        · exact h'
        · simp [World.cell?, Addr.add, Array.getElem?_eq_none h'] at hc0
      obtain ⟨F, hF⟩ := choose_lt (α := It) each
      rw [← hlen]
      refine ⟨(List.range len).map F, ⟨some ⟨b, off, none⟩, m, by simp, by simp; exact hl, .inr ⟨b, off, rfl, hlt, fun i hi => ?_⟩⟩⟩
      have hi' : i < len := by simpa using hi
      obtain ⟨c0, c1, c2⟩ := hF i (by omega)
      have q : ((List.range len).map F).getD i zIt = F i := by simp [List.getD, hi']
      rw [q]
      rw [add_plain] at c0 c1 c2
      simp only [← Nat.add_assoc] at c0 c1 c2
      exact ⟨c0, c1, c2⟩
end Go.Proofs.Ytknnnjnnphdipaa
