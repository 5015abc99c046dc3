/- The arguments of the statements on leaks, opened: slices of ints, and slices of such slices. -/
import Derived.Test.YtgejijlhgimgaaaLkExt
import Derived.Test.YtgejijlhgimgaaaRows
import Derived.ProofKit
import Derived.ShutString
import Derived.ChangeOld
import Derived.Deep.SlicePairs
import Derived.Deep.Strs
import Derived.Lib.SmallJoins
namespace Go.Proofs.Ytgejijlhgimgaaa
open Go.Joins Go.ChangeShapes Go.WideShapes Go.ChangeAt Go.RowKit Go.Deep

theorem own : ownKnob Try.prog.godebug = none := by kernel_rfl
theorem laidOut : laidOutB Try.prog = true := by kernel_rfl
theorem i64_wf {n : Int} (h : (Lit.int .i64 n).wf = true) : I64 n := by
  have := bounds_i64 h
  unfold I64
  omega
section
variable {H : Type} {enc : TypeId × Value → H} {w : World} {base : Nat} {spare : Nat → Bool} {held : Bool}
theorem int_cell {t : TypeId} {k : IntKind} {n : Nat} {c : Value} {x : DataW H × List MemPlace} (ht : Try.prog.underlying t = some (.int k)) (h : DataW.trod enc Try.prog w base spare held n t [c] = some x) : ∃ N, c = .int k N ∧ (Lit.int k N).wf = true := by
  obtain ⟨N, g1, _, g3⟩ := DataW.trod_int ht h
  simp only [List.cons.injEq, and_true] at g1
  exact ⟨N, g1, g3⟩
set_option maxRecDepth 100000 in
theorem ints_cell {n : Nat} {cs : List Value} {x : DataW H × List MemPlace} (h : DataW.trod enc Try.prog w base (fun _ => true) true n 22 cs = some x) : ∃ u l, cs = [u] ∧ IS w u l ∧ OkL l := by
  rcases open_slice Try.underlying22 h with ⟨hcs, _⟩ | ⟨x, l', c', m, n, D, Pl, hcs, _, hl, hm, hmm, _, hall⟩
  · subst hcs
    exact ⟨_, [], rfl, IS.nil _ _ _, fun p hp => by cases hp⟩
  · subst hcs
    simp only [if_true] at hmm
    subst hmm
    rw [(by kernel_rfl : Try.prog.cellsOf 3 = 1)] at hall
    have each : ∀ i, i < m → ∃ o : Int, I64 o ∧ w.cell? (x.add i) = some (.int .i64 o) := by
      intro i hi
      obtain ⟨cs', h1, h2⟩ := hall i hi
      obtain ⟨hlen, _, hcell⟩ := World.cells?_some h1
      match cs', hlen with
      | [c], _ =>
        obtain ⟨N, rfl, hN⟩ := int_cell Try.underlying3 h2
        exact ⟨N, i64_wf hN, by simpa [add_add] using hcell 0 (by omega)⟩
    cases hlen : l' with
    | zero => exact ⟨_, [], rfl, IS.nil _ _ _, fun p hp => by cases hp⟩
    | succ k =>
      obtain ⟨b, off, spot⟩ := x
      obtain ⟨v0, hc0⟩ : ∃ v, w.cell? ((⟨b, off, spot⟩ : Addr).add 0) = some v := by obtain ⟨o, _, h⟩ := each 0 (by omega); exact ⟨_, h⟩
      have hspot : spot = none := by simpa [Addr.add] using World.cell?_spot hc0
      subst hspot
      have hlt : b < w.heap.size := by
        rcases Nat.lt_or_ge b w.heap.size with h' | h'
        · exact h'
        · simp [World.cell?, Addr.add, Array.getElem?_eq_none h'] at hc0
      obtain ⟨F, hF⟩ := choose_lt (α := Int) each
      rw [← hlen]
      refine ⟨_, (List.range l').map F, rfl, ⟨some ⟨b, off, none⟩, m, by simp, by simp; exact hl, .inr ⟨b, off, rfl, hlt, fun i hi => ?_⟩⟩, fun o ho => ?_⟩
      · have hi' : i < l' := by simpa using hi
        obtain ⟨_, c0⟩ := hF i (by omega)
        have q : ((List.range l').map F).getD i 0 = F i := by simp [List.getD, hi']
        rw [q]
        rw [add_plain] at c0
        exact c0
      · obtain ⟨i, hi, rfl⟩ := List.mem_map.1 ho
        have hi' := List.mem_range.1 hi
        exact (hF i (by omega)).1
end
theorem open_ints' {H : Type} {enc : TypeId × Value → H} {W : World} {v : Value} {d : DataW H} {p : List MemPlace} {r : Reach} {b0 : Nat}
    (hv : Value.okWide Try.prog W r b0 22 v) (h : DataW.Trod enc Try.prog W 0 (fun _ => true) true 22 v d p) : ∃ l, IS W v l ∧ OkL l := by
  obtain ⟨a, len, cap, rfl⟩ := okWide_slice Try.underlying22 hv
  obtain ⟨fuel, hf⟩ := h
  obtain ⟨u, l, e, h1, h2⟩ := ints_cell hf
  simp [Value.cells] at e
  subst e
  exact ⟨l, h1, h2⟩
set_option maxRecDepth 100000 in
theorem open_lists {H : Type} {enc : TypeId × Value → H} {W : World} {v : Value} {d : DataW H} {p : List MemPlace} {r : Reach} {b0 : Nat}
    (hv : Value.okWide Try.prog W r b0 23 v) (h : DataW.Trod enc Try.prog W 0 (fun _ => true) true 23 v d p) : ∃ l, NS W v l := by
  obtain ⟨a, len, cap, rfl⟩ := okWide_slice Try.underlying23 hv
  obtain ⟨fuel, hf⟩ := h
  rcases open_slice Try.underlying23 hf with ⟨hcs, _⟩ | ⟨x, l', c', m, n, D, Pl, hcs, _, hl, hm, hmm, _, hall⟩
  · simp [Value.cells] at hcs
    obtain ⟨rfl, rfl, rfl⟩ := hcs
    exact ⟨[], _, _, rfl, .inl rfl⟩
  · simp [Value.cells] at hcs
    obtain ⟨rfl, rfl, rfl⟩ := hcs
    simp only [if_true] at hmm
    subst hmm
    rw [(by kernel_rfl : Try.prog.cellsOf 22 = 1)] at hall
    have each : ∀ i, i < m → ∃ o : List Int, ∃ u, W.cell? (x.add i) = some u ∧ IS W u o := by
      intro i hi
      obtain ⟨cs', h1, h2⟩ := hall i hi
      obtain ⟨hlen, _, hcell⟩ := World.cells?_some h1
      obtain ⟨u, l, rfl, hu, _⟩ := ints_cell h2
      exact ⟨l, u, by simpa [add_add] using hcell 0 (by omega), hu⟩
    cases hlen : len with
    | zero => exact ⟨[], _, _, rfl, .inl rfl⟩
    | succ k =>
      obtain ⟨b, off, spot⟩ := x
      obtain ⟨v0, hc0⟩ : ∃ v, W.cell? ((⟨b, off, spot⟩ : Addr).add 0) = some v := by obtain ⟨o, u, h, _⟩ := each 0 (by omega); exact ⟨_, h⟩
      have hspot : spot = none := by simpa [Addr.add] using World.cell?_spot hc0
      subst hspot
      have hlt : b < W.heap.size := by
        rcases Nat.lt_or_ge b W.heap.size with h' | h'
        · exact h'
        · simp [World.cell?, Addr.add, Array.getElem?_eq_none h'] at hc0
      obtain ⟨F, hF⟩ := choose_lt (α := List Int) each
      rw [← hlen]
      refine ⟨(List.range len).map F, some ⟨b, off, none⟩, m, by simp, .inr ⟨b, off, rfl, hlt, fun i hi => ?_⟩⟩
      have hi' : i < len := by simpa using hi
      obtain ⟨u, c0, hu⟩ := hF i (by omega)
      have q : ((List.range len).map F).getD i [] = F i := by simp [List.getD, hi']
      rw [q]
      rw [add_plain] at c0
      exact ⟨u, c0, hu⟩
end Go.Proofs.Ytgejijlhgimgaaa
