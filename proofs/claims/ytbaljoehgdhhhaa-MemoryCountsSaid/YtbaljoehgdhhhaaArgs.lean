/- The arguments of the statements on memories, opened: words, operations, cases. -/
import Derived.Test.YtbaljoehgdhhhaaBegun
import Derived.Test.YtbaljoehgdhhhaaRows
import Derived.ProofKit
import Derived.ShutString
import Derived.ChangeOld
import Derived.Deep.SlicePairs
import Derived.Deep.Strs
import Derived.Lib.SmallJoins
namespace Go.Proofs.Ytbaljoehgdhhhaa
open Go.Joins Go.ChangeShapes Go.WideShapes Go.ChangeAt Go.RowKit Go.Deep

theorem own : ownKnob Try.prog.godebug = none := by kernel_rfl
theorem laidOut : laidOutB Try.prog = true := by kernel_rfl
theorem i64_wf {n : Int} (h : (Lit.int .i64 n).wf = true) : -9223372036854775808 ≤ n ∧ n < 9223372036854775808 := by
  have := bounds_i64 h
  omega
instance : Inhabited DoV := ⟨zeroDo⟩

theorem list3 {α : Type} {cs : List α} (h : cs.length = 3) : ∃ c0 c1 c2, cs = [c0, c1, c2] := by
  match cs, h with
  | [c0, c1, c2], _ => exact ⟨c0, c1, c2, rfl⟩
theorem list8 {α : Type} {cs : List α} (h : cs.length = 8) : ∃ c0 c1 c2 c3 c4 c5 c6 c7, cs = [c0, c1, c2, c3, c4, c5, c6, c7] := by
  match cs, h with
  | [c0, c1, c2, c3, c4, c5, c6, c7], _ => exact ⟨c0, c1, c2, c3, c4, c5, c6, c7, rfl⟩
theorem list10 {α : Type} {cs : List α} (h : cs.length = 10) : ∃ c0 c1 c2 c3 c4 c5 c6 c7 c8 c9, cs = [c0, c1, c2, c3, c4, c5, c6, c7, c8, c9] := by
  match cs, h with
  | [c0, c1, c2, c3, c4, c5, c6, c7, c8, c9], _ => exact ⟨c0, c1, c2, c3, c4, c5, c6, c7, c8, c9, rfl⟩

section
variable {H : Type} {enc : TypeId × Value → H} {w : World} {base : Nat} {spare : Nat → Bool} {held : Bool}

theorem int_cell {t : TypeId} {k : IntKind} {n : Nat} {c : Value} {x : DataW H × List MemPlace} (ht : Try.prog.underlying t = some (.int k)) (h : DataW.trod enc Try.prog w base spare held n t [c] = some x) : ∃ N, c = .int k N ∧ (Lit.int k N).wf = true := by
  obtain ⟨N, g1, _, g3⟩ := DataW.trod_int ht h
  simp only [List.cons.injEq, and_true] at g1
  exact ⟨N, g1, g3⟩

theorem word_cells {n : Nat} {cs : List Value} {x : DataW H × List MemPlace} (h : DataW.trod enc Try.prog w base spare held n 45 cs = some x) :
    ∃ a b c, cs = [.int .i64 a, .int .u32 b, .int .u32 c] ∧ (Lit.int .i64 a).wf = true ∧ (Lit.int .u32 b).wf = true ∧ (Lit.int .u32 c).wf = true := by
  obtain ⟨y0, y1, y2, m, _, hl, h0, h1, h2⟩ := trod_struct3 Try.underlying45 h
  obtain ⟨c0, c1, c2, rfl⟩ := list3 (hl.trans (by kernel_rfl : Try.prog.cellsOf 45 = 3))
  rw [(by kernel_rfl : Try.prog.cellsOf 2 = 1)] at h0
  rw [(by kernel_rfl : Try.prog.cellsOf 43 = 1)] at h1 h2
  obtain ⟨a, rfl, ha⟩ := int_cell Try.underlying2 h0
  obtain ⟨b, rfl, hb⟩ := int_cell Try.underlying43 h1
  obtain ⟨c, rfl, hc⟩ := int_cell Try.underlying43 h2
  exact ⟨a, b, c, rfl, ha, hb, hc⟩

theorem act_cells {n : Nat} {cs : List Value} {x : DataW H × List MemPlace} (h : DataW.trod enc Try.prog w base spare held n 47 cs = some x) :
    ∃ op at_ oa ob oc na nb nc, cs = [.int .i64 op, .int .i64 at_, .int .i64 oa, .int .u32 ob, .int .u32 oc, .int .i64 na, .int .u32 nb, .int .u32 nc] ∧ (Lit.int .i64 op).wf = true ∧ (Lit.int .i64 at_).wf = true := by
  obtain ⟨y0, y1, y2, y3, m, _, hl, h0, h1, h2, h3⟩ := trod_struct4 Try.underlying47 h
  obtain ⟨c0, c1, c2, c3, c4, c5, c6, c7, rfl⟩ := list8 (hl.trans (by kernel_rfl : Try.prog.cellsOf 47 = 8))
  rw [(by kernel_rfl : Try.prog.cellsOf 3 = 1)] at h0
  rw [(by kernel_rfl : Try.prog.cellsOf 42 = 1)] at h1
  rw [(by kernel_rfl : Try.prog.cellsOf 45 = 3)] at h2 h3
  obtain ⟨op, rfl, ho⟩ := int_cell Try.underlying3 h0
  obtain ⟨at_, rfl, ha⟩ := int_cell Try.underlying42 h1
  obtain ⟨oa, ob, oc, e2, _⟩ := word_cells h2
  obtain ⟨na, nb, nc, e3, _⟩ := word_cells h3
  simp only [List.drop_succ_cons, List.drop_zero, List.take_succ_cons, List.take_zero, List.cons.injEq, and_true] at e2 e3
  obtain ⟨rfl, rfl, rfl⟩ := e2
  obtain ⟨rfl, rfl, rfl⟩ := e3
  exact ⟨op, at_, oa, ob, oc, na, nb, nc, rfl, ho, ha⟩

theorem do_cells {n : Nat} {cs : List Value} {x : DataW H × List MemPlace} (h : DataW.trod enc Try.prog w base spare held n 49 cs = some x) :
    ∃ d : DoV, cs = [.int .i64 d.t, .int .i64 d.op, .int .i64 d.at_, .int .i64 d.oa, .int .u32 d.ob, .int .u32 d.oc, .int .i64 d.na, .int .u32 d.nb, .int .u32 d.nc, .int .i64 d.z] ∧ d.Ok ∧ (-9223372036854775808 ≤ d.t ∧ d.t < 9223372036854775808) ∧ (-9223372036854775808 ≤ d.op ∧ d.op < 9223372036854775808) := by
  obtain ⟨y0, y1, y2, m, _, hl, h0, h1, h2⟩ := trod_struct3 Try.underlying49 h
  obtain ⟨c0, c1, c2, c3, c4, c5, c6, c7, c8, c9, rfl⟩ := list10 (hl.trans (by kernel_rfl : Try.prog.cellsOf 49 = 10))
  rw [(by kernel_rfl : Try.prog.cellsOf 3 = 1)] at h0 h2
  rw [(by kernel_rfl : Try.prog.cellsOf 47 = 8)] at h1
  obtain ⟨t, rfl, ht⟩ := int_cell Try.underlying3 h0
  obtain ⟨z, rfl, hz⟩ := int_cell Try.underlying3 h2
  obtain ⟨op, at_, oa, ob, oc, na, nb, nc, e, ho, ha⟩ := act_cells h1
  simp only [List.drop_succ_cons, List.drop_zero, List.take_succ_cons, List.take_zero, List.cons.injEq, and_true] at e
  obtain ⟨rfl, rfl, rfl, rfl, rfl, rfl, rfl, rfl⟩ := e
  exact ⟨⟨t, op, at_, oa, ob, oc, na, nb, nc, z⟩, rfl, ⟨i64_wf ha, i64_wf hz⟩, i64_wf ht, i64_wf ho⟩
end

set_option maxRecDepth 100000 in
theorem open_do {H : Type} {enc : TypeId × Value → H} {W : World} {v : Value} {d : DataW H} {p : List MemPlace} {r : Reach} {b0 : Nat}
    (hv : Value.okWide Try.prog W r b0 49 v) (h : DataW.Trod enc Try.prog W 0 (fun _ => true) true 49 v d p) : ∃ o : DoV, v = o.v ∧ o.Ok ∧ (-9223372036854775808 ≤ o.t ∧ o.t < 9223372036854775808) ∧ (-9223372036854775808 ≤ o.op ∧ o.op < 9223372036854775808) := by
  obtain ⟨cs, rfl, _⟩ := okWide_struct Try.underlying49 hv
  obtain ⟨fuel, hf⟩ := h
  obtain ⟨o, e, ho⟩ := do_cells hf
  refine ⟨o, ?_, ho⟩
  simp only [Value.cells] at e
  rw [DoV.v, ← Array.toArray_toList (xs := cs), e]

section
variable {H : Type} {enc : TypeId × Value → H} {W : World}

theorem words_of {n : Nat} {a : Option Addr} {len cap : Nat} {x : DataW H × List MemPlace} (h : DataW.trod enc Try.prog W 0 (fun _ => true) true n 22 [.slice a len cap] = some x) : ∃ l, IsWords W (.slice a len cap) l ∧ l.length = len := by
  rcases open_slice Try.underlying22 h with ⟨hcs, _⟩ | ⟨x, l', c', m, n, D, Pl, hcs, _, hl, hm, hmm, _, hall⟩
  · simp at hcs
    obtain ⟨rfl, rfl, rfl⟩ := hcs
    exact ⟨[], .inl ⟨_, _, rfl, rfl⟩, rfl⟩
  · simp at hcs
    obtain ⟨rfl, rfl, rfl⟩ := hcs
    simp only [if_true] at hmm
    subst hmm
    rw [(by kernel_rfl : Try.prog.cellsOf 45 = 3)] at hall
    have each : ∀ i, i < m → ∃ o : Wd, W.cell? (x.add (i * 3)) = some (.int .i64 o.1) ∧ W.cell? (x.add (i * 3 + 1)) = some (.int .u32 o.2.1) ∧ W.cell? (x.add (i * 3 + 2)) = some (.int .u32 o.2.2) := by
      intro i hi
      obtain ⟨cs', h1, h2⟩ := hall i hi
      obtain ⟨a, b, c, rfl, _⟩ := word_cells h2
      obtain ⟨_, _, hcell⟩ := World.cells?_some h1
      refine ⟨(a, b, c), ?_, ?_, ?_⟩
      · simpa [add_add] using hcell 0 (by omega)
      · simpa [add_add] using hcell 1 (by omega)
      · simpa [add_add] using hcell 2 (by omega)
    cases hlen : len with
    | zero => exact ⟨[], .inl ⟨_, _, rfl, rfl⟩, rfl⟩
    | succ k =>
      obtain ⟨b, off, spot⟩ := x
      obtain ⟨o0, hc0, _⟩ := each 0 (by omega)
      have hspot : spot = none := by simpa [Addr.add] using World.cell?_spot hc0
      subst hspot
      have hlt : b < W.heap.size := by
        rcases Nat.lt_or_ge b W.heap.size with h' | h'
        · exact h'
        · simp [World.cell?, Addr.add, Array.getElem?_eq_none h'] at hc0
      obtain ⟨F, hF⟩ := choose_lt (α := Wd) each
      rw [← hlen]
      refine ⟨(List.range len).map F, .inr ⟨b, off, m, by simp, hlt, fun i hi => ?_⟩, by simp⟩
      have hi' : i < len := by simpa using hi
      obtain ⟨c0, c1, c2⟩ := hF i (by omega)
      have q : ((List.range len).map F).getD i (0, 0, 0) = F i := by simp [List.getD, hi']
      rw [q]
      rw [add_plain] at c0 c1 c2
      simp only [← Nat.add_assoc] at c0 c1 c2
      exact ⟨c0, c1, c2⟩

theorem dos_of {n : Nat} {a : Option Addr} {len cap : Nat} {x : DataW H × List MemPlace} (h : DataW.trod enc Try.prog W 0 (fun _ => true) true n 23 [.slice a len cap] = some x) : ∃ l, IsDos W (.slice a len cap) l ∧ l.length = len ∧ DosOk l := by
  rcases open_slice Try.underlying23 h with ⟨hcs, _⟩ | ⟨x, l', c', m, n, D, Pl, hcs, _, hl, hm, hmm, _, hall⟩
  · simp at hcs
    obtain ⟨rfl, rfl, rfl⟩ := hcs
    exact ⟨[], .inl ⟨_, _, rfl, rfl⟩, rfl, fun d hd => by cases hd⟩
  · simp at hcs
    obtain ⟨rfl, rfl, rfl⟩ := hcs
    simp only [if_true] at hmm
    subst hmm
    rw [(by kernel_rfl : Try.prog.cellsOf 49 = 10)] at hall
    have each : ∀ i, i < m → ∃ d : DoV, d.Ok ∧ W.cell? (x.add (i * 10)) = some (.int .i64 d.t) ∧ W.cell? (x.add (i * 10 + 1)) = some (.int .i64 d.op) ∧ W.cell? (x.add (i * 10 + 2)) = some (.int .i64 d.at_) ∧ W.cell? (x.add (i * 10 + 3)) = some (.int .i64 d.oa) ∧ W.cell? (x.add (i * 10 + 4)) = some (.int .u32 d.ob) ∧ W.cell? (x.add (i * 10 + 5)) = some (.int .u32 d.oc) ∧ W.cell? (x.add (i * 10 + 6)) = some (.int .i64 d.na) ∧ W.cell? (x.add (i * 10 + 7)) = some (.int .u32 d.nb) ∧ W.cell? (x.add (i * 10 + 8)) = some (.int .u32 d.nc) ∧ W.cell? (x.add (i * 10 + 9)) = some (.int .i64 d.z) := by
      intro i hi
      obtain ⟨cs', h1, h2⟩ := hall i hi
      obtain ⟨d, rfl, hd, _⟩ := do_cells h2
      obtain ⟨_, _, hcell⟩ := World.cells?_some h1
      refine ⟨d, hd, ?_, ?_, ?_, ?_, ?_, ?_, ?_, ?_, ?_, ?_⟩
      · simpa [add_add] using hcell 0 (by omega)
      · simpa [add_add] using hcell 1 (by omega)
      · simpa [add_add] using hcell 2 (by omega)
      · simpa [add_add] using hcell 3 (by omega)
      · simpa [add_add] using hcell 4 (by omega)
      · simpa [add_add] using hcell 5 (by omega)
      · simpa [add_add] using hcell 6 (by omega)
      · simpa [add_add] using hcell 7 (by omega)
      · simpa [add_add] using hcell 8 (by omega)
      · simpa [add_add] using hcell 9 (by omega)
    cases hlen : len with
    | zero => exact ⟨[], .inl ⟨_, _, rfl, rfl⟩, rfl, fun d hd => by cases hd⟩
    | succ k =>
      obtain ⟨b, off, spot⟩ := x
      obtain ⟨o0, _, hc0, _⟩ := each 0 (by omega)
      have hspot : spot = none := by simpa [Addr.add] using World.cell?_spot hc0
      subst hspot
      have hlt : b < W.heap.size := by
        rcases Nat.lt_or_ge b W.heap.size with h' | h'
        · exact h'
        · simp [World.cell?, Addr.add, Array.getElem?_eq_none h'] at hc0
      obtain ⟨F, hF⟩ := choose_lt (α := DoV) each
      rw [← hlen]
      refine ⟨(List.range len).map F, .inr ⟨b, off, m, by simp, hlt, fun i hi => ?_⟩, by simp, fun d hd => ?_⟩
      · have hi' : i < len := by simpa using hi
        obtain ⟨_, c0, c1, c2, c3, c4, c5, c6, c7, c8, c9⟩ := hF i (by omega)
        have q : ((List.range len).map F).getD i zeroDo = F i := by simp [List.getD, hi']
        rw [q]
        rw [add_plain] at c0 c1 c2 c3 c4 c5 c6 c7 c8 c9
        simp only [← Nat.add_assoc] at c0 c1 c2 c3 c4 c5 c6 c7 c8 c9
        exact ⟨c0, c1, c2, c3, c4, c5, c6, c7, c8, c9⟩
      · obtain ⟨i, hi, rfl⟩ := List.mem_map.1 hd
        have hi' := List.mem_range.1 hi
        exact (hF i (by omega)).1
end

set_option maxRecDepth 100000 in
theorem open_case {H : Type} {enc : TypeId × Value → H} {W : World} {v : Value} {d : DataW H} {p : List MemPlace} {r : Reach} {b0 : Nat}
    (hv : Value.okWide Try.prog W r b0 25 v) (h : DataW.Trod enc Try.prog W 0 (fun _ => true) true 25 v d p) :
    ∃ T vf vl ws l, v = .agg #[.int .i64 T, vf, vl] ∧ (-9223372036854775808 ≤ T ∧ T < 9223372036854775808) ∧ IsWords W vf ws ∧ IsDos W vl l ∧ DosOk l := by
  obtain ⟨v0, v1, v2, y0, y1, y2, n, rfl, _, _, h0, h1, h2⟩ := open_agg3 Try.underlying25 (by kernel_rfl) (by kernel_rfl) hv h
  obtain ⟨T, rfl, hT⟩ := int_cell Try.underlying3 h0
  obtain ⟨a1, l1, c1, e1⟩ := slice_form Try.underlying22 h1
  obtain ⟨a2, l2, c2, e2⟩ := slice_form Try.underlying23 h2
  simp only [List.cons.injEq, and_true] at e1 e2
  subst e1 e2
  obtain ⟨ws, hw, _⟩ := words_of h1
  obtain ⟨l, hl, _, hok⟩ := dos_of h2
  exact ⟨T, _, _, ws, l, rfl, i64_wf hT, hw, hl, hok⟩
end Go.Proofs.Ytbaljoehgdhhhaa
