/- How a passing is read. -/
import Derived.Test.YtbaljoehgdhhhaaArgsAct
namespace Go.Proofs.Ytbaljoehgdhhhaa
open Go.ChangeShapes Go.WideShapes Go.ChangeAt Go.RowKit Go.Deep

theorem list6 {α : Type} {cs : List α} (h : cs.length = 6) : ∃ c0 c1 c2 c3 c4 c5, cs = [c0, c1, c2, c3, c4, c5] := by
  match cs, h with
  | [c0, c1, c2, c3, c4, c5], _ => exact ⟨c0, c1, c2, c3, c4, c5, rfl⟩
section
variable {H : Type} {enc : TypeId × Value → H} {w : World} {base : Nat} {spare : Nat → Bool} {held : Bool}
theorem bool_cell {t : TypeId} {n : Nat} {c : Value} {x : DataW H × List MemPlace} (ht : Try.prog.underlying t = some .bool) (h : DataW.trod enc Try.prog w base spare held n t [c] = some x) : ∃ b, c = .bool b := by
  obtain ⟨b, g1, _⟩ := DataW.trod_bool ht h
  simp only [List.cons.injEq, and_true] at g1
  exact ⟨b, g1⟩
theorem pass_cells {n : Nat} {cs : List Value} {x : DataW H × List MemPlace} (h : DataW.trod enc Try.prog w base spare held n 75 cs = some x) :
    ∃ xa xb xc xt zA zB zC lk, cs = [.int .i64 xa, .int .u32 xb, .int .u32 xc, .int .i64 xt, .int .i64 zA, .int .i64 zB, .int .i64 zC, .bool lk] ∧ (Lit.int .i64 xt).wf = true ∧ (Lit.int .i64 zA).wf = true ∧ (Lit.int .i64 zB).wf = true ∧ (Lit.int .i64 zC).wf = true := by
  obtain ⟨xs, m, _, _, hl, hlen, hf⟩ := DataW.trod_struct Try.underlying75 h
  obtain ⟨y0, y1, y2, y3, y4, y5, rfl⟩ := list6 (by simpa using hlen)
  obtain ⟨c0, c1, c2, c3, c4, c5, c6, c7, rfl⟩ := list8 (hl.trans (by kernel_rfl : Try.prog.cellsOf 75 = 8))
  have h0 := by simpa using hf 0 _ rfl
  have h1 := by simpa using hf 1 _ rfl
  have h2 := by simpa using hf 2 _ rfl
  have h3 := by simpa using hf 3 _ rfl
  have h4 := by simpa using hf 4 _ rfl
  have h5 := by simpa using hf 5 _ rfl
  rw [(by kernel_rfl : Try.prog.cellsOf 45 = 3)] at h0
  rw [(by kernel_rfl : Try.prog.cellsOf 3 = 1)] at h1 h2 h3 h4
  rw [(by kernel_rfl : Try.prog.cellsOf 4 = 1)] at h5
  obtain ⟨xa, xb, xc, e0, _⟩ := word_cells h0
  obtain ⟨xt, rfl, g1⟩ := int_cell Try.underlying3 h1
  obtain ⟨zA, rfl, g2⟩ := int_cell Try.underlying3 h2
  obtain ⟨zB, rfl, g3⟩ := int_cell Try.underlying3 h3
  obtain ⟨zC, rfl, g4⟩ := int_cell Try.underlying3 h4
  obtain ⟨lk, rfl⟩ := bool_cell Try.underlying4 h5
  simp only [List.take_succ_cons, List.take_zero, List.cons.injEq, and_true] at e0
  obtain ⟨rfl, rfl, rfl⟩ := e0
  exact ⟨xa, xb, xc, xt, zA, zB, zC, lk, rfl, g1, g2, g3, g4⟩
end
set_option maxRecDepth 100000 in
theorem open_pass {H : Type} {enc : TypeId × Value → H} {W : World} {v : Value} {d : DataW H} {p : List MemPlace} {r : Reach} {b0 : Nat}
    (hv : Value.okWide Try.prog W r b0 75 v) (h : DataW.Trod enc Try.prog W 0 (fun _ => true) true 75 v d p) : ∃ xa xb xc xt zA zB zC lk, v = .agg #[.int .i64 xa, .int .u32 xb, .int .u32 xc, .int .i64 xt, .int .i64 zA, .int .i64 zB, .int .i64 zC, .bool lk] ∧ (Lit.int .i64 xt).wf = true ∧ (Lit.int .i64 zA).wf = true ∧ (Lit.int .i64 zB).wf = true ∧ (Lit.int .i64 zC).wf = true := by
  obtain ⟨cs, rfl, _⟩ := okWide_struct Try.underlying75 hv
  obtain ⟨fuel, hf⟩ := h
  obtain ⟨xa, xb, xc, xt, zA, zB, zC, lk, e, ho⟩ := pass_cells hf
  refine ⟨xa, xb, xc, xt, zA, zB, zC, lk, ?_, ho⟩
  simp only [Value.cells] at e
  rw [← Array.toArray_toList (xs := cs), e]
end Go.Proofs.Ytbaljoehgdhhhaa
