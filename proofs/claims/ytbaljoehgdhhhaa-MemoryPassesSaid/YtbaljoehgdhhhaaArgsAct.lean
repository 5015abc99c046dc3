/- How an act and a passing are read. -/
import Derived.Test.YtbaljoehgdhhhaaArgs
namespace Go.Proofs.Ytbaljoehgdhhhaa
open Go.ChangeShapes Go.WideShapes Go.ChangeAt Go.RowKit Go.Deep

set_option maxRecDepth 100000 in
theorem open_act {H : Type} {enc : TypeId × Value → H} {W : World} {v : Value} {d : DataW H} {p : List MemPlace} {r : Reach} {b0 : Nat}
    (hv : Value.okWide Try.prog W r b0 47 v) (h : DataW.Trod enc Try.prog W 0 (fun _ => true) true 47 v d p) : ∃ op at_ oa ob oc na nb nc, v = .agg #[.int .i64 op, .int .i64 at_, .int .i64 oa, .int .u32 ob, .int .u32 oc, .int .i64 na, .int .u32 nb, .int .u32 nc] ∧ (Lit.int .i64 op).wf = true ∧ (Lit.int .i64 at_).wf = true := by
  obtain ⟨cs, rfl, _⟩ := okWide_struct Try.underlying47 hv
  obtain ⟨fuel, hf⟩ := h
  obtain ⟨op, at_, oa, ob, oc, na, nb, nc, e, ho⟩ := act_cells hf
  refine ⟨op, at_, oa, ob, oc, na, nb, nc, ?_, ho⟩
  simp only [Value.cells] at e
  rw [← Array.toArray_toList (xs := cs), e]
end Go.Proofs.Ytbaljoehgdhhhaa
