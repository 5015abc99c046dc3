/- One call of With, by value, opened. -/
import Derived.Test.YtapaimoahiplcaaAdds
import Derived.Lib.SmallJoins
namespace Go.Proofs.Ytapaimoahiplcaa
open Go.Joins Go.ChangeShapes Go.WideShapes Go.ChangeAt Go.RowKit Go.Deep

theorem open_op {H : Type} {enc : TypeId × Value → H} {W : World} {v : Value} {d : DataW H} {p : List MemPlace} {r : Reach} {b0 : Nat}
    (hv : Value.okWide Try.prog W r b0 37 v) (h : DataW.Trod enc Try.prog W 0 (fun _ => true) true 37 v d p) :
    ∃ x y, v = .agg #[.int .i64 x, .int .i64 y] ∧ (-9223372036854775808 ≤ x ∧ x < 9223372036854775808) ∧ (-9223372036854775808 ≤ y ∧ y < 9223372036854775808) := by
  obtain ⟨v0, v1, y0, y1, n, rfl, _, _, h0, h1⟩ := open_agg2 Try.underlying37 (by kernel_rfl) (by kernel_rfl) hv h
  obtain ⟨N, g1, g2, g3⟩ := DataW.trod_int Try.underlying23 h0
  obtain ⟨M, k1, k2, k3⟩ := DataW.trod_int Try.underlying3 h1
  simp only [List.cons.injEq, and_true] at g1 k1
  subst g1 k1
  exact ⟨N, M, rfl, i64_wf g3, i64_wf k3⟩
end Go.Proofs.Ytapaimoahiplcaa
