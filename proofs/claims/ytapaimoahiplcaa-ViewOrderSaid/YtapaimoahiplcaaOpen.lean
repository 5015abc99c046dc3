/- The arguments of the statements on views, opened: a slice of calls of With. -/
import Derived.Test.YtapaimoahiplcaaAwake
import Derived.Test.YtapaimoahiplcaaRows
import Derived.ProofKit
import Derived.ShutString
import Derived.ChangeOld
import Derived.Deep.SlicePairs
namespace Go.Proofs.Ytapaimoahiplcaa
open Go.ChangeShapes Go.WideShapes Go.ChangeAt Go.RowKit Go.Deep

theorem own : ownKnob Try.prog.godebug = none := by kernel_rfl
theorem laidOut : laidOutB Try.prog = true := by kernel_rfl

theorem IsOps.slice {w : World} {v : Value} {ops : List (Int × Int)} (h : IsOps w v ops) : ∃ a cap, v = .slice a ops.length cap := by
  rcases h with ⟨a, cap, rfl, rfl⟩ | ⟨b, off, cap, rfl, -, -⟩
  · exact ⟨a, cap, rfl⟩
  · exact ⟨_, cap, rfl⟩

theorem i64_wf {n : Int} (h : (Lit.int .i64 n).wf = true) : -9223372036854775808 ≤ n ∧ n < 9223372036854775808 := by
  have := bounds_i64 h
  omega

theorem open_ops {H : Type} {enc : TypeId × Value → H} {W : World} {v : Value} {d : DataW H} {p : List MemPlace} {r : Reach} {b0 : Nat}
    (hv : Value.okWide Try.prog W r b0 22 v) (h : DataW.Trod enc Try.prog W 0 (fun _ => true) true 22 v d p) : ∃ ops, IsOps W v ops ∧ OpsOk ops := by
  obtain ⟨a, len, cap, rfl⟩ := okWide_slice Try.underlying22 hv
  obtain ⟨fuel, hf⟩ := h
  rcases open_slice_pairs Try.underlying22 Try.underlying37 (by kernel_rfl) rfl rfl (by kernel_rfl) (by kernel_rfl) hf with ⟨hcs, _⟩ | ⟨x, l, c, m, n, V0, V1, D0, D1, P0, P1, hcs, _, hl, hm, hmm, _, hall⟩
  · simp [Value.cells] at hcs
    obtain ⟨rfl, rfl, rfl⟩ := hcs
    exact ⟨[], .inl ⟨_, _, rfl, rfl⟩, fun p hp => by cases hp⟩
  · simp [Value.cells] at hcs
    obtain ⟨rfl, rfl, rfl⟩ := hcs
    simp only [if_true] at hmm
    subst hmm
    have h0 : ∀ i, i < m → ∃ N, V0 i = .int .i64 N ∧ (-9223372036854775808 ≤ N ∧ N < 9223372036854775808) := fun i hi => by
      obtain ⟨N, g1, g2, g3⟩ := DataW.trod_int Try.underlying23 (hall i hi).2.2.1
      simp only [List.cons.injEq, and_true] at g1
      exact ⟨N, g1, i64_wf g3⟩
    have h1 : ∀ i, i < m → ∃ N, V1 i = .int .i64 N ∧ (-9223372036854775808 ≤ N ∧ N < 9223372036854775808) := fun i hi => by
      obtain ⟨N, g1, g2, g3⟩ := DataW.trod_int Try.underlying3 (hall i hi).2.2.2
      simp only [List.cons.injEq, and_true] at g1
      exact ⟨N, g1, i64_wf g3⟩
    cases hlen : len with
    | zero => exact ⟨[], .inl ⟨_, _, rfl, rfl⟩, fun p hp => by cases hp⟩
    | succ k =>
      obtain ⟨b, off, spot⟩ := x
      have hspot : spot = none := by simpa [Addr.add] using World.cell?_spot (hall 0 (by omega)).1
      subst hspot
      have hlt : b < W.heap.size := by
        have := (hall 0 (by omega)).1
        rcases Nat.lt_or_ge b W.heap.size with h' | h'
        · exact h'
        · simp [World.cell?, Addr.add, Array.getElem?_eq_none h'] at this
      rw [← hlen]
      refine ⟨(List.range len).map fun i => (intOf (V0 i), intOf (V1 i)), .inr ⟨b, off, m, by simp, hlt, fun i hi => ?_⟩, fun p hp => ?_⟩
      · have hi' : i < len := by simpa using hi
        obtain ⟨N0, e0, _⟩ := h0 i (by omega)
        obtain ⟨N1, e1, _⟩ := h1 i (by omega)
        have c := hall i (by omega)
        have q : ((List.range len).map fun i => (intOf (V0 i), intOf (V1 i))).getD i (0, 0) = (N0, N1) := by
          simp [List.getD, hi', e0, e1, intOf]
        rw [q]
        have c1 := c.1
        have c2 := c.2.1
        rw [e0, add_plain] at c1
        rw [e1, add_plain] at c2
        exact ⟨c1, by simpa [Nat.add_assoc] using c2⟩
      · obtain ⟨i, hi, rfl⟩ := List.mem_map.1 hp
        have hi' := List.mem_range.1 hi
        obtain ⟨N0, e0, b0⟩ := h0 i (by omega)
        obtain ⟨N1, e1, b1⟩ := h1 i (by omega)
        simp only [e0, e1, intOf]
        exact ⟨b0, b1⟩
end Go.Proofs.Ytapaimoahiplcaa
