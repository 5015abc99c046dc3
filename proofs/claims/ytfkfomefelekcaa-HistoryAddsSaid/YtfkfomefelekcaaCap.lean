/- The length of an argument is within its capacity. -/
import Derived.Test.YtfkfomefelekcaaArgs
namespace Go.Proofs.Ytfkfomefelekcaa
open Go.Joins Go.ChangeShapes Go.WideShapes Go.ChangeAt Go.RowKit Go.Deep

theorem cap_ones {H : Type} {enc : TypeId × Value → H} {W : World} {v : Value} {d : DataW H} {p : List MemPlace}
    (h : DataW.Trod enc Try.prog W 0 (fun _ => true) true 25 v d p) : ∀ a m c, v = .slice a m c → m ≤ c := by
  rintro a m c rfl
  obtain ⟨fuel, hf⟩ := h
  rcases open_slice Try.underlying25 hf with ⟨hcs, _⟩ | ⟨x, l', c', m', n, D, Pl, hcs, _, hl, _⟩
  · simp [Value.cells] at hcs
    omega
  · simp [Value.cells] at hcs
    omega
end Go.Proofs.Ytfkfomefelekcaa
