/- A slice of bytes, opened. -/
import Derived.Test.YtbaljoehgdhhhaaKb
import Derived.Test.YtbaljoehgdhhhaaCountsK
namespace Go.Proofs.Ytbaljoehgdhhhaa
open Go Go.ChangeShapes Go.WideShapes Go.ChangeAt Go.RowKit Go.Joins Go.Deep
def u8E : Kb.Enc Int where
  k := 1
  enc x := [.int .u8 x]
  len _ := rfl
  one x u hu := by
    simp only [List.mem_cons, List.not_mem_nil, or_false] at hu
    subst hu; rfl
  pos := by decide
theorem u8_cells {H : Type} {enc : TypeId × Value → H} {w : World} {base : Nat} {spare : Nat → Bool} {held : Bool} {n : Nat} {cs : List Value} {x : DataW H × List MemPlace} (h : DataW.trod enc Try.prog w base spare held n 5 cs = some x) : ∃ o : Int, cs = u8E.enc o ∧ (0 ≤ o ∧ o < 256) := by
  obtain ⟨N, g1, _, g3⟩ := DataW.trod_int Try.underlying5 h
  exact ⟨N, g1, by have := bounds_u8 g3; omega⟩
set_option maxRecDepth 100000 in
theorem open_u8s {H : Type} {enc : TypeId × Value → H} {W : World} {v : Value} {d : DataW H} {p : List MemPlace} {r : Reach} {b0 : Nat}
    (hv : Value.okWide Try.prog W r b0 86 v) (h : DataW.Trod enc Try.prog W 0 (fun _ => true) true 86 v d p) : ∃ L, U8s W v L := by
  obtain ⟨L, ⟨a, cap, rfl, hcap, hc⟩, hO, _⟩ := Kb.open_sk (E := u8E) (Ok := fun o => 0 ≤ o ∧ o < 256) Try.underlying86 (by kernel_rfl : Try.prog.cellsOf 5 = 1) (fun n cs x h => u8_cells h) hv h
  refine ⟨L, a, cap, rfl, hc.imp id ?_⟩
  rintro ⟨b, off, rfl, hb, hr⟩
  refine ⟨b, off, rfl, hb, fun i hi => ?_⟩
  have h1 := hr i hi 0 (.int .u8 L[i]!) rfl
  have h2 := hO L[i]! (by rw [getElem!_pos L i hi]; exact List.getElem_mem hi)
  have e : L.getD i 0 = L[i]! := by rw [getElem!_pos L i hi]; simp [List.getD, hi]
  rw [e]
  exact ⟨by simpa [u8E] using h1, h2⟩
end Go.Proofs.Ytbaljoehgdhhhaa
