/- The table of powers of ten and strconv's two errors, where a row lists them. -/
import Derived.Test.YthcafhdokbejkaaDoorOpen
import Derived.Test.YthcafhdokbejkaaDoorNums
import Derived.Stop.LaidErr
namespace Go.Proofs.YthcafhdokbejkaaDoor
open Go.ChangeShapes Go.WideShapes Go.ChangeAt Go.RowKit Go.Joins

theorem laid5 {W : World} (h : laidMetH Tryd.prog Rows.wordParsesRow.laid W) : laidMet Tryd.prog Rows.wordParsesRow.laid W := by
  rwa [MakeChecks.laidMetH_plain _ _ _ (by kernel_rfl)] at h
theorem tab_parses {W : World} (h : laidMetH Tryd.prog Rows.wordParsesRow.laid W) : Tab W :=
  tab_of (x := _) (y := _) h (fun h => laid5 h)
theorem gR : Tryd.prog.globalNamed "strconv.ErrRange" = some 2 := by kernel_rfl
theorem gS : Tryd.prog.globalNamed "strconv.ErrSyntax" = some 1 := by kernel_rfl
theorem tR : (Tryd.prog.globals[2]?).map (·.type) = some 60 := by kernel_rfl
theorem tS : (Tryd.prog.globals[1]?).map (·.type) = some 60 := by kernel_rfl
theorem iface_at {W : World} {n nm : String} {d : DataW Unit} {r : List (String × DataW Unit)} {g : Nat} (h : laidMet Tryd.prog ((n, .iface nm d) :: r) W) (hg : Tryd.prog.globalNamed n = some g) (ht : (Tryd.prog.globals[g]?).map (·.type) = some 60) :
    g < W.heap.size ∧ ∃ e, W.cell? ⟨g, 0, none⟩ = some e ∧ IsE e := by
  obtain ⟨ps, ⟨g0, t0, cs0, f0, p0, q0, hg0, ht0, hv0, hd0, _⟩, _⟩ := h
  obtain rfl := Option.some.inj (hg.symm.trans hg0)
  obtain rfl := Option.some.inj (ht.symm.trans ht0)
  obtain ⟨f1, u, v, hc, -, -⟩ := iface_of_trod Tryd.underlying60 hd0
  have hcell := World.var?_cell hg0 hv0 0
  obtain ⟨l0⟩ := cs0
  simp only at hc
  subst hc
  have hc2 : W.cell? ⟨g, 0, none⟩ = some (.iface u v) := by simpa using hcell
  refine ⟨?_, _, hc2, .inr ⟨_, _, rfl⟩⟩
  rcases Nat.lt_or_ge g W.heap.size with h | h
  · exact h
  · exfalso
    simp [World.cell?, Array.getElem?_eq_none h] at hc2
theorem sen_parses {W : World} (h : laidMetH Tryd.prog Rows.wordParsesRow.laid W) : Sen W := by
  have h3 := (laid5 h).tail.tail.tail
  obtain ⟨l2, hr⟩ := iface_at h3 gR tR
  obtain ⟨-, hs⟩ := iface_at h3.tail gS tS
  exact ⟨l2, hs, hr⟩
end Go.Proofs.YthcafhdokbejkaaDoor
