/- Lists of words to be stored, opened. -/
import Derived.Test.YtfegeahieajmkaaDoorDsOpen
import Derived.Test.YtfegeahieajmkaaDoorDsPuts
namespace Go.Proofs.YtfegeahieajmkaaDoor
open Go Go.ChangeShapes Go.WideShapes Go.ChangeAt Go.RowKit Go.Joins Go.Deep
theorem put_cells {H : Type} {enc : TypeId × Value → H} {w : World} {base : Nat} {spare : Nat → Bool} {held : Bool} {n : Nat} {cs : List Value} {x : DataW H × List MemPlace} (h : DataW.trod enc Tryd.prog w base spare held n 62 cs = some x) : ∃ o : Int × Wd, cs = ptE.enc o ∧ OkP o := by
  obtain ⟨y0, y1, m, _, hl, h0, h1⟩ := trod_struct2 Tryd.underlying62 h
  obtain ⟨c0, c1, c2, c3, rfl⟩ := list4 (hl.trans (by kernel_rfl : Tryd.prog.cellsOf 62 = 4))
  rw [(by kernel_rfl : Tryd.prog.cellsOf 60 = 1)] at h0
  rw [(by kernel_rfl : Tryd.prog.cellsOf 47 = 3)] at h1
  obtain ⟨a, rfl, ha⟩ := int_cellK Tryd.underlying60 h0
  obtain ⟨o, ho, hw⟩ := word_cells h1
  have e1 : c1 = .int .i64 o.1 ∧ c2 = .int .u32 o.2.1 ∧ c3 = .int .u32 o.2.2 := by
    have : [c1, c2, c3] = [.int .i64 o.1, .int .u32 o.2.1, .int .u32 o.2.2] := ho
    simpa using this
  obtain ⟨rfl, rfl, rfl⟩ := e1
  have := bounds_u16 ha
  exact ⟨(a, o), rfl, by omega, hw⟩
set_option maxRecDepth 100000 in
theorem open_puts {H : Type} {enc : TypeId × Value → H} {W : World} {v : Value} {d : DataW H} {p : List MemPlace} {r : Reach} {b0 : Nat}
    (hv : Value.okWide Tryd.prog W r b0 54 v) (h : DataW.Trod enc Tryd.prog W 0 (fun _ => true) true 54 v d p) : ∃ L, PS W v L ∧ (∀ e ∈ L, OkP e) ∧ L.length ≤ maxLen :=
  open_sk (E := ptE) (Ok := OkP) Tryd.underlying54 (by kernel_rfl : Tryd.prog.cellsOf 62 = 4) (fun n cs x h => put_cells h) hv h
end Go.Proofs.YtfegeahieajmkaaDoor
