/- How the arguments of the laws on words are read, and how the table of powers of ten is found where the row lists it. -/
import Derived.Test.YthcafhdokbejkaaDoorText
import Derived.Test.YthcafhdokbejkaaDoorRows
import Derived.ProofKit
import Derived.LaidMore
import Derived.OpenShut
import Derived.Stop.Joined
import Derived.Stop.LaidErr
import Derived.Lib.LaidTab
import Derived.Lib.SmallJoins
namespace Go.Proofs.YthcafhdokbejkaaDoor
open Go.ChangeShapes Go.WideShapes Go.ChangeAt Go.RowKit Go.Joins

theorem cells3' : Tryd.prog.cellsOf 3 = 1 := by kernel_rfl
theorem cells45' : Tryd.prog.cellsOf 45 = 2 := by kernel_rfl

set_option maxRecDepth 100000 in
theorem open_pair {H : Type} {enc : TypeId × Value → H} {w : World} {r : Reach} {base b0 : Nat} {spare : Nat → Bool} {held : Bool} {v : Value} {d : DataW H} {p : List MemPlace}
    (hv : Value.okWide Tryd.prog w r b0 45 v) (h : DataW.Trod enc Tryd.prog w base spare held 45 v d p) :
    ∃ x y : Int, v = .agg #[.int .i64 x, .int .i64 y] ∧ d = .agg [.lit (.int .i64 x), .lit (.int .i64 y)] ∧ p = [] ∧ (Lit.int .i64 x).wf = true ∧ (Lit.int .i64 y).wf = true := by
  simp only [Value.okWide, Tryd.underlying45] at hv
  obtain ⟨cs, rfl, hs, _⟩ := hv
  obtain ⟨c0, c1, rfl⟩ := array2 (hs.trans cells45')
  obtain ⟨fuel, hf⟩ := h
  obtain ⟨xs, m, rfl, hx, _, hl, hel⟩ := DataW.trod_array Tryd.underlying45 hf
  rw [cells3'] at hel
  match xs, hl with
  | [y0, y1], _ =>
    have e0 := hel 0 (by decide)
    have e1 := hel 1 (by decide)
    obtain ⟨a, ea, rfl, wa⟩ := DataW.trod_int Tryd.underlying3 e0
    obtain ⟨b, eb, rfl, wb⟩ := DataW.trod_int Tryd.underlying3 e1
    simp [Value.cells] at ea eb
    subst ea eb
    simp at hx
    exact ⟨a, b, rfl, hx.1, hx.2, wa, wb⟩

theorem shut_pair {H : Type} {enc : TypeId × Value → H} {w : World} {base : Nat} {spare : Nat → Bool} {held : Bool} {x y : Int} (wx : (Lit.int .i64 x).wf = true) (wy : (Lit.int .i64 y).wf = true) :
    DataW.Trod enc Tryd.prog w base spare held 45 (.agg #[.int .i64 x, .int .i64 y]) (.agg [.lit (.int .i64 x), .lit (.int .i64 y)]) [] :=
  ⟨2, by simp [DataW.trod, Tryd.underlying45, Tryd.underlying3, cells3', cells45', Value.cells, wx, wy, List.range_succ]⟩

theorem gPow : Tryd.prog.globalNamed "internal/strconv.uint64pow10" = some 0 := by kernel_rfl
theorem tPow : (Tryd.prog.globals[0]?).map (·.type) = some 91 := by kernel_rfl
theorem cells50' : Tryd.prog.cellsOf 50 = 1 := by kernel_rfl
theorem cells91' : Tryd.prog.cellsOf 91 = 20 := by kernel_rfl
theorem powData : (Rows.laid_internal_strconv_uint64pow10 : DataW Unit) = Lib.tabData .u64 Lib.pow10Tab := by
  simp [Rows.laid_internal_strconv_uint64pow10, Lib.tabData, Lib.pow10Tab, List.range_succ]

theorem tab_of {W : World} {rest : List (String × DataW Unit)} {x y : String × DataW Unit} (h : laidMetH Tryd.prog (x :: y :: ("internal/strconv.uint64pow10", Rows.laid_internal_strconv_uint64pow10) :: rest) W)
    (hp : laidMetH Tryd.prog (x :: y :: ("internal/strconv.uint64pow10", Rows.laid_internal_strconv_uint64pow10) :: rest) W → laidMet Tryd.prog (x :: y :: ("internal/strconv.uint64pow10", Rows.laid_internal_strconv_uint64pow10) :: rest) W) : Tab W := by
  have h3 := (hp h).tail.tail
  rw [powData] at h3
  exact Lib.tabIs_of_head gPow tPow Tryd.underlying91 Tryd.underlying50 cells50' cells91' h3

theorem tab_distinct {W : World} (h : laidMetH Tryd.prog Rows.wordDistinctRow.laid W) : Tab W :=
  tab_of (x := _) (y := _) h (fun h => by rwa [MakeChecks.laidMetH_plain _ _ _ (by kernel_rfl)] at h)
end Go.Proofs.YthcafhdokbejkaaDoor
