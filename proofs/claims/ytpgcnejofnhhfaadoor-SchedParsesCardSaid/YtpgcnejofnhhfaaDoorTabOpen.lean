/- The table of powers of ten, where a row lists it. -/
import Derived.Test.YtpgcnejofnhhfaaDoorOpen
import Derived.Test.YtpgcnejofnhhfaaDoorBytes
import Derived.Lib.LaidTab
namespace Go.Proofs.YtpgcnejofnhhfaaDoor
open Go Go.ChangeShapes Go.WideShapes Go.ChangeAt Go.RowKit Go.Joins
theorem tPow : (Tryd.prog.globals[4]?).map (·.type) = some 118 := by kernel_rfl
theorem cells41 : Tryd.prog.cellsOf 41 = 1 := by kernel_rfl
theorem cells118 : Tryd.prog.cellsOf 118 = 20 := by kernel_rfl
theorem powData : (Rows.laid_internal_strconv_uint64pow10 : DataW Unit) = Lib.tabData .u64 Lib.pow10Tab := by
  simp [Rows.laid_internal_strconv_uint64pow10, Lib.tabData, Lib.pow10Tab, List.range_succ]
theorem tab_of {W : World} (h : laidMetH Tryd.prog Rows.schedFairRow.laid W) : Tab W := by
  rw [MakeChecks.laidMetH_plain _ _ _ (by kernel_rfl)] at h
  have h3 : laidMet Tryd.prog (("internal/strconv.uint64pow10", Rows.laid_internal_strconv_uint64pow10) :: _) W := h.tail.tail
  rw [powData] at h3
  exact Lib.tabIs_of_head gPow tPow Tryd.underlying118 Tryd.underlying41 cells41 cells118 h3
end Go.Proofs.YtpgcnejofnhhfaaDoor
