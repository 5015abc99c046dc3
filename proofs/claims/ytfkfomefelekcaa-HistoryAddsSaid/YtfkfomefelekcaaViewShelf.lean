/- The library's contracts for maps.Copy and maps.Equal, laid at this program's own numbers. -/
import Derived.Shelf.SlGeneric
import Derived.Shelf.SlMaps.Copy
import Derived.Shelf.SlMaps.Equal
import Derived.Ground.SlgmProg
import Derived.Ground.SlmpProg
import Derived.Ground.SlmeProg
import Derived.Test.YtfkfomefelekcaaProg
namespace Go.Proofs
open Go.Shelf
def Try.copyL_ren : Go.Shelf.Ren := ⟨fun | 5 => 27 | n => n, fun | 23 => 34 | 24 => 34 | 26 => 55 | 27 => 3 | 0 => 0 | 4 => 4 | n => n, fun | n => n⟩
theorem Try.copyL : Go.Proofs.SlLaysX.n5 Try.prog Try.copyL_ren := {
  mixed := by kernel_rfl
  f5 := ⟨Try.f27.name, by decide, Try.func27.trans (congrArg some (by kernel_rfl))⟩
  t0 := Try.underlying0
  a0 := Try.isAgg0
  z0 := Try.sizeOf0
  v0 := Try.zeroValue0
  t4 := Try.underlying4
  a4 := Try.isAgg4
  z4 := Try.sizeOf4
  v4 := Try.zeroValue4
  t23 := Try.underlying34
  a23 := Try.isAgg34
  z23 := Try.sizeOf34
  v23 := Try.zeroValue34
  t24 := Try.underlying34
  a24 := Try.isAgg34
  z24 := Try.sizeOf34
  v24 := Try.zeroValue34
  a26 := Try.isAgg55
  z26 := Try.sizeOf55
  a27 := Try.isAgg3
  z27 := Try.sizeOf3 }
def Try.eqL_ren : Go.Shelf.Ren := ⟨fun | 6 => 23 | n => n, fun | 23 => 34 | 24 => 34 | 26 => 55 | 27 => 3 | 4 => 4 | 3 => 3 | 0 => 0 | 36 => 61 | n => n, fun | n => n⟩
theorem Try.eqL : Go.Proofs.SlLaysEq.n6 Try.prog Try.eqL_ren := {
  mixed := by kernel_rfl
  f6 := ⟨Try.f23.name, by decide, Try.func23.trans (congrArg some (by kernel_rfl))⟩
  t0 := Try.underlying0
  a0 := Try.isAgg0
  z0 := Try.sizeOf0
  v0 := Try.zeroValue0
  t3 := Try.underlying3
  a3 := Try.isAgg3
  z3 := Try.sizeOf3
  v3 := Try.zeroValue3
  t4 := Try.underlying4
  a4 := Try.isAgg4
  z4 := Try.sizeOf4
  v4 := Try.zeroValue4
  t23 := Try.underlying34
  a23 := Try.isAgg34
  z23 := Try.sizeOf34
  v23 := Try.zeroValue34
  t24 := Try.underlying34
  a24 := Try.isAgg34
  z24 := Try.sizeOf34
  v24 := Try.zeroValue34
  a26 := Try.isAgg55
  z26 := Try.sizeOf55
  a27 := Try.isAgg3
  z27 := Try.sizeOf3
  t36 := Try.underlying61
  a36 := Try.isAgg61
  z36 := Try.sizeOf61 }
end Go.Proofs
