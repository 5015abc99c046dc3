/- The library's contracts for maps.Copy and maps.Equal, laid at this program's own numbers. -/
import Derived.Shelf.SlGeneric
import Derived.Shelf.SlMaps.Copy
import Derived.Shelf.SlMaps.Equal
import Derived.Ground.SlgmProg
import Derived.Ground.SlmpProg
import Derived.Ground.SlmeProg
import Derived.Test.YtbaljoehgdhhhaaProg
namespace Go.Proofs
open Go.Shelf
def Try.copyL_ren : Go.Shelf.Ren := ⟨fun | 5 => 59 | n => n, fun | 23 => 58 | 24 => 58 | 26 => 42 | 27 => 3 | 0 => 0 | 4 => 4 | n => n, fun | n => n⟩
theorem Try.copyL : Go.Proofs.SlLaysX.n5 Try.prog Try.copyL_ren := {
  mixed := by kernel_rfl
  f5 := ⟨Try.f59.name, by decide, Try.func59.trans (congrArg some (by kernel_rfl))⟩
  t0 := Try.underlying0
  a0 := Try.isAgg0
  z0 := Try.sizeOf0
  v0 := Try.zeroValue0
  t4 := Try.underlying4
  a4 := Try.isAgg4
  z4 := Try.sizeOf4
  v4 := Try.zeroValue4
  t23 := Try.underlying58
  a23 := Try.isAgg58
  z23 := Try.sizeOf58
  v23 := Try.zeroValue58
  t24 := Try.underlying58
  a24 := Try.isAgg58
  z24 := Try.sizeOf58
  v24 := Try.zeroValue58
  a26 := Try.isAgg42
  z26 := Try.sizeOf42
  a27 := Try.isAgg3
  z27 := Try.sizeOf3 }
end Go.Proofs
