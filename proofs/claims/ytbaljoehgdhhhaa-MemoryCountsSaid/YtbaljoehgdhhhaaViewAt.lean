/- The contract of view.At. -/
import Derived.Test.YtbaljoehgdhhhaaViewBase
import Derived.WalkKit
import Derived.WalkSpells
import Derived.WalkLawsBesides
import Derived.Carry
import Derived.Lib.Hide
import Derived.Maps.Own
import Derived.Maps.OwnOps
import Derived.Maps.OwnSet
import Derived.Maps.RangeWalk
import Derived.Maps.Ext
import Derived.Deep.LoopGhost
namespace Go.Proofs.Ytbaljoehgdhhhaa
open Go.RowKit Go.Shelf Go.Maps

set_option maxRecDepth 100000 in
set_option maxHeartbeats 400000 in
theorem at_any (p : Option Nat) (m : List (Int × Int)) (l : Int) (w : World) (h0 : -9223372036854775808 ≤ l) (h1 : l < 9223372036854775808) (hv : VW w p m) :
    Calls Try.prog 19 #[.agg #[.map p], .int .i64 l] w fun e w' => e = .returned (.int .i64 (atL m l)) ∧ w.alloc (.cells #[.map p] 60) = w' := by
  have hl := (hv.alloc (.cells #[.map p] 60)).look l h0 h1
  clear hv
  go_enter Try.func19, Try.ntmps19
  go_wp2
  go_ret
  exact ⟨rfl, rfl⟩
end Go.Proofs.Ytbaljoehgdhhhaa
