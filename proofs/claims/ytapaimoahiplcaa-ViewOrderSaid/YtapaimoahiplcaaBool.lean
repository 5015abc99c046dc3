/- Small forms of the contracts. -/
import Derived.Test.YtapaimoahiplcaaOpen
namespace Go.Proofs.Ytapaimoahiplcaa
open Go.RowKit Go.Shelf Go.Maps

theorem great_is {v : Value} {ops : List (Int × Int)} {r : Bool} {w : World} (hr : decide (100 < ops.length) = r) (hs : IsOps w v ops) :
    Calls Try.prog 10 #[v] w fun e w' => e = .returned (.bool r) ∧ w = w' := by
  subst hr
  exact great_any v ops w hs.slice

theorem at_anyB (p : Option Nat) (m : List (Int × Int)) (l : Int) (w : World) (h0 : -9223372036854775808 ≤ l) (h1 : l < 9223372036854775808) (hv : VW w p m) :
    Calls Try.prog 14 #[.agg #[.map p], .int .i64 l] w fun e w' => e = .returned (.int .i64 (atL m l)) ∧ Below w.heap.size w w' := by
  refine (at_any p m l w h0 h1 hv).mono ?_
  rintro e w' ⟨rfl, rfl⟩
  exact ⟨rfl, below_new _ _⟩

end Go.Proofs.Ytapaimoahiplcaa
