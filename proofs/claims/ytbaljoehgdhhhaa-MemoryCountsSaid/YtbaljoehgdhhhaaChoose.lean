/- The contract of history's Choose. -/
import Derived.Test.YtbaljoehgdhhhaaHistBase
namespace Go.Proofs.Ytbaljoehgdhhhaa
open Go.RowKit Go.Shelf Go.Maps

/-- What Choose answers. -/
def chooseL (n : Nat) (f c : Int) : Int := if n = 0 then -1 else ((n : Int) - 1) - (max c 0) % (((n : Int) - 1) - min (max f 0) ((n : Int) - 1) + 1)

theorem chooseL_eq {n : Nat} {f c g d x : Int} (hn : 0 < n) (hg : g = min (max f 0) ((n : Int) - 1)) (hd : d = max c 0) (hx : x = d % (((n : Int) - 1) - g + 1)) : chooseL n f c = (n : Int) - 1 - x := by
  unfold chooseL; rw [if_neg (by omega), hx, hg, hd]
theorem chooseL_in {n : Nat} {f c : Int} (hn : 0 < n) : 0 ≤ chooseL n f c ∧ chooseL n f c < n ∧ min (max f 0) ((n : Int) - 1) ≤ chooseL n f c := by
  rw [chooseL_eq hn rfl rfl rfl]
  have h1 := Int.emod_nonneg (max c 0) (show ((n : Int) - 1) - min (max f 0) ((n : Int) - 1) + 1 ≠ 0 by omega)
  have h2 := Int.emod_lt_of_pos (max c 0) (show 0 < ((n : Int) - 1) - min (max f 0) ((n : Int) - 1) + 1 by omega)
  omega
theorem wrap64_of {n : Nat} {f c x : Int} (hn : 0 < n) (hl : n ≤ 1000000) (h : chooseL n f c = x) : wrap64 x = chooseL n f c := by
  have := chooseL_in (f := f) (c := c) hn
  rw [← IntWalk.i64_left, IntWalk.i64_in _ (by omega), h]

set_option maxRecDepth 100000 in
set_option maxHeartbeats 800000 in
theorem choose_any (ad : Option Addr) (n k : Nat) (f c : Int) (w : World) (hl : n ≤ 1000000) (f0 : -9223372036854775808 ≤ f) (f1 : f < 9223372036854775808) (c0 : -9223372036854775808 ≤ c) (c1 : c < 9223372036854775808) :
    Calls Try.prog 55 #[.agg #[.slice ad n k], .int .i64 f, .int .i64 c] w fun e w' => e = .returned (.int .i64 (chooseL n f c)) ∧ Below w.heap.size w w' := by
  go_enter Try.func55, Try.ntmps55
  go_wp2_with fail
  refine (len_any _ n k _).mono ?_
  rintro e w1 ⟨rfl, rfl⟩
  go_wp2
  all_goals go_ret
  all_goals refine ⟨?_, b2 w _ _⟩
  all_goals (first | (rw [show n = 0 by omega]; rfl) | skip)
  all_goals refine congrArg (fun x => Ending.returned (.int .i64 x)) (wrap64_of (by omega) hl ?_)
  · rw [chooseL_eq (g := (n : Int) - 1) (d := 0) (x := 0) (by omega) (by omega) (by omega) (by simp)]; omega
  · rw [chooseL_eq (g := (n : Int) - 1) (d := c) (x := 0) (by omega) (by omega) (by omega) (by rw [show (n : Int) - 1 - ((n : Int) - 1) + 1 = 1 by omega]; omega)]; omega
  · rw [chooseL_eq (g := 0) (d := 0) (x := 0) (by omega) (by omega) (by omega) (by simp)]; omega
  · exact chooseL_eq (g := 0) (d := c) (by omega) (by omega) (by omega) (by rw [show (n : Int) - 1 - 0 + 1 = n by omega])
  · rw [chooseL_eq (g := f) (d := 0) (x := 0) (by omega) (by omega) (by omega) (by simp)]; omega
  · exact chooseL_eq (g := f) (d := c) (by omega) (by omega) (by omega) rfl
end Go.Proofs.Ytbaljoehgdhhhaa
