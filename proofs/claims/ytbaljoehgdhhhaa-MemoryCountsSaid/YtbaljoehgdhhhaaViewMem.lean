/- Keys of a view's map. -/
import Derived.Test.YtbaljoehgdhhhaaViewBase
import Derived.WalkKit
import Derived.WalkSpells
import Derived.WalkLawsBesides
import Derived.Carry
import Derived.Lib.Hide
import Derived.Maps.Own
import Derived.Maps.OwnOps
import Derived.Maps.OwnSet
import Derived.Maps.RangeWalk
import Derived.Maps.Ext
import Derived.Deep.LoopGhost
namespace Go.Proofs.Ytbaljoehgdhhhaa
open Go.RowKit Go.Shelf Go.Maps

theorem has_false {m : List (Int × Int)} {l : Int} (h : Maps.has (dat m) (.int .i64 l) = false) : atL m l = 0 := by
  rw [dat_has] at h
  refine atL_none fun p hp e => ?_
  have := List.any_eq_false.1 h p hp
  simp [e] at this

theorem has_mem {m : List (Int × Int)} {l : Int} (h : Maps.has (dat m) (.int .i64 l) = true) : ∃ p ∈ m, p.1 = l := by
  rw [dat_has] at h
  obtain ⟨p, hp, e⟩ := List.any_eq_true.1 h
  exact ⟨p, hp, by simpa using e⟩

theorem came {m : List (Int × Int)} {x c : Int} (hat : ∀ zd, (dat m).atKey (.int .i64 x) zd = .lit (.int .i64 c)) : Maps.has (dat m) (.int .i64 x) = true ∧ atL m x = c := by
  refine ⟨Maps.has_true_of_atKey hat, ?_⟩
  have := hat (.lit (.int .i64 0))
  rw [dat_at] at this
  cases this; rfl
end Go.Proofs.Ytbaljoehgdhhhaa
