/- What one operation may change: plain facts. -/
import Derived.Test.YtbaljoehgdhhhaaSound
namespace Go.Proofs.Ytbaljoehgdhhhaa
open Go.RowKit Go.Shelf Go.Maps
/-- What an operation may change, for every thread and every address. -/
structure Coh (M M' : Mem) (d : DoV) : Prop where
  v : ∀ k : Nat, (k : Int) + 1 ≠ d.t → M'.view k = M.view k
  u : ∀ k q : Nat, atL (M.view k) q ≤ atL (M'.view k) q
  o : ∀ q : Nat, (q : Int) ≠ d.at_ → M'.hist q = M.hist q
  h : ∀ q : Nat, M'.hist q = M.hist q ∨ ((q : Int) = d.at_ ∧ ∃ g, M'.hist q = M.hist q ++ [g])
theorem coh_res {N : Nat} {M : Mem} (h : M.Sound) (G : M.Good N) (hN : N ≤ 1000) (d : DoV) : Coh M (M.res d).1 d := by
  have S := step_res h G hN d
  by_cases hs : (M.res d).1 = M
  · rw [hs]
    exact ⟨fun _ _ => rfl, fun _ _ => Int.le_refl _, fun _ _ => rfl, fun _ => .inl rfl⟩
  · have hd : (1 ≤ d.t ∧ d.t ≤ M.vs.length) ∧ (0 ≤ d.at_ ∧ d.at_ < M.hs.length) := by
      refine errOf_zero ?_
      refine Decidable.byContradiction fun hne => hs ?_
      unfold Mem.res
      split
      · rfl
      · first | rfl | rw [if_pos hne]
    refine ⟨fun k hk => S.v k (by omega), fun k q => ?_, fun q hq => S.o q (by omega), fun q => ?_⟩
    · by_cases hk : k = (d.t - 1).toNat
      · rw [hk]; exact S.u q
      · rw [S.v k hk]; exact Int.le_refl _
    · by_cases hq : q = d.at_.toNat
      · subst hq
        rcases S.h with e | e
        · exact .inl e
        · exact .inr ⟨by omega, e⟩
      · exact .inl (S.o q hq)
theorem Coh.msg {M M' : Mem} {d : DoV} (h : Coh M M' d) (q i : Nat) (hi : i < (M.hist q).length) : M'.msg q i = M.msg q i := by
  unfold Mem.msg
  rcases h.h q with e | ⟨_, g, e⟩
  · rw [e]
  · rw [e, List.getD_eq_getElem?_getD, List.getElem?_append_left hi, List.getD_eq_getElem?_getD]
end Go.Proofs.Ytbaljoehgdhhhaa
