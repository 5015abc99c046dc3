/- The stable sort of two lists joined is the merge of their stable sorts. -/
import Derived.Test.YtjphhfgomlchoaaDoorEnIns
namespace Go.Proofs.YtjphhfgomlchoaaDoor
open Go.ChangeShapes Go.WideShapes Go.ChangeAt Go.RowKit Go.Maps
theorem mrg_assoc1 (x : En) (n : Nat) : ∀ A B : List En, A.length + B.length ≤ n → mrg (mrg A B) [x] = mrg A (mrg B [x]) := by
  induction n with
  | zero =>
    intro A B h
    obtain rfl : A = [] := List.length_eq_zero_iff.1 (by omega)
    rw [mrg_nil, mrg_nil]
  | succ n ih =>
    intro A B h
    cases A with
    | nil => rw [mrg_nil, mrg_nil]
    | cons a A =>
      cases B with
      | nil => rw [mrg_nil', mrg_nil]
      | cons b B =>
        by_cases h1 : b.1 < a.1
        · rw [mrg_lt A B h1]
          by_cases h2 : x.1 < b.1
          · rw [mrg_lt _ _ h2, mrg_nil', mrg_lt _ _ h2, mrg_nil', mrg_lt A (b :: B) (show x.1 < a.1 by omega), mrg_lt A B h1]
          · rw [mrg_ge _ _ h2, mrg_ge _ _ h2, mrg_lt _ _ h1, ih (a :: A) B (by simp at h ⊢; omega)]
        · rw [mrg_ge A B h1]
          by_cases h2 : x.1 < a.1
          · rw [mrg_lt _ _ h2, mrg_nil', mrg_lt _ _ (show x.1 < b.1 by omega), mrg_nil', mrg_lt _ _ h2, mrg_ge _ _ h1]
          · rw [mrg_ge _ _ h2, ih A (b :: B) (by simp at h ⊢; omega)]
            by_cases h3 : x.1 < b.1
            · rw [mrg_lt _ _ h3, mrg_ge _ _ h2]
            · rw [mrg_ge _ _ h3, mrg_ge _ _ h1]
theorem srt_snoc (L : List En) (x : En) : srt (L ++ [x]) = mrg (srt L) [x] := by unfold srt; rw [List.foldl_append]; rfl
theorem srt_nil : srt [] = [] := rfl
theorem list_snoc {α : Type} {P : List α → Prop} (h0 : P []) (h1 : ∀ L x, P L → P (L ++ [x])) : ∀ L, P L := by
  intro L
  generalize hn : L.length = n
  induction n generalizing L with
  | zero => rw [List.length_eq_zero_iff.1 hn]; exact h0
  | succ n ih =>
    obtain ⟨A, y, rfl⟩ : ∃ A y, L = A ++ [y] := ⟨L.dropLast, L.getLast (by intro e; subst e; cases hn), (List.dropLast_concat_getLast _).symm⟩
    exact h1 A y (ih A (by simpa using hn))
theorem srt_app (X : List En) : ∀ Y, srt (X ++ Y) = mrg (srt X) (srt Y) := by
  refine list_snoc ?_ fun Y y ih => ?_
  · rw [List.append_nil, srt_nil, mrg_nil']
  · rw [← List.append_assoc, srt_snoc, ih, srt_snoc, mrg_assoc1 y _ _ _ (Nat.le_refl _)]
theorem srt_asc : ∀ L, Asc (srt L) := by
  refine list_snoc (by rw [srt_nil]; exact .nil) fun L x ih => ?_
  rw [srt_snoc]
  exact (mrg_asc _ _ _ (Nat.le_refl _) ih (by simp)).1
theorem srt_len : ∀ L, (srt L).length = L.length := by
  refine list_snoc rfl fun L x ih => ?_
  rw [srt_snoc, mrg_len _ _ _ (Nat.le_refl _), ih]; simp
/-- The library's insertion sort is the stable sort. -/
theorem insS_srt (L : List En) : insS L = srt L := by
  unfold insS
  cases L with
  | nil => decide +kernel
  | cons x L =>
    have := insertion_list [] (x :: L) [] (by simp)
    rw [List.nil_append, List.append_nil, List.nil_append, List.append_nil] at this
    rw [show ([] : List En).length = 0 from rfl, Nat.zero_add] at this
    rw [this]
end Go.Proofs.YtjphhfgomlchoaaDoor
