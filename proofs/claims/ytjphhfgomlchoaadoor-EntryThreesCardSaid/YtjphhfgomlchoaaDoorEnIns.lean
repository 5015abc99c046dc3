/- The insertion sort of a block of a list of entries: it is the stable merge, entry by entry. -/
import Derived.Test.YtjphhfgomlchoaaDoorEnMrg
import Derived.Test.YtjphhfgomlchoaaDoorEnSym
namespace Go.Proofs.YtjphhfgomlchoaaDoor
open Go.ChangeShapes Go.WideShapes Go.ChangeAt Go.RowKit Go.Maps
/-- By location, ascending. -/
abbrev Asc (L : List En) : Prop := L.Pairwise fun a b => a.1 ≤ b.1
theorem ltOf_iff (x y : En) : ltOf cmpE x y = decide (x.1 < y.1) := by
  unfold ltOf cmpE
  by_cases h : x.1 < y.1
  · simp [h]
  · by_cases h2 : y.1 < x.1
    · simp [h, h2]
    · simp [h, h2]
theorem mrg_end_lt (A : List En) (y x : En) (h : x.1 < y.1) : mrg (A ++ [y]) [x] = mrg A [x] ++ [y] := by
  have := mrg_split (A.length + 1) A [y] [x] [] (by simp) (fun _ _ _ h => by cases h) (fun v hv u hu => by
    obtain rfl : v = x := by simpa using hv
    obtain rfl : u = y := by simpa using hu
    exact h)
  rwa [List.append_nil, mrg_nil'] at this
theorem mrg_end_ge (A : List En) (y x : En) (hs : Asc (A ++ [y])) (h : ¬ x.1 < y.1) : mrg (A ++ [y]) [x] = A ++ [y] ++ [x] := by
  have h1 : ∀ u ∈ A ++ [y], u.1 ≤ x.1 := fun u hu => by
    rcases List.mem_append.1 hu with h2 | h2
    · have := (List.pairwise_append.1 hs).2.2 u h2 y (by simp)
      omega
    · obtain rfl : u = y := by simpa using h2
      omega
  have := mrg_last x (A ++ [y]) [] h1 (fun _ h => by cases h)
  rwa [List.append_nil] at this
theorem get_0 (Q S : List En) (x y : En) : (Q ++ y :: x :: S).toArray[Q.length]! = y := by simp
theorem get_1 (Q S : List En) (x y : En) : (Q ++ y :: x :: S).toArray[Q.length + 1]! = x := by simp
theorem swp_list (Q S : List En) (x y : En) : (Go.Sort.swp (Q ++ y :: x :: S).toArray (Q.length + 1) Q.length) = (Q ++ x :: y :: S).toArray := by
  have e0 : (Q ++ y :: x :: S).toArray[Q.length]! = y := by simp
  have e1 : (Q ++ y :: x :: S).toArray[Q.length + 1]! = x := by simp
  unfold Go.Sort.swp
  rw [e0, e1]
  simp
theorem inner_list (P : List En) (n : Nat) : ∀ (A S : List En) (x : En), A.length = n → Asc A → Go.Sort.insInner (ltOf cmpE) P.length (P.length + n) (P ++ (A ++ x :: S)).toArray = (P ++ (mrg A [x] ++ S)).toArray := by
  induction n with
  | zero =>
    intro A S x hA _
    obtain rfl := List.length_eq_zero_iff.1 hA
    rw [mrg_nil]
    cases hp : P.length with
    | zero => rfl
    | succ a =>
      rw [Nat.add_zero]
      unfold Go.Sort.insInner
      rw [if_neg (by simp)]
      rfl
  | succ n ih =>
    intro A S x hA hs
    obtain ⟨A', y, rfl⟩ : ∃ A' y, A = A' ++ [y] := ⟨A.dropLast, A.getLast (by intro e; subst e; cases hA), (List.dropLast_concat_getLast _).symm⟩
    have hA' : A'.length = n := by simpa using hA
    have hs' : Asc A' := (List.pairwise_append.1 hs).1
    have e : P ++ ((A' ++ [y]) ++ x :: S) = (P ++ A') ++ y :: x :: S := by simp
    have q : (P ++ A').length = P.length + n := by rw [List.length_append, hA']
    have d0 : ((P ++ A') ++ y :: x :: S).toArray[P.length + n]! = y := by rw [← q]; exact get_0 _ _ _ _
    have d1 : ((P ++ A') ++ y :: x :: S).toArray[P.length + n + 1]! = x := by rw [← q]; exact get_1 _ _ _ _
    rw [e, ← Nat.add_assoc]
    unfold Go.Sort.insInner
    rw [d0, d1, ltOf_iff]
    by_cases h : x.1 < y.1
    · rw [if_pos (by simp [h]; omega), ← q, swp_list, q]
      have := ih A' (y :: S) x hA' hs'
      rw [mrg_end_lt _ _ _ h]
      rw [show P ++ A' ++ x :: y :: S = P ++ (A' ++ x :: (y :: S)) by simp, this]
      simp
    · rw [if_neg (by simp [h]), mrg_end_ge _ _ _ hs h]
      simp
theorem mrg_asc (n : Nat) : ∀ U V : List En, U.length + V.length ≤ n → Asc U → Asc V → Asc (mrg U V) ∧ ∀ x ∈ mrg U V, x ∈ U ∨ x ∈ V := by
  induction n with
  | zero =>
    intro U V h hu hv
    obtain rfl : U = [] := List.length_eq_zero_iff.1 (by omega)
    rw [mrg_nil]
    exact ⟨hv, fun x hx => .inr hx⟩
  | succ n ih =>
    intro U V h hu hv
    cases U with
    | nil => rw [mrg_nil]; exact ⟨hv, fun x hx => .inr hx⟩
    | cons u U =>
      cases V with
      | nil => rw [mrg_nil']; exact ⟨hu, fun x hx => .inl hx⟩
      | cons v V =>
        have hu2 := List.pairwise_cons.1 hu
        have hv2 := List.pairwise_cons.1 hv
        by_cases hlt : v.1 < u.1
        · obtain ⟨i1, i2⟩ := ih (u :: U) V (by simp at h ⊢; omega) hu hv2.2
          rw [mrg_lt _ _ hlt]
          refine ⟨List.pairwise_cons.2 ⟨fun x hx => ?_, i1⟩, fun x hx => ?_⟩
          · rcases i2 x hx with h1 | h1
            · rcases List.mem_cons.1 h1 with rfl | h1
              · omega
              · have := hu2.1 x h1; omega
            · exact hv2.1 x h1
          · rcases List.mem_cons.1 hx with rfl | hx
            · exact .inr (by simp)
            · rcases i2 x hx with h1 | h1
              · exact .inl h1
              · exact .inr (List.mem_cons_of_mem _ h1)
        · obtain ⟨i1, i2⟩ := ih U (v :: V) (by simp at h ⊢; omega) hu2.2 hv
          rw [mrg_ge _ _ hlt]
          refine ⟨List.pairwise_cons.2 ⟨fun x hx => ?_, i1⟩, fun x hx => ?_⟩
          · rcases i2 x hx with h1 | h1
            · exact hu2.1 x h1
            · rcases List.mem_cons.1 h1 with rfl | h1
              · omega
              · have := hv2.1 x h1; omega
          · rcases List.mem_cons.1 hx with rfl | hx
            · exact .inl (by simp)
            · rcases i2 x hx with h1 | h1
              · exact .inl (List.mem_cons_of_mem _ h1)
              · exact .inr h1
/-- The stable sort: entry by entry from the front. -/
def srt (L : List En) : List En := L.foldl (fun acc x => mrg acc [x]) []
theorem outer_list (P S : List En) : ∀ (R A : List En), Asc A → Go.Sort.insOuter (ltOf cmpE) P.length (P.length + A.length + R.length) (P.length + A.length) (P ++ (A ++ (R ++ S))).toArray = (P ++ (R.foldl (fun acc x => mrg acc [x]) A ++ S)).toArray := by
  intro R
  induction R with
  | nil =>
    intro A _
    rw [Go.Sort.insOuter, if_neg (by simp)]
    rfl
  | cons x R ih =>
    intro A hA
    have hl := mrg_len (A.length + 1) A [x] (by simp)
    have := ih (mrg A [x]) (mrg_asc (A.length + 1) A [x] (by simp) hA (by simp)).1
    rw [hl] at this
    rw [Go.Sort.insOuter, if_pos (by simp), List.cons_append, inner_list P A.length A (R ++ S) x rfl hA, List.foldl_cons, ← this]
    congr 1
    simp; omega
theorem insertion_list (P X S : List En) (h : X ≠ []) : Go.Sort.insertionSort (ltOf cmpE) (P ++ (X ++ S)).toArray P.length (P.length + X.length) = (P ++ (srt X ++ S)).toArray := by
  cases X with
  | nil => exact absurd rfl h
  | cons x X =>
    unfold Go.Sort.insertionSort srt
    have := outer_list P S X [x] (by simp)
    rw [List.foldl_cons, mrg_nil, ← this]
    congr 1
    simp; omega
end Go.Proofs.YtjphhfgomlchoaaDoor
