/- The stable merge of two lists of entries, and how it is cut in two. -/
import Derived.Test.YtjphhfgomlchoaaDoorEnSort
namespace Go.Proofs.YtjphhfgomlchoaaDoor
open Go.ChangeShapes Go.WideShapes Go.ChangeAt Go.RowKit Go.Maps
/-- The stable merge: an entry of the second list goes ahead only where its location is smaller. -/
def mrg : List En → List En → List En
  | [], V => V
  | u :: U, [] => u :: U
  | u :: U, v :: V => if v.1 < u.1 then v :: mrg (u :: U) V else u :: mrg U (v :: V)
termination_by U V => U.length + V.length
theorem mrg_nil (V : List En) : mrg [] V = V := by unfold mrg; rfl
theorem mrg_nil' (U : List En) : mrg U [] = U := by cases U <;> (unfold mrg; rfl)
theorem mrg_lt {u v : En} (U V : List En) (h : v.1 < u.1) : mrg (u :: U) (v :: V) = v :: mrg (u :: U) V := by
  rw [mrg.eq_3, if_pos h]
theorem mrg_ge {u v : En} (U V : List En) (h : ¬ v.1 < u.1) : mrg (u :: U) (v :: V) = u :: mrg U (v :: V) := by
  rw [mrg.eq_3, if_neg h]
theorem mrg_split (n : Nat) : ∀ (U1 U2 V1 V2 : List En), U1.length + V1.length ≤ n → (∀ u ∈ U1, ∀ v ∈ V2, u.1 ≤ v.1) → (∀ v ∈ V1, ∀ u ∈ U2, v.1 < u.1) → mrg (U1 ++ U2) (V1 ++ V2) = mrg U1 V1 ++ mrg U2 V2 := by
  induction n with
  | zero =>
    intro U1 U2 V1 V2 h _ _
    obtain rfl : U1 = [] := List.length_eq_zero_iff.1 (by omega)
    obtain rfl : V1 = [] := List.length_eq_zero_iff.1 (by omega)
    rw [mrg_nil]; rfl
  | succ n ih =>
    intro U1 U2 V1 V2 h hU hV
    cases U1 with
    | nil =>
      cases V1 with
      | nil => rw [mrg_nil]; rfl
      | cons v V1 =>
        rw [mrg_nil]
        cases U2 with
        | nil => rw [List.append_nil, mrg_nil, mrg_nil]
        | cons u U2 =>
          have := ih [] (u :: U2) V1 V2 (by simp at h ⊢; omega) (fun _ h => by cases h) (fun x hx => hV x (List.mem_cons_of_mem _ hx))
          rw [mrg_nil] at this
          rw [List.nil_append] at this ⊢
          rw [List.cons_append, mrg_lt _ _ (hV v (List.mem_cons_self ..) u (List.mem_cons_self ..)), this]; rfl
    | cons u U1 =>
      cases V1 with
      | nil =>
        rw [mrg_nil']
        cases V2 with
        | nil => rw [List.append_nil, mrg_nil', mrg_nil']
        | cons v V2 =>
          have := ih U1 U2 [] (v :: V2) (by simp at h ⊢; omega) (fun x hx => hU x (List.mem_cons_of_mem _ hx)) (fun _ h => by cases h)
          rw [mrg_nil'] at this
          rw [List.nil_append] at this ⊢
          have hle := hU u (List.mem_cons_self ..) v (List.mem_cons_self ..)
          rw [List.cons_append, mrg_ge _ _ (by omega), this]; rfl
      | cons v V1 =>
        rw [List.cons_append, List.cons_append]
        by_cases hlt : v.1 < u.1
        · have := ih (u :: U1) U2 V1 V2 (by simp at h ⊢; omega) hU (fun x hx => hV x (List.mem_cons_of_mem _ hx))
          rw [mrg_lt _ _ hlt, mrg_lt _ _ hlt, List.cons_append, ← this]; rfl
        · have := ih U1 U2 (v :: V1) V2 (by simp at h ⊢; omega) (fun x hx => hU x (List.mem_cons_of_mem _ hx)) hV
          rw [mrg_ge _ _ hlt, mrg_ge _ _ hlt, List.cons_append, ← this]; rfl
theorem mrg_len (n : Nat) : ∀ U V : List En, U.length + V.length ≤ n → (mrg U V).length = U.length + V.length := by
  induction n with
  | zero =>
    intro U V h
    obtain rfl : U = [] := List.length_eq_zero_iff.1 (by omega)
    rw [mrg_nil]; simp
  | succ n ih =>
    intro U V h
    cases U with
    | nil => rw [mrg_nil]; simp
    | cons u U =>
      cases V with
      | nil => rw [mrg_nil']; simp
      | cons v V =>
        by_cases hlt : v.1 < u.1
        · rw [mrg_lt _ _ hlt, List.length_cons, ih _ _ (by simp at h ⊢; omega)]; simp; omega
        · rw [mrg_ge _ _ hlt, List.length_cons, ih _ _ (by simp at h ⊢; omega)]; simp; omega
/-- One entry merged ahead: behind those that are smaller. -/
theorem mrg_one (u : En) (A B : List En) (h1 : ∀ v ∈ A, v.1 < u.1) (h2 : ∀ v ∈ B, u.1 ≤ v.1) : mrg [u] (A ++ B) = A ++ u :: B := by
  have := mrg_split (A.length) [] [u] A B (by simp) (fun _ h => by cases h) (fun v hv x hx => by
    obtain rfl : x = u := by simpa using hx
    exact h1 v hv)
  rw [List.nil_append, mrg_nil] at this
  rw [this]
  have := mrg_split 1 [u] [] [] B (by simp) (fun x hx v hv => by
    obtain rfl : x = u := by simpa using hx
    exact h2 v hv) (fun _ h => by cases h)
  rw [List.append_nil, List.nil_append, mrg_nil', mrg_nil] at this
  rw [this]; rfl
/-- One entry merged behind: ahead of those that are greater. -/
theorem mrg_last (v : En) (A B : List En) (h1 : ∀ u ∈ A, u.1 ≤ v.1) (h2 : ∀ u ∈ B, v.1 < u.1) : mrg (A ++ B) [v] = A ++ v :: B := by
  have := mrg_split (A.length) A B [] [v] (by simp) (fun x hx y hy => by
    obtain rfl : y = v := by simpa using hy
    exact h1 x hx) (fun _ h => by cases h)
  rw [List.nil_append, mrg_nil'] at this
  rw [this]
  have := mrg_split 1 [] B [v] [] (by simp) (fun _ h => by cases h) (fun x hx u hu => by
    obtain rfl : x = v := by simpa using hx
    exact h2 u hu)
  rw [List.nil_append, List.append_nil, mrg_nil, mrg_nil'] at this
  rw [this]; rfl
end Go.Proofs.YtjphhfgomlchoaaDoor
