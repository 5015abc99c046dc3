/- Bounds: no more items are kept than Bound says. -/
import Derived.Test.YtknnnjnnphdipaaRcRBound
namespace Go.Proofs.Ytknnnjnnphdipaa
open Go.ChangeShapes Go.WideShapes Go.ChangeAt Go.RowKit Go.Maps
theorem countP_or {α : Type} (p q : α → Bool) (L : List α) : L.countP (fun x => p x || q x) ≤ L.countP p + L.countP q := by
  induction L with
  | nil => simp
  | cons a l ih =>
    simp only [List.countP_cons]
    cases p a <;> cases q a <;> simp <;> omega
theorem count_byE (L : List It) (V : List Int) : L.countP (fun x => V.any (fun e => byE x e)) ≤ sumF (fun e => cntE e L) V := by
  induction V with
  | nil => simp [sumF]
  | cons e V ih =>
    simp only [List.any_cons]
    refine Nat.le_trans (countP_or (fun x => byE x e) (fun x => V.any (fun e => byE x e)) L) ?_
    rw [show sumF (fun e => cntE e L) (e :: V) = cntE e L + sumF (fun e => cntE e L) V by simp [sumF]]
    exact Nat.add_le_add (Nat.le_refl _) ih
theorem count_one (h : Int) : ∀ L : List It, (L.map (·.1)).Nodup → L.countP (fun x => atP x h) ≤ oneP L h := by
  intro L
  induction L with
  | nil => intro _; simp
  | cons a l ih =>
    intro hn
    simp only [List.map_cons, List.nodup_cons] at hn
    have := ih hn.2
    rw [List.countP_cons]
    by_cases ha : atP a h = true
    · have h0 : l.countP (fun x => atP x h) = 0 := by
        rw [List.countP_eq_zero]
        intro x hx hc
        have e1 : h = a.1 + 1 := of_decide_eq_true ha
        have e2 : h = x.1 + 1 := of_decide_eq_true hc
        exact hn.1 (List.mem_map.2 ⟨x, hx, by omega⟩)
      rw [h0]
      have : oneP (a :: l) h = 1 := by unfold oneP; rw [if_pos]; unfold anyP; simp [ha]
      rw [this]
      simp [ha]
    · have ha' : atP a h = false := by simpa using ha
      have e : oneP (a :: l) h = oneP l h := by unfold oneP anyP; rw [List.any_cons, ha', Bool.false_or]
      rw [e]
      simp [ha]
      exact this
theorem count_atP (L : List It) (hL : (L.map (·.1)).Nodup) (U : List Int) : L.countP (fun x => U.any (fun h => atP x h)) ≤ sumF (fun h => if anyP h L = true then 1 else 0) U := by
  induction U with
  | nil => simp [sumF]
  | cons e V ih =>
    simp only [List.any_cons]
    refine Nat.le_trans (countP_or (fun x => atP x e) (fun x => V.any (fun e => atP x e)) L) ?_
    rw [show sumF (fun h => if anyP h L = true then 1 else 0) (e :: V) = oneP L e + sumF (fun h => if anyP h L = true then 1 else 0) V by simp [sumF, oneP]]
    exact Nat.add_le_add (count_one e L hL) ih
theorem kept_le {A P : List Int} {L : List It} {n : Nat} (hb : BoundS A P L n) (hL : (L.map (·.1)).Nodup) : (L.filter (protB A P)).length ≤ n := by
  obtain ⟨V, U, -, hv, -, hu, rfl⟩ := hb
  rw [← List.countP_eq_length_filter]
  refine Nat.le_trans ?_ (Nat.add_le_add (count_byE L V) (count_atP L hL U))
  refine Nat.le_trans (Nat.le_of_eq ?_) (countP_or _ _ L)
  congr 1
  funext x
  rw [Bool.eq_iff_iff, protB_iff]
  simp only [Bool.or_eq_true, List.any_eq_true, hv, hu]
theorem none_prot (L : List It) : L.filter (protB [0, 0] []) = [] := by
  rw [List.filter_eq_nil_iff]
  intro x _
  simp [protB, byE]
theorem sum_one (l : List Int) : sumF (fun _ => 1) l = l.length := by
  induction l with
  | nil => rfl
  | cons a l ih => simp [sumF] at ih ⊢; omega
theorem all_free {L : List It} {F : List Int} (hL : (L.map (·.1)).Nodup) (hF : F.Nodup) (hm : ∀ k, k ∈ F ↔ ∃ x ∈ L, protB [0, 0] [] x = false ∧ x.1 = k) : F.length = L.length := by
  have := sumF_eq (fun _ => 1) F (L.map (·.1)) hF hL (fun k => by
    rw [hm k, List.mem_map]
    constructor
    · rintro ⟨x, h1, _, h2⟩; exact ⟨x, h1, h2⟩
    · rintro ⟨x, h1, h2⟩; exact ⟨x, h1, by simp [protB, byE], h2⟩)
  rw [sum_one, sum_one, List.length_map] at this
  exact this
end Go.Proofs.Ytknnnjnnphdipaa
