/- A map that counts each of different numbers once; what ReclaimSafe is about, in lists. -/
import Derived.Test.YtknnnjnnphdipaaRcSweeps
namespace Go.Proofs.Ytknnnjnnphdipaa
open Go.ChangeShapes Go.WideShapes Go.ChangeAt Go.RowKit Go.Maps
def oneI (S : List Int) (x : Int) : Int := if inL S x = true then 1 else 0
theorem zeroI3 (w : World) : (zeroValue 3).run Try.prog w = .ok (.int .i64 0) w := by kernel_rfl
/-- The map in block b says 1 of the members of S, that are all different. -/
def MapC (w : World) (b : Nat) (S : List Int) : Prop :=
  ∃ D, w.ownsMap Try.prog 3 (plainElem (H := Unit) Try.prog 3) b S.length D ∧ Tidy D ∧ size D = S.length ∧ (∀ x, has D (.int .i64 x) = inL S x) ∧ ∀ x, D.atKey (.int .i64 x) (.lit (.int .i64 0)) = .lit (.int .i64 (oneI S x))
theorem MapC.made (w : World) : MapC (w.alloc (.map #[] 0)) w.heap.size [] := ⟨_, World.ownsMap_made w Try.prog 3 _, tidy_empty, rfl, fun _ => rfl, fun _ => rfl⟩
theorem MapC.below {w w1 : World} {b : Nat} {S : List Int} (h : MapC w b S) (hb : Below w.heap.size w w1) : MapC w1 b S := by
  obtain ⟨D, h1, h2⟩ := h
  exact ⟨D, owns_below h1 hb, h2⟩
theorem MapC.look {w : World} {b : Nat} {S : List Int} (h : MapC w b S) (x : Int) (hx : I64 x) : (Instr.lookup 47 (.map (some b)) (.int .i64 x) false).run Try.prog w = .ok (.int .i64 (oneI S x)) w := by
  obtain ⟨D, h1, h2, _, _, h3⟩ := h
  obtain ⟨c, hrun, hat, _⟩ := h1.lookup_int lawN Try.underlying47 Try.underlying3 (zeroI3 w) (key_intN x hx)
  rw [h3] at hat
  injection hat with hat
  injection hat with _ hat
  rw [hrun, hat]
theorem MapC.len {w : World} {b : Nat} {S : List Int} (h : MapC w b S) (ty : TypeId) : (Builtin.len_ #[47] ty #[.map (some b)]).run Try.prog w = .ok (.int .i64 S.length) w := by
  obtain ⟨D, h1, _, h3, _⟩ := h
  rw [h1.len Try.underlying47 ty, h3]
theorem oneI_no {S : List Int} {x : Int} (h : x ∉ S) : oneI S x = 0 := by
  unfold oneI
  rw [if_neg (fun e => h ((inL_iff S x).1 e))]
theorem oneI_yes {S : List Int} {x : Int} (h : x ∈ S) : oneI S x = 1 := by
  unfold oneI
  rw [if_pos ((inL_iff S x).2 h)]
theorem wpList_markC (w : World) {ops : Array Oper} {rest : List Oper} {o : Oper} {a : Act} {Q : Exit → Act → World → Prop}
    (hg : o.guard = none) (m x v : Operand) (hop : o.op = Op.mapUpdate 47 m x v) (b : Nat) (S : List Int) (hm : a.eval m = .map (some b)) (hown : MapC w b S) (hn : S.length < 100000) (y : Int) (hx : a.eval x = .int .i64 y) (hv : a.eval v = .int .i64 1) (hy : I64 y) (hnew : y ∉ S)
    (hK : ∀ w', MapC w' b (S ++ [y]) → w.grownBy w' (some b) → wpList Try.prog ops Q rest (a.put o.dst undef) w') : wpList Try.prog ops Q (o :: rest) a w := by
  obtain ⟨D, h1, h2, h4, h3, h5⟩ := hown
  have hno : inL S y = false := by
    cases h : inL S y with
    | false => rfl
    | true => exact absurd ((inL_iff S y).1 h) hnew
  refine wpList_mapUpdate_own w hg m x v 47 hop 3 3 lawN Try.underlying47 _ b S.length D hm h1 (by unfold maxLen; omega) _ _ _ hx hv (key_intN y hy) _ [] (plainElem_int Try.underlying3 (by decide)) fun w' g1 g2 => hK w' ⟨_, by rw [List.length_append]; exact g1, h2.put (isKey _) _, ?_, fun z => ?_, fun z => ?_⟩ g2
  · rw [size_put h2, h3 y, hno, h4]; simp
  · rw [inL_app]
    by_cases e : z = y
    · subst e
      rw [has_put_same h2.isMap (isKey _)]; simp
    · rw [has_put_other (ne_key e), h3 z]
      have : (y == z) = false := by rw [beq_eq_false_iff_ne]; exact fun h => e h.symm
      rw [this, Bool.or_false]
  · unfold oneI
    rw [inL_app]
    by_cases e : z = y
    · subst e
      rw [atKey_put_same h2.isMap (isKey _)]; simp
    · rw [atKey_put_other (ne_key e), h5 z]
      have : (y == z) = false := by rw [beq_eq_false_iff_ne]; exact fun h => e h.symm
      rw [this, Bool.or_false]; rfl
theorem PS.markedC {w w1 : World} {v : Value} {L : List It} {b : Nat} {S : List Int} (h : PS w v L) (hm : MapC w b S) (hg : w.grownBy w1 (some b)) : PS w1 v L := by
  obtain ⟨D, ⟨es, clock, hb, _⟩, _⟩ := hm
  obtain ⟨a, cap, hv, hcap, h | ⟨b', off, ha, hl, hc⟩⟩ := h
  · exact ⟨a, cap, hv, hcap, .inl h⟩
  · refine ⟨a, cap, hv, hcap, ?_⟩
    by_cases hL : L = []
    · exact .inl hL
    · right
      have hne : b' ≠ b := by
        intro e
        subst e
        have := (hc 0 (List.length_pos_iff.2 hL)).1
        simp [World.cell?, hb] at this
      have hk := hg.block b' hl (by simpa using hne)
      refine ⟨b', off, ha, Nat.lt_of_lt_of_le hl hg.size, fun i hi => ?_⟩
      have := hc i hi
      simp only [World.cell?, hk] at this ⊢
      exact this
def fstL (L : List It) : List Int := L.map (·.1)
theorem fst_new {L : List It} (h : (fstL L).Nodup) {k : Nat} (hk : k < L.length) : (L.getD k zIt).1 ∉ fstL (L.take k) := by
  intro hm
  obtain ⟨x, hx, he⟩ := List.mem_map.1 hm
  unfold fstL at h
  rw [← List.take_append_drop k L, List.map_append, List.nodup_append] at h
  refine h.2.2 x.1 (List.mem_map.2 ⟨x, hx, rfl⟩) (L.getD k zIt).1 (List.mem_map.2 ⟨_, ?_, rfl⟩) he
  rw [List.drop_eq_getElem_cons hk, List.getD, List.getElem?_eq_getElem hk]
  exact List.mem_cons_self
theorem fst_succ (L : List It) {k : Nat} (hk : k < L.length) : fstL (L.take (k + 1)) = fstL (L.take k) ++ [(L.getD k zIt).1] := by
  unfold fstL
  rw [take_succ_getD3 L hk, List.map_append]; rfl
theorem fst_filter {L : List It} (h : Good6 L) (p : It → Bool) : (fstL (L.filter p)).Nodup := List.Nodup.sublist (List.Sublist.map _ List.filter_sublist) h.1
theorem good_eq {L : List It} (h : Good6 L) {x y : It} (hx : x ∈ L) (hy : y ∈ L) (e : x.1 = y.1) : x = y := by
  obtain ⟨i, hi, rfl⟩ := List.mem_iff_getElem.1 hx
  obtain ⟨j, hj, rfl⟩ := List.mem_iff_getElem.1 hy
  have hn := h.1
  have : i = j := by
    apply (List.getElem_inj (h₀ := by simpa using hi) (h₁ := by simpa using hj) hn).1
    simpa using e
  subst this; rfl
theorem gone_new {L : List It} (h : Good6 L) {A P G : List Int} (hG : Inc G) (hm : ∀ k, k ∈ G ↔ ∃ x ∈ L, protB A P x = false ∧ x.1 = k) {j : Nat} (hj : j < G.length) : G.getD j 0 ∉ fstL (L.filter (protB A P)) ++ G.take j := by
  intro hx
  rcases List.mem_append.1 hx with hx | hx
  · obtain ⟨x, h1, h2⟩ := List.mem_map.1 hx
    obtain ⟨y, h3, h4, h5⟩ := (hm (G.getD j 0)).1 (getD_memI hj)
    rw [List.mem_filter] at h1
    have := good_eq h h1.1 h3 (by rw [h5]; exact h2)
    subst this
    rw [h4] at h1
    exact absurd h1.2 (by simp)
  · have hn := hG.nd
    rw [← List.take_append_drop j G, List.nodup_append] at hn
    refine hn.2.2 _ hx _ ?_ rfl
    rw [List.drop_eq_getElem_cons hj, List.getD, List.getElem?_eq_getElem hj]
    exact List.mem_cons_self
theorem len_split (p : It → Bool) (L : List It) : (L.filter p).length + (L.filter (fun x => !p x)).length = L.length := by
  induction L with
  | nil => rfl
  | cons a l ih =>
    simp only [List.filter_cons, List.length_cons]
    cases p a <;> simp <;> omega
theorem len_all {L : List It} (h : Good6 L) {A P G : List Int} (hG : Inc G) (hm : ∀ k, k ∈ G ↔ ∃ x ∈ L, protB A P x = false ∧ x.1 = k) : (fstL (L.filter (protB A P)) ++ G).length = L.length := by
  rw [List.length_append, len_free h hG hm]
  unfold fstL freeL
  rw [List.length_map, List.length_map]
  exact len_split _ L
theorem all_in {L : List It} {A P G : List Int} (hm : ∀ k, k ∈ G ↔ ∃ x ∈ L, protB A P x = false ∧ x.1 = k) : ∀ x ∈ L, x.1 ∈ fstL (L.filter (protB A P)) ++ G := by
  intro x hx
  rw [List.mem_append]
  cases h : protB A P x with
  | true => exact .inl (List.mem_map.2 ⟨x, List.mem_filter.2 ⟨hx, h⟩, rfl⟩)
  | false => exact .inr ((hm x.1).2 ⟨x, hx, h, rfl⟩)
theorem gone_free {L : List It} (h : Good6 L) {A P G : List Int} (hm : ∀ k, k ∈ G ↔ ∃ x ∈ L, protB A P x = false ∧ x.1 = k) {k : Int} (hk : k ∈ G) : (∀ x ∈ L, x.1 = k → ∀ e ∈ A, byE x e = false) ∧ ∀ p ∈ P, p ≠ k + 1 := by
  obtain ⟨y, h1, h2, h3⟩ := (hm k).1 hk
  have hno : ¬ ((∃ e ∈ A, byE y e = true) ∨ ∃ h ∈ P, atP y h = true) := fun hc => by rw [(protB_iff A P y).2 hc] at h2; cases h2
  refine ⟨fun x hx he e hA => ?_, fun p hp e => ?_⟩
  · have := good_eq h hx h1 (he.trans h3.symm)
    subst this
    cases hb : byE x e with
    | false => rfl
    | true => exact absurd (.inl ⟨e, hA, hb⟩) hno
  · exact hno (.inr ⟨p, hp, decide_eq_true (by rw [h3]; exact e)⟩)
theorem again_all {L : List It} {A P : List Int} : (L.filter (protB A P)).filter (protB A P) = L.filter (protB A P) := by
  rw [List.filter_filter]; simp
theorem again_none {L : List It} {A P F : List Int} (hm : ∀ k, k ∈ F ↔ ∃ x ∈ L.filter (protB A P), protB A P x = false ∧ x.1 = k) : F = [] := by
  cases F with
  | nil => rfl
  | cons k r =>
    obtain ⟨x, h1, h2, _⟩ := (hm k).1 (by simp)
    rw [(List.mem_filter.1 h1).2] at h2
    cases h2
end Go.Proofs.Ytknnnjnnphdipaa
