/- Plain mathematics of retired items: increasing lists. -/
namespace Go.Proofs.Ytknnnjnnphdipaa

/-- Strictly increasing. -/
def Inc (l : List Int) : Prop := l.Pairwise (· < ·)
theorem Inc.ext : ∀ {a b : List Int}, Inc a → Inc b → (∀ x, x ∈ a ↔ x ∈ b) → a = b
  | [], [], _, _, _ => rfl
  | [], y :: t, _, _, h => by have := (h y).2 (by simp); cases this
  | x :: s, [], _, _, h => by have := (h x).1 (by simp); cases this
  | x :: s, y :: t, ha, hb, h => by
    have ha1 := List.pairwise_cons.1 ha
    have hb1 := List.pairwise_cons.1 hb
    have e : x = y := by
      have h1 := (h x).1 (by simp)
      have h2 := (h y).2 (by simp)
      rcases List.mem_cons.1 h1 with h1 | h1
      · exact h1
      · rcases List.mem_cons.1 h2 with h2 | h2
        · exact h2.symm
        · have := hb1.1 _ h1; have := ha1.1 _ h2; omega
    subst e
    have : s = t := Inc.ext ha1.2 hb1.2 fun z => by
      constructor
      · intro hz
        rcases List.mem_cons.1 ((h z).1 (List.mem_cons_of_mem _ hz)) with e | e
        · subst e; have := ha1.1 _ hz; omega
        · exact e
      · intro hz
        rcases List.mem_cons.1 ((h z).2 (List.mem_cons_of_mem _ hz)) with e | e
        · subst e; have := hb1.1 _ hz; omega
        · exact e
    rw [this]
theorem Inc.len : ∀ {l : List Int} {a b : Int}, Inc l → (∀ x ∈ l, a ≤ x ∧ x < b) → (l.length : Int) ≤ b - a ∨ l = []
  | [], _, _, _, _ => .inr rfl
  | x :: s, a, b, h, hr => by
    have h1 := List.pairwise_cons.1 h
    have hx := hr x (by simp)
    rcases Inc.len (a := x + 1) (b := b) h1.2 (fun z hz => ⟨by have := h1.1 z hz; omega, (hr z (by simp [hz])).2⟩) with h2 | h2
    · left; simp only [List.length_cons]; omega
    · subst h2; left; simp only [List.length_cons, List.length_nil]; omega
theorem Inc.len' {l : List Int} {N : Nat} (h : Inc l) (hr : ∀ x ∈ l, 0 ≤ x ∧ x < N) : l.length ≤ N := by
  rcases h.len hr with h | h
  · omega
  · subst h; simp
theorem Inc.nil : Inc [] := List.Pairwise.nil
theorem take_succ_getDI (L : List Int) {k : Nat} (h : k < L.length) : L.take (k + 1) = L.take k ++ [L.getD k 0] := by
  rw [List.take_succ_eq_append_getElem h, List.getD, List.getElem?_eq_getElem h]; rfl
theorem getD_mem {L : List Int} {k : Nat} (h : k < L.length) : L.getD k 0 ∈ L := by
  rw [List.getD, List.getElem?_eq_getElem h]; exact List.getElem_mem _
theorem mem_getD {L : List Int} {x : Int} (h : x ∈ L) : ∃ k, k < L.length ∧ L.getD k 0 = x := by
  obtain ⟨k, hk, e⟩ := List.getElem_of_mem h
  exact ⟨k, hk, by rw [List.getD, List.getElem?_eq_getElem hk]; exact e⟩

end Go.Proofs.Ytknnnjnnphdipaa
