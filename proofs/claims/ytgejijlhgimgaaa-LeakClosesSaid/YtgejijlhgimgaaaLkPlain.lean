/- Plain mathematics of reachability: increasing lists, the inductive set of reachable nodes, the worklist and the fixed point. -/
namespace Go.Proofs.Ytgejijlhgimgaaa

/-- Strictly increasing. -/
def Inc (l : List Int) : Prop := l.Pairwise (· < ·)
theorem Inc.ext : ∀ {a b : List Int}, Inc a → Inc b → (∀ x, x ∈ a ↔ x ∈ b) → a = b
  | [], [], _, _, _ => rfl
  | [], y :: t, _, _, h => by have := (h y).2 (by simp); cases this
  | x :: s, [], _, _, h => by have := (h x).1 (by simp); cases this
  | x :: s, y :: t, ha, hb, h => by
    have ha1 := List.pairwise_cons.1 ha
    have hb1 := List.pairwise_cons.1 hb
    have e : x = y := by
      have h1 := (h x).1 (by simp)
      have h2 := (h y).2 (by simp)
      rcases List.mem_cons.1 h1 with h1 | h1
      · exact h1
      · rcases List.mem_cons.1 h2 with h2 | h2
        · exact h2.symm
        · have := hb1.1 _ h1; have := ha1.1 _ h2; omega
    subst e
    have : s = t := Inc.ext ha1.2 hb1.2 fun z => by
      constructor
      · intro hz
        rcases List.mem_cons.1 ((h z).1 (List.mem_cons_of_mem _ hz)) with e | e
        · subst e; have := ha1.1 _ hz; omega
        · exact e
      · intro hz
        rcases List.mem_cons.1 ((h z).2 (List.mem_cons_of_mem _ hz)) with e | e
        · subst e; have := hb1.1 _ hz; omega
        · exact e
    rw [this]
theorem Inc.len : ∀ {l : List Int} {a b : Int}, Inc l → (∀ x ∈ l, a ≤ x ∧ x < b) → (l.length : Int) ≤ b - a ∨ l = []
  | [], _, _, _, _ => .inr rfl
  | x :: s, a, b, h, hr => by
    have h1 := List.pairwise_cons.1 h
    have hx := hr x (by simp)
    rcases Inc.len (a := x + 1) (b := b) h1.2 (fun z hz => ⟨by have := h1.1 z hz; omega, (hr z (by simp [hz])).2⟩) with h2 | h2
    · left; simp only [List.length_cons]; omega
    · subst h2; left; simp only [List.length_cons, List.length_nil]; omega
theorem Inc.len' {l : List Int} {N : Nat} (h : Inc l) (hr : ∀ x ∈ l, 0 ≤ x ∧ x < N) : l.length ≤ N := by
  rcases h.len hr with h | h
  · omega
  · subst h; simp
theorem Inc.nil : Inc [] := List.Pairwise.nil
/-- x goes where all before it are less and the rest is greater. -/
theorem Inc.insert {l : List Int} {x : Int} {k : Nat} (h : Inc l) (hx : x ∉ l) (hk : k ≤ l.length) (h1 : ∀ i, i < k → l.getD i 0 < x) (h2 : k = l.length ∨ ¬ l.getD k 0 < x) : Inc (l.take k ++ [x] ++ l.drop k) := by
  unfold Inc at *
  have hl : ∀ y ∈ l.take k, y < x := by
    intro y hy
    obtain ⟨i, hi, rfl⟩ := List.getElem_of_mem hy
    rw [List.length_take] at hi
    have := h1 i (by omega)
    rw [List.getD, List.getElem?_eq_getElem (by omega)] at this
    rw [List.getElem_take]; exact this
  have hr : ∀ y ∈ l.drop k, x < y := by
    intro y hy
    obtain ⟨i, hi, rfl⟩ := List.getElem_of_mem hy
    rw [List.length_drop] at hi
    rcases h2 with h2 | h2
    · omega
    have hne : l.getD k 0 ≠ x := by
      intro e
      apply hx
      rw [← e, List.getD, List.getElem?_eq_getElem (by omega)]
      exact List.getElem_mem _
    have hk0 : x < l.getD k 0 := by omega
    rw [List.getD, List.getElem?_eq_getElem (by omega)] at hk0
    rw [List.getElem_drop]
    rcases Nat.eq_zero_or_pos i with rfl | hp
    · simpa using hk0
    · have hh := List.pairwise_iff_getElem.1 h k (k + i) (by omega) (by omega) (by omega)
      simp only [Option.getD_some] at hk0
      omega
  rw [List.append_assoc, List.pairwise_append]
  refine ⟨List.Pairwise.sublist (List.take_sublist _ _) h, ?_, ?_⟩
  · rw [List.pairwise_append]
    exact ⟨by simp, List.Pairwise.sublist (List.drop_sublist _ _) h, fun a ha b hb => by simp at ha; subst ha; exact hr b hb⟩
  · intro a ha b hb
    rcases List.mem_append.1 hb with hb | hb
    · simp at hb; subst hb; exact hl a ha
    · have := hl a ha; have := hr b hb; omega
theorem mem_insert {l : List Int} {x : Int} {k : Nat} (y : Int) : y ∈ l.take k ++ [x] ++ l.drop k ↔ y ∈ l ++ [x] := by
  rw [List.append_assoc]
  constructor
  · intro h
    rcases List.mem_append.1 h with h | h
    · exact List.mem_append.2 (.inl (List.mem_of_mem_take h))
    · rcases List.mem_append.1 h with h | h
      · exact List.mem_append.2 (.inr h)
      · exact List.mem_append.2 (.inl (List.mem_of_mem_drop h))
  · intro h
    rcases List.mem_append.1 h with h | h
    · rw [← List.take_append_drop k l] at h
      rcases List.mem_append.1 h with h | h
      · exact List.mem_append.2 (.inl h)
      · exact List.mem_append.2 (.inr (List.mem_append.2 (.inr h)))
    · exact List.mem_append.2 (.inr (List.mem_append.2 (.inl h)))
theorem len_insert {l : List Int} {x : Int} {k : Nat} : (l.take k ++ [x] ++ l.drop k).length = l.length + 1 := by
  simp only [List.length_append, List.length_take, List.length_drop, List.length_singleton]; omega
theorem take_succ_getDI (L : List Int) {k : Nat} (h : k < L.length) : L.take (k + 1) = L.take k ++ [L.getD k 0] := by
  rw [List.take_succ_eq_append_getElem h, List.getD, List.getElem?_eq_getElem h]; rfl
theorem getD_mem {L : List Int} {k : Nat} (h : k < L.length) : L.getD k 0 ∈ L := by
  rw [List.getD, List.getElem?_eq_getElem h]; exact List.getElem_mem _
theorem mem_getD {L : List Int} {x : Int} (h : x ∈ L) : ∃ k, k < L.length ∧ L.getD k 0 = x := by
  obtain ⟨k, hk, e⟩ := List.getElem_of_mem h
  exact ⟨k, hk, by rw [List.getD, List.getElem?_eq_getElem hk]; exact e⟩

/-- The reachable nodes. -/
inductive Rch (roots : List Int) (N : List (List Int)) : Int → Prop
  | root {x : Int} : x ∈ roots → 0 ≤ x → x < N.length → Rch roots N x
  | step {y x : Int} : Rch roots N y → x ∈ N.getD y.toNat [] → 0 ≤ x → x < N.length → Rch roots N x
theorem Rch.range {roots : List Int} {N : List (List Int)} {x : Int} (h : Rch roots N x) : 0 ≤ x ∧ x < N.length := by
  cases h with
  | root _ h1 h2 => exact ⟨h1, h2⟩
  | step _ _ h1 h2 => exact ⟨h1, h2⟩
/-- A set that holds the roots and is closed holds all reachable nodes. -/
theorem Rch.least {roots : List Int} {N : List (List Int)} {P : Int → Prop} (h0 : ∀ x ∈ roots, 0 ≤ x → x < N.length → P x) (h1 : ∀ y, P y → 0 ≤ y → y < N.length → ∀ x ∈ N.getD y.toNat [], 0 ≤ x → x < N.length → P x) {x : Int} (h : Rch roots N x) : P x := by
  induction h with
  | root h a b => exact h0 _ h a b
  | step hy h a b ih => exact h1 _ ih hy.range.1 hy.range.2 _ h a b
theorem Rch.mono {r s : List Int} {N : List (List Int)} (h : ∀ x ∈ r, x ∈ s) {x : Int} (hx : Rch r N x) : Rch s N x :=
  hx.least (fun _ hx a b => .root (h _ hx) a b) (fun _ hy _ _ _ hx a b => .step hy hx a b)
theorem Rch.app {r s : List Int} {N : List (List Int)} {x : Int} : Rch (r ++ s) N x ↔ Rch r N x ∨ Rch s N x := by
  constructor
  · exact fun h => h.least (P := fun x => Rch r N x ∨ Rch s N x) (fun x hx a b => by
      rcases List.mem_append.1 hx with h | h
      · exact .inl (.root h a b)
      · exact .inr (.root h a b)) (fun _ hy _ _ _ hx a b => hy.imp (fun h => .step h hx a b) (fun h => .step h hx a b))
  · rintro (h | h)
    · exact h.mono (by simp; exact fun _ h => .inl h)
    · exact h.mono (by simp; exact fun _ h => .inr h)

/-- How many of 0 .. n-1 are in the list. -/
def cnt (got : List Int) : Nat → Nat
  | 0 => 0
  | n + 1 => cnt got n + if ((n : Int) ∈ got) then 1 else 0
theorem cnt_le (got : List Int) (n : Nat) : cnt got n ≤ n := by
  induction n with
  | zero => exact Nat.le_refl _
  | succ n ih => simp only [cnt]; split <;> omega
theorem cnt_far (got : List Int) (x : Int) (n : Nat) (h : n ≤ x) : cnt (got ++ [x]) n = cnt got n := by
  induction n with
  | zero => rfl
  | succ n ih =>
    simp only [cnt]
    rw [ih (by omega)]
    have : ((n : Int) ∈ got ++ [x]) ↔ ((n : Int) ∈ got) := by simp; omega
    simp only [this]
theorem cnt_add (got : List Int) (x : Int) (n : Nat) (h0 : 0 ≤ x) (hn : x < n) (hx : x ∉ got) : cnt (got ++ [x]) n = cnt got n + 1 := by
  induction n with
  | zero => omega
  | succ n ih =>
    simp only [cnt]
    by_cases e : x = n
    · subst e
      rw [cnt_far _ _ _ (Int.le_refl _), if_pos (by simp), if_neg hx]
    · rw [ih (by omega)]
      have : ((n : Int) ∈ got ++ [x]) ↔ ((n : Int) ∈ got) := by simp; omega
      simp only [this]
      omega

/-- One node, handed to the worklist. -/
def ext1 (n : Nat) (s : List Bool × List Int) (x : Int) : List Bool × List Int :=
  if 0 ≤ x ∧ x < n ∧ s.1.getD x.toNat false = false then (s.1.set x.toNat true, s.2 ++ [x]) else s
def extL (n : Nat) (s : List Bool × List Int) (l : List Int) : List Bool × List Int := l.foldl (ext1 n) s
theorem extL_snoc (n : Nat) (s : List Bool × List Int) (l : List Int) (x : Int) : extL n s (l ++ [x]) = ext1 n (extL n s l) x := by
  unfold extL; rw [List.foldl_append]; rfl
def un (M : List Bool) : Nat := M.countP (!·)
/-- What holds of the marks and the worklist: they are sound, the worklist is marked, and what is marked and no longer listed is closed. -/
structure WL (roots : List Int) (N : List (List Int)) (s : List Bool × List Int) : Prop where
  len : s.1.length = N.length
  sound : ∀ i, i < N.length → s.1.getD i false = true → Rch roots N i
  work : ∀ x ∈ s.2, 0 ≤ x ∧ x < N.length ∧ s.1.getD x.toNat false = true
  room : s.2.length + un s.1 ≤ N.length
theorem getD_set {M : List Bool} {i j : Nat} (h : i < M.length) : (M.set i true).getD j false = if j = i then true else M.getD j false := by
  rw [List.getD, List.getElem?_set]
  by_cases e : i = j
  · subst e; simp [h]
  · simp [e, Ne.symm e, List.getD]
theorem un_set {M : List Bool} {i : Nat} (h : i < M.length) (hm : M.getD i false = false) : un (M.set i true) + 1 = un M := by
  unfold un
  have hp := List.countP_set (p := (!·)) (a := true) h
  rw [List.getD, List.getElem?_eq_getElem h] at hm
  simp only [Option.getD_some] at hm
  have hpos : 0 < M.countP (!·) := List.countP_pos_iff.2 ⟨M[i], List.getElem_mem _, by simp [hm]⟩
  rw [hp]
  simp [hm]
  omega
theorem WL.ext1 {roots : List Int} {N : List (List Int)} {s : List Bool × List Int} (h : WL roots N s) {x : Int} (hx : 0 ≤ x → x < N.length → Rch roots N x) : WL roots N (ext1 N.length s x) := by
  unfold Ytgejijlhgimgaaa.ext1
  split
  · rename_i hc
    obtain ⟨a, b, c⟩ := hc
    have hl : x.toNat < s.1.length := by rw [h.len]; omega
    refine ⟨by simp [h.len], ?_, ?_, ?_⟩
    · intro i hi hm
      simp only [getD_set hl] at hm
      split at hm
      · rename_i e; subst e; have := hx a b; rw [show ((x.toNat : Nat) : Int) = x by omega]; exact this
      · exact h.sound i hi hm
    · intro y hy
      simp only [getD_set hl]
      rcases List.mem_append.1 hy with hy | hy
      · obtain ⟨p, q, r⟩ := h.work y hy
        exact ⟨p, q, by split <;> simp_all⟩
      · simp at hy; subst hy; exact ⟨a, b, by simp⟩
    · have := h.room
      have hu := un_set hl c
      simp only [List.length_append, List.length_singleton]
      omega
  · exact h
theorem ext1_mark {N : List (List Int)} {s : List Bool × List Int} (hlen : s.1.length = N.length) (x : Int) (j : Nat) (h : s.1.getD j false = true) : (ext1 N.length s x).1.getD j false = true := by
  unfold Ytgejijlhgimgaaa.ext1
  split
  · rename_i hc
    rw [getD_set (by rw [hlen]; omega)]
    split
    · rfl
    · exact h
  · exact h
theorem ext1_new {N : List (List Int)} {s : List Bool × List Int} (hlen : s.1.length = N.length) (x : Int) (j : Nat) (h : (ext1 N.length s x).1.getD j false = true) : s.1.getD j false = true ∨ (j : Int) ∈ (ext1 N.length s x).2 := by
  unfold Ytgejijlhgimgaaa.ext1 at *
  split at h
  · rename_i hc
    rw [getD_set (by rw [hlen]; omega)] at h
    rw [if_pos hc]
    split at h
    · rename_i e; right; simp; right; omega
    · exact .inl h
  · exact .inl h
theorem ext1_has {N : List (List Int)} {s : List Bool × List Int} (hlen : s.1.length = N.length) (x : Int) (a : 0 ≤ x) (b : x < N.length) : (ext1 N.length s x).1.getD x.toNat false = true := by
  unfold Ytgejijlhgimgaaa.ext1
  split
  · rw [getD_set (by rw [hlen]; omega)]; simp
  · rename_i hc
    cases e : s.1.getD x.toNat false with
    | true => rfl
    | false => exact absurd ⟨a, b, e⟩ hc
theorem ext1_sub {n : Nat} {s : List Bool × List Int} (x : Int) : ∀ y ∈ s.2, y ∈ (ext1 n s x).2 := by
  unfold Ytgejijlhgimgaaa.ext1
  intro y hy
  split
  · simp [hy]
  · exact hy
/-- All that extL does. -/
theorem extL_all {roots : List Int} {N : List (List Int)} (l : List Int) : ∀ (s : List Bool × List Int), WL roots N s → (∀ x ∈ l, 0 ≤ x → x < N.length → Rch roots N x) →
    WL roots N (extL N.length s l) ∧ (∀ j, s.1.getD j false = true → (extL N.length s l).1.getD j false = true) ∧ (∀ y ∈ s.2, y ∈ (extL N.length s l).2) ∧
    (∀ j : Nat, (extL N.length s l).1.getD j false = true → s.1.getD j false = true ∨ (j : Int) ∈ (extL N.length s l).2) ∧ (∀ x ∈ l, 0 ≤ x → x < N.length → (extL N.length s l).1.getD x.toNat false = true) := by
  induction l with
  | nil => exact fun s h _ => ⟨h, fun _ h => h, fun _ h => h, fun _ h => .inl h, fun _ h => by cases h⟩
  | cons a r ih =>
    intro s h hx
    have h1 := h.ext1 (x := a) (hx a (by simp))
    obtain ⟨i1, i2, i3, i4, i5⟩ := ih _ h1 (fun x hxr => hx x (by simp [hxr]))
    have e : extL N.length s (a :: r) = extL N.length (Ytgejijlhgimgaaa.ext1 N.length s a) r := rfl
    rw [e]
    refine ⟨i1, fun j hj => i2 j (ext1_mark h.len a j hj), fun y hy => i3 y (ext1_sub a y hy), fun j hj => ?_, fun x hxm p q => ?_⟩
    · rcases i4 j hj with h4 | h4
      · rcases ext1_new h.len a j h4 with h5 | h5
        · exact .inl h5
        · exact .inr (i3 _ h5)
      · exact .inr h4
    · rcases List.mem_cons.1 hxm with rfl | hxm
      · exact i2 _ (ext1_has h.len x p q)
      · exact i5 x hxm p q
theorem extL_room {roots : List Int} {N : List (List Int)} (l : List Int) (s : List Bool × List Int) (h : WL roots N s) (hx : ∀ x ∈ l, 0 ≤ x → x < N.length → Rch roots N x) : 2 * un (extL N.length s l).1 + (extL N.length s l).2.length ≤ 2 * un s.1 + s.2.length := by
  induction l generalizing s with
  | nil => exact Nat.le_refl _
  | cons a r ih =>
    have e : extL N.length s (a :: r) = extL N.length (Ytgejijlhgimgaaa.ext1 N.length s a) r := rfl
    rw [e]
    refine Nat.le_trans (ih _ (h.ext1 (hx a (by simp))) (fun x hxr => hx x (by simp [hxr]))) ?_
    unfold Ytgejijlhgimgaaa.ext1
    split
    · rename_i hc
      have := un_set (M := s.1) (i := a.toNat) (by rw [h.len]; omega) hc.2.2
      simp only [List.length_append, List.length_singleton]; omega
    · exact Nat.le_refl _
/-- Closed but for the worklist. -/
def Half (N : List (List Int)) (s : List Bool × List Int) : Prop :=
  ∀ j : Nat, j < N.length → s.1.getD j false = true → (j : Int) ∈ s.2 ∨ ∀ x ∈ N.getD j [], 0 ≤ x → x < N.length → s.1.getD x.toNat false = true
/-- The roots are marked. -/
def Rooted (roots : List Int) (N : List (List Int)) (s : List Bool × List Int) : Prop := ∀ x ∈ roots, 0 ≤ x → x < N.length → s.1.getD x.toNat false = true
structure Run (roots : List Int) (N : List (List Int)) (s : List Bool × List Int) : Prop where
  wl : WL roots N s
  half : Half N s
  rooted : Rooted roots N s
theorem getD_none {α : Type} (n j : Nat) (d : α) : (List.replicate n d).getD j d = d := by
  rw [List.getD, List.getElem?_replicate]; split <;> rfl
theorem un_none (n : Nat) : un (List.replicate n false) = n := by
  unfold un; rw [List.countP_replicate]; rfl
theorem Run.start (roots : List Int) (N : List (List Int)) : Run roots N (extL N.length (List.replicate N.length false, []) roots) := by
  have h0 : WL roots N (List.replicate N.length false, []) := ⟨by simp, (fun i _ h => by simp only [getD_none] at h; cases h), (fun x h => by cases h), by simp [un_none]⟩
  obtain ⟨i1, i2, i3, i4, i5⟩ := extL_all roots _ h0 (fun x hx a b => .root hx a b)
  refine ⟨i1, fun j hj hm => ?_, i5⟩
  rcases i4 j hm with h | h
  · simp only [getD_none] at h; cases h
  · exact .inl h
theorem Run.next {roots : List Int} {N : List (List Int)} {M : List Bool} {W : List Int} {n : Int} (h : Run roots N (M, W ++ [n])) : Run roots N (extL N.length (M, W) (N.getD n.toNat [])) ∧ (0 ≤ n ∧ n < N.length) ∧
    2 * un (extL N.length (M, W) (N.getD n.toNat [])).1 + (extL N.length (M, W) (N.getD n.toNat [])).2.length < 2 * un M + (W ++ [n]).length := by
  obtain ⟨p, q, r⟩ := h.wl.work n (by simp)
  have hr : Rch roots N n := by have := h.wl.sound n.toNat (by omega) r; rwa [show ((n.toNat : Nat) : Int) = n by omega] at this
  have hroom := h.wl.room
  simp only [List.length_append, List.length_singleton] at hroom
  have h0 : WL roots N (M, W) := ⟨h.wl.len, h.wl.sound, fun x hx => h.wl.work x (by simp [hx]), by simp only; omega⟩
  have hx : ∀ x ∈ N.getD n.toNat [], 0 ≤ x → x < N.length → Rch roots N x := fun x hx a b => .step hr hx a b
  obtain ⟨i1, i2, i3, i4, i5⟩ := extL_all _ _ h0 hx
  refine ⟨⟨i1, fun j hj hm => ?_, fun x hx a b => i2 _ (h.rooted x hx a b)⟩, ⟨p, q⟩, ?_⟩
  · rcases i4 j hm with h4 | h4
    · rcases h.half j hj h4 with h5 | h5
      · simp only [List.mem_append, List.mem_singleton] at h5
        rcases h5 with h5 | h5
        · exact .inl (i3 _ h5)
        · right
          have e : n.toNat = j := by omega
          rw [← e]; exact i5
      · exact .inr fun x hx a b => i2 _ (h5 x hx a b)
    · exact .inl h4
  · have := extL_room _ _ h0 hx
    simp only [List.length_append, List.length_singleton]
    simp only at this
    omega
theorem Run.done {roots : List Int} {N : List (List Int)} {M : List Bool} (h : Run roots N (M, [])) (j : Nat) (hj : j < N.length) : M.getD j false = true ↔ Rch roots N j := by
  constructor
  · exact h.wl.sound j hj
  · intro hr
    have := hr.least (P := fun x => M.getD x.toNat false = true) (fun x hx a b => h.rooted x hx a b) (fun y hy a b x hx p q => by
      rcases h.half y.toNat (by omega) hy with h1 | h1
      · cases h1
      · exact h1 x hx p q)
    simpa using this
/-- Where the marks are, from k on. -/
def idx (M : List Bool) : Nat → List Int
  | 0 => []
  | k + 1 => idx M k ++ if M.getD k false = true then [(k : Int)] else []
theorem mem_idx (M : List Bool) (k : Nat) (x : Int) : x ∈ idx M k ↔ 0 ≤ x ∧ x < k ∧ M.getD x.toNat false = true := by
  induction k with
  | zero => simp [idx]; omega
  | succ k ih =>
    simp only [idx, List.mem_append, ih]
    by_cases hm : M.getD k false = true
    · simp only [hm, if_true, List.mem_singleton]
      constructor
      · rintro (h | h)
        · exact ⟨h.1, by omega, h.2.2⟩
        · subst h; exact ⟨by omega, by omega, by simpa using hm⟩
      · rintro ⟨a, b, c⟩
        by_cases e : x = k
        · exact .inr e
        · exact .inl ⟨a, by omega, c⟩
    · simp only [hm, if_neg (show ¬ (false = true) by decide)]
      constructor
      · rintro (h | h)
        · exact ⟨h.1, by omega, h.2.2⟩
        · simp at h
      · rintro ⟨a, b, c⟩
        by_cases e : x = k
        · subst e; simp only [Int.toNat_natCast] at c; exact absurd c hm
        · exact .inl ⟨a, by omega, c⟩
theorem idx_inc (M : List Bool) (k : Nat) : Inc (idx M k) := by
  induction k with
  | zero => exact Inc.nil
  | succ k ih =>
    simp only [idx]
    unfold Inc at *
    rw [List.pairwise_append]
    refine ⟨ih, by split <;> simp, fun a ha b hb => ?_⟩
    have := (mem_idx M k a).1 ha
    split at hb
    · simp at hb; omega
    · cases hb
theorem idx_len (M : List Bool) (k : Nat) : (idx M k).length ≤ k := by
  induction k with
  | zero => exact Nat.le_refl _
  | succ k ih => simp only [idx, List.length_append]; split <;> simp <;> omega

/-- The reference's rounds. -/
structure Got (roots : List Int) (N : List (List Int)) (n0 : Nat) (got : List Int) : Prop where
  sound : ∀ x ∈ got, Rch roots N x
  rooted : ∀ x ∈ roots, 0 ≤ x → x < N.length → x ∈ got
  room : got.length ≤ n0 + cnt got N.length
theorem Got.add {roots : List Int} {N : List (List Int)} {n0 : Nat} {got : List Int} (h : Got roots N n0 got) {x : Int} (hx : Rch roots N x) (hn : x ∉ got) : Got roots N n0 (got ++ [x]) :=
  ⟨fun y hy => by
      rcases List.mem_append.1 hy with hy | hy
      · exact h.sound y hy
      · simp at hy; subst hy; exact hx,
   fun y hy a b => List.mem_append.2 (.inl (h.rooted y hy a b)),
   by rw [cnt_add _ _ _ hx.range.1 hx.range.2 hn, List.length_append]; have := h.room; simp; omega⟩
theorem Got.done {roots : List Int} {N : List (List Int)} {n0 : Nat} {got : List Int} (h : Got roots N n0 got) (hc : ∀ y ∈ got, ∀ x ∈ N.getD y.toNat [], 0 ≤ x → x < N.length → x ∈ got) (x : Int) : x ∈ got ↔ Rch roots N x :=
  ⟨h.sound x, fun hr => hr.least (P := fun x => x ∈ got) h.rooted fun y hy _ _ x hx a b => hc y hy x hx a b⟩
end Go.Proofs.Ytgejijlhgimgaaa
