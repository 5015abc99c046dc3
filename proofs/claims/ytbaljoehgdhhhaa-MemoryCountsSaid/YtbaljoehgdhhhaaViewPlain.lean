/- Views as lists of pairs in rising order of the locations: the plain facts, and how such a list is laid into a map. -/
import Derived.Maps.Ext
import Derived.Lib.SlMapMerge
import Derived.Lib.SlMapEqual
namespace Go.Proofs.Ytbaljoehgdhhhaa

/-- The number at location l of a list of pairs. -/
def atL : List (Int × Int) → Int → Int
  | [], _ => 0
  | p :: r, l => if p.1 = l then p.2 else atL r l

/-- The list with the number n at location l, in the order of the locations. -/
def insL : List (Int × Int) → Int → Int → List (Int × Int)
  | [], l, n => [(l, n)]
  | p :: r, l, n => if p.1 < l then p :: insL r l n else if p.1 = l then (l, n) :: r else (l, n) :: p :: r

def withL (m : List (Int × Int)) (l n : Int) : List (Int × Int) := if l < 0 ∨ 4096 ≤ l ∨ n ≤ atL m l then m else insL m l n
def joinL (a b : List (Int × Int)) : List (Int × Int) := b.foldl (fun m p => withL m p.1 p.2) a
def belowL (a b : List (Int × Int)) : Bool := a.all fun p => decide (p.2 ≤ atL b p.1)

/-- Rising locations. -/
def Rising (m : List (Int × Int)) : Prop := m.Pairwise (fun p q => p.1 < q.1)
/-- A view's pairs: rising valid locations, positive numbers that an int holds. -/
def Ok (m : List (Int × Int)) : Prop := Rising m ∧ ∀ p ∈ m, (0 ≤ p.1 ∧ p.1 < 4096) ∧ (0 < p.2 ∧ p.2 < 9223372036854775808)

theorem ok_nil : Ok [] := ⟨List.Pairwise.nil, by simp⟩
theorem rising_cons {p : Int × Int} {r : List (Int × Int)} : Rising (p :: r) ↔ (∀ q ∈ r, p.1 < q.1) ∧ Rising r := List.pairwise_cons
theorem ok_cons {p : Int × Int} {r : List (Int × Int)} (h : Ok (p :: r)) : Ok r := ⟨(rising_cons.1 h.1).2, fun q hq => h.2 q (by simp [hq])⟩

theorem atL_none {m : List (Int × Int)} {l : Int} (h : ∀ p ∈ m, p.1 ≠ l) : atL m l = 0 := by
  induction m with
  | nil => rfl
  | cons p r ih =>
    show (if p.1 = l then p.2 else atL r l) = 0
    rw [if_neg (h p (by simp)), ih (fun q hq => h q (by simp [hq]))]

theorem atL_mem {m : List (Int × Int)} (hr : Rising m) {p : Int × Int} (hp : p ∈ m) : atL m p.1 = p.2 := by
  induction m with
  | nil => simp at hp
  | cons q r ih =>
    show (if q.1 = p.1 then q.2 else atL r p.1) = p.2
    rcases List.mem_cons.1 hp with rfl | hp'
    · rw [if_pos rfl]
    · have := (rising_cons.1 hr).1 p hp'
      rw [if_neg (by omega), ih (rising_cons.1 hr).2 hp']

theorem atL_pos {m : List (Int × Int)} (h : Ok m) (l : Int) : (atL m l = 0 ∧ ∀ p ∈ m, p.1 ≠ l) ∨ (∃ p ∈ m, p.1 = l ∧ atL m l = p.2) := by
  induction m with
  | nil => exact .inl ⟨rfl, by simp⟩
  | cons q r ih =>
    by_cases e : q.1 = l
    · exact .inr ⟨q, by simp, e, by show (if q.1 = l then q.2 else atL r l) = _; rw [if_pos e]⟩
    · have e2 : atL (q :: r) l = atL r l := by show (if q.1 = l then q.2 else atL r l) = _; rw [if_neg e]
      rcases ih (ok_cons h) with ⟨h0, h1⟩ | ⟨p, hp, h1, h2⟩
      · exact .inl ⟨e2.trans h0, fun p hp => by rcases List.mem_cons.1 hp with rfl | hp; exact e; exact h1 p hp⟩
      · exact .inr ⟨p, by simp [hp], h1, e2.trans h2⟩

theorem atL_bd {m : List (Int × Int)} (h : Ok m) (l : Int) : 0 ≤ atL m l ∧ atL m l < 9223372036854775808 := by
  rcases atL_pos h l with ⟨h0, _⟩ | ⟨p, hp, _, h2⟩
  · omega
  · have := h.2 p hp; omega

theorem atL_out {m : List (Int × Int)} (h : Ok m) (l : Int) (hl : l < 0 ∨ 4096 ≤ l) : atL m l = 0 := by
  refine atL_none fun p hp e => ?_
  have := h.2 p hp; omega

theorem mem_insL {m : List (Int × Int)} {l n : Int} {p : Int × Int} (h : p ∈ insL m l n) : p = (l, n) ∨ (p ∈ m ∧ (Rising m → p.1 ≠ l)) := by
  induction m with
  | nil => simp [insL] at h; exact .inl h
  | cons q r ih =>
    unfold insL at h
    split at h
    · rename_i hlt
      rcases List.mem_cons.1 h with rfl | h
      · exact .inr ⟨by simp, fun _ => by omega⟩
      · rcases ih h with e | ⟨h1, h2⟩
        · exact .inl e
        · exact .inr ⟨by simp [h1], fun hr => h2 (rising_cons.1 hr).2⟩
    · split at h
      · rename_i h1 h2
        rcases List.mem_cons.1 h with rfl | h
        · exact .inl rfl
        · exact .inr ⟨by simp [h], fun hr => by have := (rising_cons.1 hr).1 p h; omega⟩
      · rename_i h1 h2
        rcases List.mem_cons.1 h with rfl | h
        · exact .inl rfl
        · exact .inr ⟨h, fun hr => by
            rcases List.mem_cons.1 h with rfl | h
            · exact h2
            · have := (rising_cons.1 hr).1 p h; omega⟩

theorem rising_insL {m : List (Int × Int)} (h : Rising m) (l n : Int) : Rising (insL m l n) := by
  induction m with
  | nil => simp [insL, Rising]
  | cons q r ih =>
    obtain ⟨h1, h2⟩ := rising_cons.1 h
    unfold insL
    split
    · rename_i hlt
      refine rising_cons.2 ⟨fun p hp => ?_, ih h2⟩
      rcases mem_insL hp with rfl | ⟨hp, _⟩
      · exact hlt
      · exact h1 p hp
    · split
      · rename_i e
        exact rising_cons.2 ⟨fun p hp => by have := h1 p hp; show l < p.1; omega, h2⟩
      · exact rising_cons.2 ⟨fun p hp => by
          show l < p.1
          rcases List.mem_cons.1 hp with rfl | hp
          · omega
          · have := h1 p hp; omega, h⟩

theorem ok_insL {m : List (Int × Int)} (h : Ok m) {l n : Int} (hl : 0 ≤ l) (hl' : l < 4096) (hn : 0 < n) (hn' : n < 9223372036854775808) : Ok (insL m l n) := by
  refine ⟨rising_insL h.1 l n, fun p hp => ?_⟩
  rcases mem_insL hp with rfl | ⟨hp, _⟩
  · exact ⟨⟨hl, hl'⟩, hn, hn'⟩
  · exact h.2 p hp

theorem ok_withL {m : List (Int × Int)} (h : Ok m) {l n : Int} (hn' : n < 9223372036854775808) : Ok (withL m l n) := by
  unfold withL
  split
  · exact h
  · rename_i hc
    have := atL_bd h l
    exact ok_insL h (by omega) (by omega) (by omega) hn'

theorem atL_insL (m : List (Int × Int)) (hr : Rising m) (l n k : Int) : atL (insL m l n) k = if k = l then n else atL m k := by
  induction m with
  | nil =>
    show (if l = k then n else atL [] k) = _
    by_cases e : k = l
    · subst e; simp
    · rw [if_neg (fun h => e h.symm), if_neg e]
  | cons q r ih =>
    have ih := ih (rising_cons.1 hr).2
    unfold insL
    split
    · rename_i hlt
      show (if q.1 = k then q.2 else atL (insL r l n) k) = if k = l then n else (if q.1 = k then q.2 else atL r k)
      rw [ih]
      by_cases e : k = l
      · subst e; rw [if_neg (by omega), if_pos rfl, if_pos rfl]
      · rw [if_neg e, if_neg e]
    · split
      · rename_i h1 h2
        show (if l = k then n else atL r k) = if k = l then n else (if q.1 = k then q.2 else atL r k)
        by_cases e : k = l
        · subst e; rw [if_pos rfl, if_pos rfl]
        · rw [if_neg (fun h => e h.symm), if_neg e, if_neg (by omega)]
      · rename_i h1 h2
        show (if l = k then n else (if q.1 = k then q.2 else atL r k)) = if k = l then n else (if q.1 = k then q.2 else atL r k)
        by_cases e : k = l
        · subst e; simp
        · rw [if_neg (fun h => e h.symm), if_neg e]

theorem atL_withL {m : List (Int × Int)} (h : Ok m) (l n k : Int) : atL (withL m l n) k = if k = l ∧ 0 ≤ l ∧ l < 4096 then max (atL m k) n else atL m k := by
  unfold withL
  have b := atL_bd h k
  split
  · rename_i hc
    by_cases e : k = l ∧ 0 ≤ l ∧ l < 4096
    · obtain ⟨rfl, h1, h2⟩ := e
      rw [if_pos ⟨rfl, h1, h2⟩]; omega
    · rw [if_neg e]
  · rename_i hc
    rw [atL_insL m h.1 l n k]
    by_cases e : k = l
    · subst e; rw [if_pos rfl, if_pos ⟨rfl, by omega, by omega⟩]; omega
    · rw [if_neg e, if_neg (fun h => e h.1)]

/-- Two views with the same numbers everywhere are one list. -/
theorem ext_atL : ∀ {a b : List (Int × Int)}, Ok a → Ok b → (∀ l, atL a l = atL b l) → a = b
  | [], [], _, _, _ => rfl
  | [], q :: s, _, hb, h => by
    have := h q.1
    rw [atL_mem hb.1 (by simp : q ∈ q :: s)] at this
    have h2 := (hb.2 q (by simp)).2.1
    simp [atL] at this; omega
  | p :: r, [], ha, _, h => by
    have := h p.1
    rw [atL_mem ha.1 (by simp : p ∈ p :: r)] at this
    have h2 := (ha.2 p (by simp)).2.1
    simp [atL] at this; omega
  | p :: r, q :: s, ha, hb, h => by
    have hp := (ha.2 p (by simp)).2.1
    have hq := (hb.2 q (by simp)).2.1
    have ra := (rising_cons.1 ha.1).1
    have rb := (rising_cons.1 hb.1).1
    have e1 : p.1 = q.1 := by
      rcases Int.lt_trichotomy p.1 q.1 with hl | he | hl
      · have := h p.1
        rw [atL_mem ha.1 (by simp : p ∈ p :: r), atL_none (m := q :: s) (l := p.1) (fun x hx => by rcases List.mem_cons.1 hx with rfl | hx; omega; have := rb x hx; omega)] at this
        omega
      · exact he
      · have := h q.1
        rw [atL_mem hb.1 (by simp : q ∈ q :: s), atL_none (m := p :: r) (l := q.1) (fun x hx => by rcases List.mem_cons.1 hx with rfl | hx; omega; have := ra x hx; omega)] at this
        omega
    have e2 : p.2 = q.2 := by
      have := h p.1
      rw [atL_mem ha.1 (by simp : p ∈ p :: r), e1, atL_mem hb.1 (by simp : q ∈ q :: s)] at this
      exact this
    have e3 : r = s := by
      refine ext_atL (ok_cons ha) (ok_cons hb) fun l => ?_
      by_cases e : l = p.1
      · rw [atL_none (fun x hx => by have := ra x hx; omega), atL_none (fun x hx => by have := rb x hx; omega)]
      · have := h l
        simp only [atL] at this
        rwa [if_neg (fun h => e h.symm), if_neg (fun h => e (by rw [e1]; exact h.symm))] at this
    rw [show p = q from Prod.ext e1 e2, e3]

theorem ok_joinL {a b : List (Int × Int)} (ha : Ok a) (hb : ∀ p ∈ b, p.2 < 9223372036854775808) : Ok (joinL a b) := by
  unfold joinL
  induction b generalizing a with
  | nil => exact ha
  | cons p r ih => exact ih (ok_withL ha (hb p (by simp))) (fun q hq => hb q (by simp [hq]))

theorem atL_joinL {a b : List (Int × Int)} (ha : Ok a) (hb : Ok b) (k : Int) : atL (joinL a b) k = max (atL a k) (atL b k) := by
  unfold joinL
  induction b generalizing a with
  | nil => have := atL_bd ha k; show atL a k = max (atL a k) 0; omega
  | cons p r ih =>
    have hp := hb.2 p (by simp)
    rw [List.foldl_cons, ih (ok_withL ha hp.2.2) (ok_cons hb), atL_withL ha]
    have br := atL_bd (ok_cons hb) k
    have ba := atL_bd ha k
    show max _ (atL r k) = max (atL a k) (if p.1 = k then p.2 else atL r k)
    by_cases e : k = p.1
    · subst e
      rw [if_pos ⟨rfl, hp.1.1, hp.1.2⟩, if_pos rfl, atL_none (m := r) (fun x hx => by have := (rising_cons.1 hb.1).1 x hx; omega)]
      omega
    · rw [if_neg (fun h => e h.1), if_neg (fun h => e h.symm)]

theorem belowL_iff {a b : List (Int × Int)} (ha : Ok a) (hb : Ok b) : belowL a b = true ↔ ∀ k, atL a k ≤ atL b k := by
  unfold belowL
  rw [List.all_eq_true]
  constructor
  · intro h k
    rcases atL_pos ha k with ⟨h0, _⟩ | ⟨p, hp, h1, h2⟩
    · have := atL_bd hb k; omega
    · have := h p hp
      simp at this
      rw [h2, ← h1]; exact this
  · intro h p hp
    have := h p.1
    rw [atL_mem ha.1 hp] at this
    simpa using this

/-- How many pairs a view can have. -/
theorem ok_length {m : List (Int × Int)} (h : Ok m) : m.length ≤ 4096 := by
  suffices ∀ (m : List (Int × Int)) (lo : Int), Rising m → (∀ p ∈ m, lo ≤ p.1 ∧ p.1 < 4096) → lo ≤ 4096 → (m.length : Int) ≤ 4096 - lo by
    have := this m 0 h.1 (fun p hp => (h.2 p hp).1) (by omega)
    omega
  intro m
  induction m with
  | nil => intro lo _ _ h; simp; omega
  | cons p r ih =>
    intro lo hr hb hlo
    have hp := hb p (by simp)
    have := ih (p.1 + 1) (rising_cons.1 hr).2 (fun q hq => ⟨by have := (rising_cons.1 hr).1 q hq; omega, (hb q (by simp [hq])).2⟩) (by omega)
    simp; omega

/-- A view's pairs as the data of a map. -/
def dat (m : List (Int × Int)) : DataW Unit := .map (m.map fun p => (Lit.int .i64 p.1, .lit (.int .i64 p.2)))

theorem dat_has (m : List (Int × Int)) (l : Int) : Maps.has (dat m) (.int .i64 l) = m.any fun p => decide (p.1 = l) := by
  show (m.map fun p => (Lit.int .i64 p.1, (DataW.lit (.int .i64 p.2) : DataW Unit))).any (fun p => p.1.sameKey (.int .i64 l)) = _
  rw [List.any_map]
  congr 1
  funext p
  simp [Lit.sameKey]

theorem dat_at (m : List (Int × Int)) (l : Int) : (dat m).atKey (.int .i64 l) (.lit (.int .i64 0)) = .lit (.int .i64 (atL m l)) := by
  induction m with
  | nil => rfl
  | cons p r ih =>
    by_cases e : p.1 = l
    · simp [dat, DataW.atKey, Lit.sameKey, atL, e]
    · simpa [dat, DataW.atKey, List.find?_cons, Lit.sameKey, atL, e] using ih

theorem filter_rising {m : List (Int × Int)} (l : Int) (h : ∀ p ∈ m, p.1 ≠ l) : (m.map fun p => (Lit.int .i64 p.1, (DataW.lit (.int .i64 p.2) : DataW Unit))).filter (fun p => !p.1.sameKey (.int .i64 l)) = m.map fun p => (Lit.int .i64 p.1, .lit (.int .i64 p.2)) := by
  rw [List.filter_eq_self]
  intro x hx
  obtain ⟨p, hp, rfl⟩ := List.mem_map.1 hx
  simp [Lit.sameKey, h p hp]

theorem dat_put {m : List (Int × Int)} (hr : Rising m) (l n : Int) : (dat m).put (.int .i64 l) (.lit (.int .i64 n)) = dat (insL m l n) := by
  show DataW.map (DataW.insert (Lit.int .i64 l, .lit (.int .i64 n)) ((m.map fun p => (Lit.int .i64 p.1, (DataW.lit (.int .i64 p.2) : DataW Unit))).filter fun p => !p.1.sameKey (.int .i64 l))) = DataW.map ((insL m l n).map fun p => (Lit.int .i64 p.1, .lit (.int .i64 p.2)))
  congr 1
  induction m with
  | nil => rfl
  | cons p r ih =>
    obtain ⟨h1, h2⟩ := rising_cons.1 hr
    unfold insL
    by_cases hlt : p.1 < l
    · rw [if_pos hlt, List.map_cons, List.filter_cons_of_pos (by simp [Lit.sameKey]; omega), List.map_cons, ← ih h2]
      unfold DataW.insert
      rw [if_neg (by simp [Lit.before]; omega)]
      cases List.filter (fun p => !p.1.sameKey (.int .i64 l)) (List.map (fun p => (Lit.int .i64 p.1, (DataW.lit (.int .i64 p.2) : DataW Unit))) r) <;> rfl
    · rw [if_neg hlt]
      by_cases e : p.1 = l
      · rw [if_pos e, List.map_cons, List.filter_cons_of_neg (by simp [Lit.sameKey, e]), filter_rising l (fun q hq => by have := h1 q hq; omega), List.map_cons]
        cases r with
        | nil => rfl
        | cons q s =>
          have := h1 q (by simp)
          show DataW.insert _ ((Lit.int .i64 q.1, .lit (.int .i64 q.2)) :: _) = _
          unfold DataW.insert
          rw [if_pos (by simp [Lit.before]; omega)]
          rfl
      · rw [if_neg e, filter_rising l (fun q hq => by rcases List.mem_cons.1 hq with rfl | hq; exact e; have := h1 q hq; omega)]
        show DataW.insert _ ((Lit.int .i64 p.1, .lit (.int .i64 p.2)) :: _) = _
        unfold DataW.insert
        rw [if_pos (by simp [Lit.before]; omega)]
        rfl

theorem dat_size (m : List (Int × Int)) : Maps.size (dat m) = m.length := by
  show (m.map _).length = _
  simp

theorem insL_end (m : List (Int × Int)) (l n : Int) (h : ∀ p ∈ m, p.1 < l) : insL m l n = m ++ [(l, n)] := by
  induction m with
  | nil => rfl
  | cons p r ih =>
    unfold insL
    rw [if_pos (h p (by simp)), ih (fun q hq => h q (by simp [hq]))]
    rfl

theorem merge_dat {m : List (Int × Int)} (hr : Rising m) : Lib.mergeD (.map []) (dat m) = dat m := by
  show (m.map fun p => (Lit.int .i64 p.1, (DataW.lit (.int .i64 p.2) : DataW Unit))).foldl (fun D p => D.put p.1 p.2) (.map []) = dat m
  rw [List.foldl_map]
  suffices ∀ (s a : List (Int × Int)), Rising (a ++ s) → s.foldl (fun D p => D.put (.int .i64 p.1) (.lit (.int .i64 p.2))) (dat a) = dat (a ++ s) from by
    have := this m [] (by simpa using hr)
    rw [List.nil_append] at this
    exact this
  intro s
  induction s with
  | nil => intro a _; simp
  | cons p r ih =>
    intro a h
    have h1 : Rising a := (List.pairwise_append.1 h).1
    have h2 : ∀ q ∈ a, q.1 < p.1 := fun q hq => (List.pairwise_append.1 h).2.2 q hq p (by simp)
    rw [List.foldl_cons, dat_put h1, insL_end a _ _ h2]
    have := ih (a ++ [(p.1, p.2)]) (by simpa using h)
    simpa using this

theorem dat_inj {a b : List (Int × Int)} (h : dat a = dat b) : a = b := by
  have h2 : (a.map fun p => (Lit.int .i64 p.1, (DataW.lit (.int .i64 p.2) : DataW Unit))) = b.map fun p => (Lit.int .i64 p.1, .lit (.int .i64 p.2)) := DataW.map.inj h
  induction a generalizing b with
  | nil => cases b with | nil => rfl | cons _ _ => simp at h2
  | cons p r ih =>
    cases b with
    | nil => simp at h2
    | cons q s =>
      simp only [List.map_cons, List.cons.injEq, Prod.mk.injEq, Lit.int.injEq, DataW.lit.injEq, true_and] at h2
      rw [show p = q from Prod.ext h2.1.1 h2.1.2, ih (congrArg DataW.map h2.2) h2.2]
end Go.Proofs.Ytbaljoehgdhhhaa
