/- Layouts as numbers: where each region starts, and the use of every location. -/
import Derived.Test.YtfegeahieajmkaaDoorProg
namespace Go.Proofs.YtfegeahieajmkaaDoor.Lay
abbrev Pk := Int × Int × Int
def zPk : Pk := (0, 0, 0)
/-- The units of a region. -/
def unitsL (T C B r : Nat) : Nat := if r = 0 then 1 else if r = 1 then T else if r = 2 then T else if r = 3 then (C + 7) / 8 else if r = 4 then T else if r = 5 then min B 1 else B
def unitZ (r : Nat) : Nat := if r = 4 then 104 else if r = 6 then 32 else 8
def startL (T C B : Nat) : Nat → Nat
  | 0 => 0
  | r + 1 => startL T C B r + unitsL T C B r * unitZ r
def sizeL (T C B : Nat) : Nat := startL T C B 7
def In (T C B : Nat) : Prop := 1 ≤ T ∧ T ≤ 8 ∧ 1 ≤ C ∧ C ≤ 2048 ∧ B ≤ 64
def fitL (T C B : Int) : Prop := 1 ≤ T ∧ T ≤ 8 ∧ 1 ≤ C ∧ C ≤ 2048 ∧ 0 ≤ B ∧ B ≤ 64
theorem starts (T C B : Nat) : startL T C B 1 = 8 ∧ startL T C B 2 = 8 + 8 * T ∧ startL T C B 3 = 8 + 16 * T ∧ startL T C B 4 = 8 + 16 * T + (C + 7) / 8 * 8 ∧ startL T C B 5 = 8 + 120 * T + (C + 7) / 8 * 8 ∧ startL T C B 6 = 8 + 120 * T + (C + 7) / 8 * 8 + min B 1 * 8 ∧ startL T C B 7 = 8 + 120 * T + (C + 7) / 8 * 8 + min B 1 * 8 + 32 * B := by
  simp only [startL, unitsL, unitZ]
  simp
  omega
/-- The use of location i. -/
def kindAt (T C B i : Nat) : Pk :=
  if i < 8 then (if i = 0 then (1, 0, 0) else if i = 1 then (2, 0, 0) else zPk)
  else if i < 8 + 8 * T then (if (i - 8) % 8 = 0 then (3, ((i - 8) / 8 + 1 : Nat), 0) else if (i - 8) % 8 = 1 then (4, ((i - 8) / 8 + 1 : Nat), 0) else zPk)
  else if i < 8 + 16 * T then (if (i - (8 + 8 * T)) % 8 < 3 then (5, ((i - (8 + 8 * T)) / 8 + 1 : Nat), ((i - (8 + 8 * T)) % 8 : Nat)) else zPk)
  else if i < 8 + 16 * T + C then (6, (i - (8 + 16 * T) : Nat), 0)
  else if i < startL T C B 4 then zPk
  else if i < startL T C B 5 then (7, ((i - startL T C B 4) / 104 + 1 : Nat), ((i - startL T C B 4) % 104 : Nat))
  else if i < startL T C B 6 then (if i = startL T C B 5 then (8, 0, 0) else if i = startL T C B 5 + 1 then (8, 1, 0) else zPk)
  else (9, ((i - startL T C B 6) / 32 : Nat), ((i - startL T C B 6) % 32 : Nat))
def allN (T C B n : Nat) : List Pk := (List.range n).map (kindAt T C B)
theorem allN_len (T C B n : Nat) : (allN T C B n).length = n := by simp [allN]
theorem allN_at (T C B : Nat) {n i : Nat} (h : i < n) : (allN T C B n).getD i zPk = kindAt T C B i := by simp [allN, List.getD, h]
theorem allN_app (T C B n : Nat) (l : List Pk) (h : ∀ j, j < l.length → l.getD j zPk = kindAt T C B (n + j)) : allN T C B n ++ l = allN T C B (n + l.length) := by
  apply List.ext_getElem
  · simp [allN]
  · intro i h1 h2
    rw [List.length_append, allN_len] at h1
    rw [List.getElem_append]
    simp only [allN, List.getElem_map, List.getElem_range, List.length_map, List.length_range]
    split
    · rfl
    · have := h (i - n) (by omega)
      rw [List.getD, List.getElem?_eq_getElem (by omega)] at this
      simp only [Option.getD_some] at this
      rw [this]; congr 1; omega
theorem k0 (T C B : Nat) : allN T C B 8 = [(1, 0, 0), (2, 0, 0), zPk, zPk, zPk, zPk, zPk, zPk] := by
  simp [allN, List.range_succ, kindAt]
theorem eight {a b c d e f g h : Pk} {F : Nat → Pk} (ha : a = F 0) (hb : b = F 1) (hc : c = F 2) (hd : d = F 3) (he : e = F 4) (hf : f = F 5) (hg : g = F 6) (hh : h = F 7) : ∀ j, j < [a, b, c, d, e, f, g, h].length → [a, b, c, d, e, f, g, h].getD j zPk = F j := by
  intro j hj
  match j, hj with
  | 0, _ => exact ha
  | 1, _ => exact hb
  | 2, _ => exact hc
  | 3, _ => exact hd
  | 4, _ => exact he
  | 5, _ => exact hf
  | 6, _ => exact hg
  | 7, _ => exact hh
theorem kAnn (T C B t : Nat) (h : t < T) : allN T C B (8 + 8 * t) ++ ([(3, ((t + 1 : Nat) : Int), 0), (4, ((t + 1 : Nat) : Int), 0), zPk, zPk, zPk, zPk, zPk, zPk] : List Pk) = allN T C B (8 + 8 * (t + 1)) := by
  have := allN_app T C B (8 + 8 * t) [(3, ((t + 1 : Nat) : Int), 0), (4, ((t + 1 : Nat) : Int), 0), zPk, zPk, zPk, zPk, zPk, zPk] (by
    have e : ∀ j, j < 8 → kindAt T C B (8 + 8 * t + j) = if j = 0 then (3, ((t + 1 : Nat) : Int), 0) else if j = 1 then (4, ((t + 1 : Nat) : Int), 0) else zPk := by
      intro j hj
      have e1 : 8 + 8 * t + j - 8 = 8 * t + j := by omega
      have e2 : (8 * t + j) % 8 = j := by omega
      have e3 : (8 * t + j) / 8 = t := by omega
      unfold kindAt
      rw [if_neg (by omega), if_pos (by omega), e1, e2, e3]
    refine eight ?_ ?_ ?_ ?_ ?_ ?_ ?_ ?_ <;> rw [e _ (by omega)] <;> rfl)
  rw [this]; congr 1
theorem kRec (T C B t : Nat) (h : t < T) : allN T C B (8 + 8 * T + 8 * t) ++ ([(5, ((t + 1 : Nat) : Int), 0), (5, ((t + 1 : Nat) : Int), 1), (5, ((t + 1 : Nat) : Int), 2), zPk, zPk, zPk, zPk, zPk] : List Pk) = allN T C B (8 + 8 * T + 8 * (t + 1)) := by
  have := allN_app T C B (8 + 8 * T + 8 * t) [(5, ((t + 1 : Nat) : Int), 0), (5, ((t + 1 : Nat) : Int), 1), (5, ((t + 1 : Nat) : Int), 2), zPk, zPk, zPk, zPk, zPk] (by
    have e : ∀ j, j < 8 → kindAt T C B (8 + 8 * T + 8 * t + j) = if j < 3 then (5, ((t + 1 : Nat) : Int), (j : Int)) else zPk := by
      intro j hj
      have e1 : 8 + 8 * T + 8 * t + j - (8 + 8 * T) = 8 * t + j := by omega
      have e2 : (8 * t + j) % 8 = j := by omega
      have e3 : (8 * t + j) / 8 = t := by omega
      unfold kindAt
      rw [if_neg (by omega), if_neg (by omega), if_pos (by omega), e1, e2, e3]
    refine eight ?_ ?_ ?_ ?_ ?_ ?_ ?_ ?_ <;> rw [e _ (by omega)] <;> rfl)
  rw [this]; congr 1
theorem kOne (T C B n : Nat) (p : Pk) (h : kindAt T C B n = p) : allN T C B n ++ [p] = allN T C B (n + 1) := by
  rw [← h]; simp [allN, List.range_succ]
theorem kCell (T C B i : Nat) (h : i < C) : kindAt T C B (8 + 16 * T + i) = (6, (i : Int), 0) := by
  unfold kindAt
  rw [if_neg (by omega), if_neg (by omega), if_neg (by omega), if_pos (by omega)]
  congr 2; omega
theorem kPad (T C B i : Nat) (h : 8 + 16 * T + C ≤ i) (h2 : i < 8 + 16 * T + (C + 7) / 8 * 8) : kindAt T C B i = zPk := by
  have := starts T C B
  unfold kindAt
  rw [if_neg (by omega), if_neg (by omega), if_neg (by omega), if_neg (by omega), if_pos (by omega)]
theorem kSlot (T C B t i : Nat) (h : t < T) (hi : i < 104) : kindAt T C B (startL T C B 4 + 104 * t + i) = (7, ((t + 1 : Nat) : Int), (i : Int)) := by
  have := starts T C B
  have e1 : startL T C B 4 + 104 * t + i - startL T C B 4 = 104 * t + i := by omega
  have e2 : (104 * t + i) % 104 = i := by omega
  have e3 : (104 * t + i) / 104 = t := by omega
  unfold kindAt
  rw [if_neg (by omega), if_neg (by omega), if_neg (by omega), if_neg (by omega), if_neg (by omega), if_pos (by omega), e1, e2, e3]
theorem kBits (T C B : Nat) (h : 0 < B) : allN T C B (startL T C B 5) ++ [(8, 0, 0), (8, 1, 0), zPk, zPk, zPk, zPk, zPk, zPk] = allN T C B (startL T C B 6) := by
  have hs := starts T C B
  have := allN_app T C B (startL T C B 5) [(8, 0, 0), (8, 1, 0), zPk, zPk, zPk, zPk, zPk, zPk] (by
    have e : ∀ j, j < 8 → kindAt T C B (startL T C B 5 + j) = if j = 0 then (8, 0, 0) else if j = 1 then (8, 1, 0) else zPk := by
      intro j hj
      unfold kindAt
      rw [if_neg (by omega), if_neg (by omega), if_neg (by omega), if_neg (by omega), if_neg (by omega), if_neg (by omega), if_pos (by omega)]
      have e1 : (startL T C B 5 + j = startL T C B 5) ↔ (j = 0) := by omega
      have e2 : (startL T C B 5 + j = startL T C B 5 + 1) ↔ (j = 1) := by omega
      simp only [e1, e2]
    refine eight ?_ ?_ ?_ ?_ ?_ ?_ ?_ ?_ <;> rw [e _ (by omega)] <;> rfl)
  rw [this]; congr 1
  simp only [List.length_cons, List.length_nil]; omega
theorem kBlock (T C B b i : Nat) (_ : b < B) (hi : i < 32) : kindAt T C B (startL T C B 6 + 32 * b + i) = (9, (b : Int), (i : Int)) := by
  have := starts T C B
  have e1 : startL T C B 6 + 32 * b + i - startL T C B 6 = 32 * b + i := by omega
  have e2 : (32 * b + i) % 32 = i := by omega
  have e3 : (32 * b + i) / 32 = b := by omega
  unfold kindAt
  rw [if_neg (by omega), if_neg (by omega), if_neg (by omega), if_neg (by omega), if_neg (by omega), if_neg (by omega), if_neg (by omega), e1, e2, e3]
/-- The first place of p in a list, or -1. -/
def findL (p : Pk) : List Pk → Nat → Int
  | [], _ => -1
  | q :: r, n => if q = p then n else findL p r (n + 1)
theorem findL_hit (p : Pk) (l : List Pk) (n i : Nat) (hi : i < l.length) (h : l.getD i zPk = p) (hb : ∀ j, j < i → l.getD j zPk ≠ p) : findL p l n = ((n + i : Nat) : Int) := by
  induction l generalizing n i with
  | nil => simp at hi
  | cons q r ih =>
    cases i with
    | zero => simp at h; simp [findL, h]
    | succ i =>
      have h0 : q ≠ p := by simpa using hb 0 (by omega)
      rw [findL, if_neg h0, ih (n + 1) i (by simpa using hi) (by simpa using h) (fun j hj => by simpa using hb (j + 1) (by omega))]
      congr 1; omega
theorem findL_miss (p : Pk) (l : List Pk) (n : Nat) (hb : ∀ j, j < l.length → l.getD j zPk ≠ p) : findL p l n = -1 := by
  induction l generalizing n with
  | nil => rfl
  | cons q r ih =>
    have h0 : q ≠ p := by simpa using hb 0 (by simp)
    rw [findL, if_neg h0, ih (n + 1) (fun j hj => by simpa using hb (j + 1) (by simpa using hj))]
def allL (T C B : Nat) : List Pk := allN T C B (sizeL T C B)
theorem find_hit (T C B i : Nat) (p : Pk) (hi : i < sizeL T C B) (h : kindAt T C B i = p) (hu : ∀ j, j < sizeL T C B → kindAt T C B j = p → j = i) : findL p (allL T C B) 0 = (i : Int) := by
  rw [findL_hit p (allL T C B) 0 i (by rw [allL, allN_len]; exact hi) (by rw [allL, allN_at _ _ _ hi]; exact h) (fun j hj => by
    rw [allL, allN_at _ _ _ (by omega)]; intro e; have := hu j (by omega) e; omega)]
  simp
theorem find_miss (T C B : Nat) (p : Pk) (hu : ∀ j, j < sizeL T C B → kindAt T C B j ≠ p) : findL p (allL T C B) 0 = -1 := by
  apply findL_miss
  intro j hj
  rw [allL, allN_len] at hj
  rw [allL, allN_at _ _ _ hj]
  exact hu j hj
/-- Where a use lies, if it lies anywhere. -/
theorem kind_inv (T C B j : Nat) (hj : j < sizeL T C B) (p : Pk) (h : kindAt T C B j = p) :
    (p = (1, 0, 0) ∧ j = 0) ∨ (p = (2, 0, 0) ∧ j = 1) ∨ (∃ t, t < T ∧ p = (3, ((t + 1 : Nat) : Int), 0) ∧ j = 8 + 8 * t) ∨ (∃ t, t < T ∧ p = (4, ((t + 1 : Nat) : Int), 0) ∧ j = 8 + 8 * t + 1) ∨
    (∃ t i, t < T ∧ i < 3 ∧ p = (5, ((t + 1 : Nat) : Int), ((i : Nat) : Int)) ∧ j = 8 + 8 * T + 8 * t + i) ∨ (∃ i, i < C ∧ p = (6, ((i : Nat) : Int), 0) ∧ j = 8 + 16 * T + i) ∨
    (∃ t i, t < T ∧ i < 104 ∧ p = (7, ((t + 1 : Nat) : Int), ((i : Nat) : Int)) ∧ j = startL T C B 4 + 104 * t + i) ∨ (p = (8, 0, 0) ∧ j = startL T C B 5 ∧ 0 < B) ∨ (p = (8, 1, 0) ∧ j = startL T C B 5 + 1 ∧ 0 < B) ∨
    (∃ b i, b < B ∧ i < 32 ∧ p = (9, ((b : Nat) : Int), ((i : Nat) : Int)) ∧ j = startL T C B 6 + 32 * b + i) ∨ p = zPk := by
  have hs := starts T C B
  unfold sizeL at hj
  unfold kindAt at h
  split at h
  · split at h
    · exact .inl ⟨h.symm, by assumption⟩
    · split at h
      · exact .inr (.inl ⟨h.symm, by assumption⟩)
      · simp [h.symm]
  · split at h
    · split at h
      · exact .inr (.inr (.inl ⟨(j - 8) / 8, by omega, h.symm, by omega⟩))
      · split at h
        · exact .inr (.inr (.inr (.inl ⟨(j - 8) / 8, by omega, h.symm, by omega⟩)))
        · simp [h.symm]
    · split at h
      · split at h
        · exact .inr (.inr (.inr (.inr (.inl ⟨(j - (8 + 8 * T)) / 8, (j - (8 + 8 * T)) % 8, by omega, by omega, h.symm, by omega⟩))))
        · simp [h.symm]
      · split at h
        · exact .inr (.inr (.inr (.inr (.inr (.inl ⟨j - (8 + 16 * T), by omega, h.symm, by omega⟩)))))
        · split at h
          · simp [h.symm]
          · split at h
            · exact .inr (.inr (.inr (.inr (.inr (.inr (.inl ⟨(j - startL T C B 4) / 104, (j - startL T C B 4) % 104, by omega, by omega, h.symm, by omega⟩))))))
            · split at h
              · split at h
                · exact .inr (.inr (.inr (.inr (.inr (.inr (.inr (.inl ⟨h.symm, by assumption, by omega⟩)))))))
                · split at h
                  · exact .inr (.inr (.inr (.inr (.inr (.inr (.inr (.inr (.inl ⟨h.symm, by assumption, by omega⟩))))))))
                  · simp [h.symm]
              · exact .inr (.inr (.inr (.inr (.inr (.inr (.inr (.inr (.inr (.inl ⟨(j - startL T C B 6) / 32, (j - startL T C B 6) % 32, by omega, by omega, h.symm, by omega⟩)))))))))
theorem find_clock (T C B : Nat) : findL (1, 0, 0) (allL T C B) 0 = 0 := by
  refine find_hit T C B 0 _ (by have := starts T C B; unfold sizeL; omega) (by simp [kindAt]) (fun j hj h => ?_)
  rcases kind_inv T C B j hj _ h with ⟨-, h⟩ | ⟨h, -⟩ | ⟨t, -, h, -⟩ | ⟨t, -, h, -⟩ | ⟨t, i, -, -, h, -⟩ | ⟨i, -, h, -⟩ | ⟨t, i, -, -, h, -⟩ | ⟨h, -⟩ | ⟨h, -⟩ | ⟨b, i, -, -, h, -⟩ | h <;> first | assumption | (simp [zPk] at h)
theorem find_era (T C B : Nat) : findL (2, 0, 0) (allL T C B) 0 = 1 := by
  refine find_hit T C B 1 _ (by have := starts T C B; unfold sizeL; omega) (by simp [kindAt]) (fun j hj h => ?_)
  rcases kind_inv T C B j hj _ h with ⟨h, -⟩ | ⟨-, h⟩ | ⟨t, -, h, -⟩ | ⟨t, -, h, -⟩ | ⟨t, i, -, -, h, -⟩ | ⟨i, -, h, -⟩ | ⟨t, i, -, -, h, -⟩ | ⟨h, -⟩ | ⟨h, -⟩ | ⟨b, i, -, -, h, -⟩ | h <;> first | assumption | (simp [zPk] at h)
theorem find_bits (T C B k : Nat) (hk : k < 2) (hB : 0 < B) : findL (8, (k : Int), 0) (allL T C B) 0 = ((startL T C B 5 + k : Nat) : Int) := by
  have hs := starts T C B
  refine find_hit T C B _ _ (by unfold sizeL; omega) ?_ (fun j hj h => ?_)
  · unfold kindAt
    rw [if_neg (by omega), if_neg (by omega), if_neg (by omega), if_neg (by omega), if_neg (by omega), if_neg (by omega), if_pos (by omega)]
    rcases (show k = 0 ∨ k = 1 by omega) with rfl | rfl
    · rw [if_pos (by omega)]; rfl
    · rw [if_neg (by omega), if_pos (by omega)]; rfl
  · rcases kind_inv T C B j hj _ h with ⟨h, -⟩ | ⟨h, -⟩ | ⟨t, -, h, -⟩ | ⟨t, -, h, -⟩ | ⟨t, i, -, -, h, -⟩ | ⟨i, -, h, -⟩ | ⟨t, i, -, -, h, -⟩ | ⟨h, h2, -⟩ | ⟨h, h2, -⟩ | ⟨b, i, -, -, h, -⟩ | h <;> first | (simp [zPk] at h; done) | (simp at h; omega)
def thr (T : Nat) (t : Int) : Prop := 1 ≤ t ∧ t ≤ T
instance (T : Nat) (t : Int) : Decidable (thr T t) := by unfold thr; exact inferInstance
theorem find_ann (T C B : Nat) (t : Int) : findL (3, t, 0) (allL T C B) 0 = if thr T t then 8 * t else -1 := by
  have hs := starts T C B
  split
  · rename_i ht
    obtain ⟨n, rfl⟩ : ∃ n : Nat, t = ((n + 1 : Nat) : Int) := ⟨(t - 1).toNat, by unfold thr at ht; omega⟩
    unfold thr at ht
    rw [find_hit T C B (8 + 8 * n) _ (by unfold sizeL; omega) ?_ (fun j hj h => ?_)]
    · omega
    · unfold kindAt
      rw [if_neg (by omega), if_pos (by omega), if_pos (by omega), show (8 + 8 * n - 8) / 8 = n by omega]
    · rcases kind_inv T C B j hj _ h with ⟨h, -⟩ | ⟨h, -⟩ | ⟨t, -, h, h2⟩ | ⟨t, -, h, -⟩ | ⟨t, i, -, -, h, -⟩ | ⟨i, -, h, -⟩ | ⟨t, i, -, -, h, -⟩ | ⟨h, h2, -⟩ | ⟨h, h2, -⟩ | ⟨b, i, -, -, h, -⟩ | h <;> first | (simp [zPk] at h; done) | (simp at h; omega)
  · rename_i ht
    refine find_miss T C B _ (fun j hj h => ht ?_)
    rcases kind_inv T C B j hj _ h with ⟨h, -⟩ | ⟨h, -⟩ | ⟨t, ht, h, h2⟩ | ⟨t, -, h, -⟩ | ⟨t, i, -, -, h, -⟩ | ⟨i, -, h, -⟩ | ⟨t, i, -, -, h, -⟩ | ⟨h, h2, -⟩ | ⟨h, h2, -⟩ | ⟨b, i, -, -, h, -⟩ | h <;> first | (simp [zPk] at h; done) | (simp at h; unfold thr; omega)
theorem find_haz (T C B : Nat) (t : Int) : findL (4, t, 0) (allL T C B) 0 = if thr T t then 8 * t + 1 else -1 := by
  have hs := starts T C B
  split
  · rename_i ht
    obtain ⟨n, rfl⟩ : ∃ n : Nat, t = ((n + 1 : Nat) : Int) := ⟨(t - 1).toNat, by unfold thr at ht; omega⟩
    unfold thr at ht
    rw [find_hit T C B (8 + 8 * n + 1) _ (by unfold sizeL; omega) ?_ (fun j hj h => ?_)]
    · omega
    · unfold kindAt
      rw [if_neg (by omega), if_pos (by omega), if_neg (by omega), if_pos (by omega), show (8 + 8 * n + 1 - 8) / 8 = n by omega]
    · rcases kind_inv T C B j hj _ h with ⟨h, -⟩ | ⟨h, -⟩ | ⟨t, -, h, h2⟩ | ⟨t, -, h, h2⟩ | ⟨t, i, -, -, h, -⟩ | ⟨i, -, h, -⟩ | ⟨t, i, -, -, h, -⟩ | ⟨h, h2, -⟩ | ⟨h, h2, -⟩ | ⟨b, i, -, -, h, -⟩ | h <;> first | (simp [zPk] at h; done) | (simp at h; omega)
  · rename_i ht
    refine find_miss T C B _ (fun j hj h => ht ?_)
    rcases kind_inv T C B j hj _ h with ⟨h, -⟩ | ⟨h, -⟩ | ⟨t, ht, h, h2⟩ | ⟨t, ht, h, -⟩ | ⟨t, i, -, -, h, -⟩ | ⟨i, -, h, -⟩ | ⟨t, i, -, -, h, -⟩ | ⟨h, h2, -⟩ | ⟨h, h2, -⟩ | ⟨b, i, -, -, h, -⟩ | h <;> first | (simp [zPk] at h; done) | (simp at h; unfold thr; omega)
theorem find_rec (T C B : Nat) (t : Int) : findL (5, t, 0) (allL T C B) 0 = if thr T t then 8 * T + 8 * t else -1 := by
  have hs := starts T C B
  split
  · rename_i ht
    obtain ⟨n, rfl⟩ : ∃ n : Nat, t = ((n + 1 : Nat) : Int) := ⟨(t - 1).toNat, by unfold thr at ht; omega⟩
    unfold thr at ht
    rw [find_hit T C B (8 + 8 * T + 8 * n) _ (by unfold sizeL; omega) ?_ (fun j hj h => ?_)]
    · omega
    · unfold kindAt
      rw [if_neg (by omega), if_neg (by omega), if_pos (by omega), if_pos (by omega), show (8 + 8 * T + 8 * n - (8 + 8 * T)) / 8 = n by omega, show (8 + 8 * T + 8 * n - (8 + 8 * T)) % 8 = 0 by omega]
      rfl
    · rcases kind_inv T C B j hj _ h with ⟨h, -⟩ | ⟨h, -⟩ | ⟨t, -, h, h2⟩ | ⟨t, -, h, h2⟩ | ⟨t, i, -, -, h, h2⟩ | ⟨i, -, h, -⟩ | ⟨t, i, -, -, h, -⟩ | ⟨h, h2, -⟩ | ⟨h, h2, -⟩ | ⟨b, i, -, -, h, -⟩ | h <;> first | (simp [zPk] at h; done) | (simp at h; omega)
  · rename_i ht
    refine find_miss T C B _ (fun j hj h => ht ?_)
    rcases kind_inv T C B j hj _ h with ⟨h, -⟩ | ⟨h, -⟩ | ⟨t, ht, h, h2⟩ | ⟨t, ht, h, -⟩ | ⟨t, i, ht, -, h, -⟩ | ⟨i, -, h, -⟩ | ⟨t, i, -, -, h, -⟩ | ⟨h, h2, -⟩ | ⟨h, h2, -⟩ | ⟨b, i, -, -, h, -⟩ | h <;> first | (simp [zPk] at h; done) | (simp at h; unfold thr; omega)
theorem find_slot (T C B : Nat) (t : Int) : findL (7, t, 0) (allL T C B) 0 = if thr T t then (startL T C B 4 : Int) + 104 * (t - 1) else -1 := by
  have hs := starts T C B
  split
  · rename_i ht
    obtain ⟨n, rfl⟩ : ∃ n : Nat, t = ((n + 1 : Nat) : Int) := ⟨(t - 1).toNat, by unfold thr at ht; omega⟩
    unfold thr at ht
    rw [find_hit T C B (startL T C B 4 + 104 * n + 0) (7, ((n + 1 : Nat) : Int), 0) (by unfold sizeL; omega) (kSlot T C B n 0 (by omega) (by omega)) (fun j hj h => ?_)]
    · omega
    · rcases kind_inv T C B j hj _ h with ⟨h, -⟩ | ⟨h, -⟩ | ⟨t, -, h, h2⟩ | ⟨t, -, h, h2⟩ | ⟨t, i, -, -, h, h2⟩ | ⟨i, -, h, -⟩ | ⟨t, i, -, -, h, h2⟩ | ⟨h, h2, -⟩ | ⟨h, h2, -⟩ | ⟨b, i, -, -, h, -⟩ | h <;> first | (simp [zPk] at h; done) | (simp at h; omega)
  · rename_i ht
    refine find_miss T C B _ (fun j hj h => ht ?_)
    rcases kind_inv T C B j hj _ h with ⟨h, -⟩ | ⟨h, -⟩ | ⟨t, ht, h, h2⟩ | ⟨t, ht, h, -⟩ | ⟨t, i, ht, -, h, -⟩ | ⟨i, -, h, -⟩ | ⟨t, i, ht, -, h, -⟩ | ⟨h, h2, -⟩ | ⟨h, h2, -⟩ | ⟨b, i, -, -, h, -⟩ | h <;> first | (simp [zPk] at h; done) | (simp at h; unfold thr; omega)
theorem find_cell (T C B : Nat) (i : Int) : findL (6, i, 0) (allL T C B) 0 = if 0 ≤ i ∧ i < C then (startL T C B 3 : Int) + i else -1 := by
  have hs := starts T C B
  split
  · rename_i ht
    obtain ⟨n, rfl⟩ : ∃ n : Nat, i = (n : Int) := ⟨i.toNat, by omega⟩
    rw [find_hit T C B (8 + 16 * T + n) _ (by unfold sizeL; omega) (kCell T C B n (by omega)) (fun j hj h => ?_)]
    · omega
    · rcases kind_inv T C B j hj _ h with ⟨h, -⟩ | ⟨h, -⟩ | ⟨t, -, h, h2⟩ | ⟨t, -, h, h2⟩ | ⟨t, i, -, -, h, h2⟩ | ⟨i, -, h, h2⟩ | ⟨t, i, -, -, h, h2⟩ | ⟨h, h2, -⟩ | ⟨h, h2, -⟩ | ⟨b, i, -, -, h, -⟩ | h <;> first | (simp [zPk] at h; done) | (simp at h; omega)
  · rename_i ht
    refine find_miss T C B _ (fun j hj h => ht ?_)
    rcases kind_inv T C B j hj _ h with ⟨h, -⟩ | ⟨h, -⟩ | ⟨t, ht, h, h2⟩ | ⟨t, ht, h, -⟩ | ⟨t, i, ht, -, h, -⟩ | ⟨i, hi, h, -⟩ | ⟨t, i, ht, -, h, -⟩ | ⟨h, h2, -⟩ | ⟨h, h2, -⟩ | ⟨b, i, -, -, h, -⟩ | h <;> first | (simp [zPk] at h; done) | (simp at h; omega)
theorem find_block (T C B : Nat) (i : Int) : findL (9, i, 0) (allL T C B) 0 = if 0 ≤ i ∧ i < B then (startL T C B 6 : Int) + 32 * i else -1 := by
  have hs := starts T C B
  split
  · rename_i ht
    obtain ⟨n, rfl⟩ : ∃ n : Nat, i = (n : Int) := ⟨i.toNat, by omega⟩
    rw [find_hit T C B (startL T C B 6 + 32 * n + 0) (9, (n : Int), 0) (by unfold sizeL; omega) (kBlock T C B n 0 (by omega) (by omega)) (fun j hj h => ?_)]
    · omega
    · rcases kind_inv T C B j hj _ h with ⟨h, -⟩ | ⟨h, -⟩ | ⟨t, -, h, h2⟩ | ⟨t, -, h, h2⟩ | ⟨t, i, -, -, h, h2⟩ | ⟨i, -, h, h2⟩ | ⟨t, i, -, -, h, h2⟩ | ⟨h, h2, -⟩ | ⟨h, h2, -⟩ | ⟨b, i, -, -, h, h2⟩ | h <;> first | (simp [zPk] at h; done) | (simp at h; omega)
  · rename_i ht
    refine find_miss T C B _ (fun j hj h => ht ?_)
    rcases kind_inv T C B j hj _ h with ⟨h, -⟩ | ⟨h, -⟩ | ⟨t, ht, h, h2⟩ | ⟨t, ht, h, -⟩ | ⟨t, i, ht, -, h, -⟩ | ⟨i, hi, h, -⟩ | ⟨t, i, ht, -, h, -⟩ | ⟨h, h2, -⟩ | ⟨h, h2, -⟩ | ⟨b, i, hb, -, h, -⟩ | h <;> first | (simp [zPk] at h; done) | (simp at h; omega)
end Go.Proofs.YtfegeahieajmkaaDoor.Lay
