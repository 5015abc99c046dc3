/- What the functions of package layout answer is what the reference finds. -/
import Derived.Test.YtgndlknlahglcaaDoorLayRef
import Derived.Deep.DeepCutAuto
namespace Go.Proofs.YtgndlknlahglcaaDoor
open Go.ChangeShapes Go.WideShapes Go.ChangeAt Go.RowKit Go.Maps

theorem findL_nil (p : Pk) : findL p [] 0 = -1 := rfl
theorem findL_neg (p : Pk) (l : List Pk) (n : Nat) : findL p l n = -1 ∨ 0 ≤ findL p l n := by
  induction l generalizing n with
  | nil => exact .inl rfl
  | cons q r ih =>
    unfold findL
    split
    · exact .inr (by omega)
    · exact ih (n + 1)
theorem threadI_ok {T C B : Nat} (h : Ok T C B) (r : Nat) (t : Int) (hu : unitsL T C B r = T) : threadI T C B r t = if thr T t then (startL T C B r : Int) + (t - 1) * unitZ r else -1 := by
  unfold threadI
  rw [unitI_ok h, hu]
  by_cases h1 : t < 1
  · rw [if_pos h1, if_neg (by unfold thr; omega)]
  · rw [if_neg h1]
    by_cases h2 : t ≤ T
    · rw [if_pos (by omega), if_pos (by unfold thr; omega)]
    · rw [if_neg (by omega), if_neg (by unfold thr; omega)]
theorem threadI_no {T C B : Int} (h : checkI T C B ≠ 0) (r : Nat) (t : Int) : threadI T C B r t = -1 := by
  unfold threadI
  rw [unitI_no h]; simp
theorem eq_ann (T C B t : Int) : threadI T C B 1 t = findL (3, t, 0) (allI T C B) 0 := by
  by_cases h : checkI T C B = 0
  · obtain ⟨a, c, b, rfl, rfl, rfl, hok⟩ := checkI_zero h
    rw [allI_ok hok, find_ann, threadI_ok hok 1 t rfl]
    have := starts a c b
    split
    · simp only [unitZ]; simp; omega
    · rfl
  · rw [threadI_no h, allI_no h]; rfl
theorem eq_haz (T C B t : Int) : secondI (threadI T C B 1 t) = findL (4, t, 0) (allI T C B) 0 := by
  by_cases h : checkI T C B = 0
  · obtain ⟨a, c, b, rfl, rfl, rfl, hok⟩ := checkI_zero h
    rw [allI_ok hok, find_haz, threadI_ok hok 1 t rfl]
    have := starts a c b
    have hz : (unitZ 1 : Int) = 8 := by simp [unitZ]
    by_cases ht : thr a t
    · rw [if_pos ht, if_pos ht]
      unfold thr at ht
      unfold secondI
      rw [hz, if_neg (by omega)]
      omega
    · rw [if_neg ht, if_neg ht]; rfl
  · rw [threadI_no h, allI_no h]; rfl
theorem eq_rec (T C B t : Int) : threadI T C B 2 t = findL (5, t, 0) (allI T C B) 0 := by
  by_cases h : checkI T C B = 0
  · obtain ⟨a, c, b, rfl, rfl, rfl, hok⟩ := checkI_zero h
    rw [allI_ok hok, find_rec, threadI_ok hok 2 t rfl]
    have := starts a c b
    split
    · simp only [unitZ]; simp; omega
    · rfl
  · rw [threadI_no h, allI_no h]; rfl
theorem eq_slot (T C B t : Int) : threadI T C B 4 t = findL (7, t, 0) (allI T C B) 0 := by
  by_cases h : checkI T C B = 0
  · obtain ⟨a, c, b, rfl, rfl, rfl, hok⟩ := checkI_zero h
    rw [allI_ok hok, find_slot, threadI_ok hok 4 t rfl]
    split
    · simp only [unitZ]; simp; omega
    · rfl
  · rw [threadI_no h, allI_no h]; rfl
theorem eq_cell (T C B i : Int) : cellI T C B i = findL (6, i, 0) (allI T C B) 0 := by
  by_cases h : checkI T C B = 0
  · obtain ⟨a, c, b, rfl, rfl, rfl, hok⟩ := checkI_zero h
    rw [allI_ok hok, find_cell, cellI_ok hok]
  · rw [cellI_no h, allI_no h]; rfl
theorem eq_block (T C B i : Int) : unitI T C B 6 i = findL (9, i, 0) (allI T C B) 0 := by
  by_cases h : checkI T C B = 0
  · obtain ⟨a, c, b, rfl, rfl, rfl, hok⟩ := checkI_zero h
    rw [allI_ok hok, find_block, unitI_ok hok]
    have hu : unitsL a c b 6 = b := by simp [unitsL]
    rw [hu]
    split
    · simp only [unitZ]; simp; omega
    · rfl
  · rw [unitI_no h, allI_no h]; rfl
theorem eq_clock (T C B : Int) : unitI T C B 0 0 = findL (1, 0, 0) (allI T C B) 0 := by
  by_cases h : checkI T C B = 0
  · obtain ⟨a, c, b, rfl, rfl, rfl, hok⟩ := checkI_zero h
    rw [allI_ok hok, find_clock, unitI_ok hok]
    simp [unitsL, startL]
  · rw [unitI_no h, allI_no h]; rfl
theorem eq_era (T C B : Int) : secondI (unitI T C B 0 0) = findL (2, 0, 0) (allI T C B) 0 := by
  by_cases h : checkI T C B = 0
  · obtain ⟨a, c, b, rfl, rfl, rfl, hok⟩ := checkI_zero h
    rw [allI_ok hok, find_era, unitI_ok hok]
    simp [unitsL, startL, secondI]
  · rw [unitI_no h, allI_no h]; rfl
theorem eq_bits_no (T C B i : Int) (h : findL (9, i, 0) (allI T C B) 0 < 0) : bitsI T C B i = (-1, 0) := by
  unfold bitsI
  rw [eq_block, if_pos h]
theorem eq_bits (T C B i : Int) (h : 0 ≤ findL (9, i, 0) (allI T C B) 0) : ∃ m : Nat, i = m ∧ m < 64 ∧ bitsI T C B i = (findL (8, i / 32, 0) (allI T C B) 0, 2 ^ (m % 32)) := by
  have hu : ¬ unitI T C B 6 i < 0 := by rw [eq_block]; omega
  obtain ⟨a, c, b, m, rfl, rfl, rfl, rfl, hok, hm⟩ := unitI_nonneg hu
  have hb : m < b := by simpa [unitsL] using hm
  have h64 := hok.1.2.2.2.2
  refine ⟨m, rfl, by omega, ?_⟩
  unfold bitsI
  rw [if_neg hu, allI_ok hok]
  have := find_bits a c b (m / 32) (by omega) (by omega)
  rw [show ((m : Int) / 32) = ((m / 32 : Nat) : Int) by simp, this]
  simp
/-- The location may be accessed, by the reference's list. -/
def mayR (L : List Pk) (x : Int) : Bool := decide (0 ≤ x) && (decide (x < L.length) && (decide ((L.getD x.toNat zPk).1 = 6) || decide ((L.getD x.toNat zPk).1 = 5)))
theorem eq_may (T C B x : Int) : mayI T C B x = mayR (allI T C B) x := by
  by_cases h : checkI T C B = 0
  · obtain ⟨a, c, b, rfl, rfl, rfl, hok⟩ := checkI_zero h
    rw [allI_ok hok, mayI_ok hok]
    have hs := starts a c b
    unfold mayR
    rw [allL_len]
    by_cases h0 : 0 ≤ x
    · obtain ⟨m, rfl⟩ : ∃ m : Nat, x = m := ⟨x.toNat, by omega⟩
      by_cases h7 : m < startL a c b 7
      · have e : (allL a c b).getD (m : Int).toNat zPk = kindAt a c b m := by rw [Int.toNat_natCast, allL]; exact allN_at _ _ _ h7
        rw [e, decide_eq_true h0, decide_eq_true (show (m : Int) < (startL a c b 7 : Int) by omega), Bool.true_and, Bool.true_and]
        rw [Bool.eq_iff_iff]
        have hk : ((kindAt a c b m).1 = 6 ∨ (kindAt a c b m).1 = 5) ↔ ((8 + 8 * a ≤ m ∧ m < 8 + 16 * a ∧ (m - (8 + 8 * a)) % 8 < 3) ∨ (8 + 16 * a ≤ m ∧ m < 8 + 16 * a + c)) := by
          rcases kind_inv a c b m h7 _ rfl with ⟨e, g⟩ | ⟨e, g⟩ | ⟨t, ht, e, g⟩ | ⟨t, ht, e, g⟩ | ⟨t, i, ht, hi, e, g⟩ | ⟨i, hi, e, g⟩ | ⟨t, i, ht, hi, e, g⟩ | ⟨e, g⟩ | ⟨e, g⟩ | ⟨u, i, hu, hi, e, g⟩ | e
          all_goals (first | (rw [e]; simp; omega) | skip)
          rw [e]
          simp only [zPk]
          refine ⟨fun h => by omega, fun h => ?_⟩
          exfalso
          rcases h with ⟨g1, g2, g3⟩ | ⟨g1, g2⟩
          · unfold kindAt at e
            rw [if_neg (by omega), if_neg (by omega), if_pos g2, if_pos g3] at e
            simp [zPk] at e
          · unfold kindAt at e
            rw [if_neg (by omega), if_neg (by omega), if_neg (by omega), if_pos g2] at e
            simp [zPk] at e
        rw [Bool.or_eq_true, decide_eq_true_iff, decide_eq_true_iff, hk]
        by_cases h3 : (startL a c b 3 : Int) ≤ (m : Int)
        · rw [if_pos h3, decide_eq_true_iff]; omega
        · rw [if_neg h3, Bool.and_eq_true, decide_eq_true_iff, decide_eq_true_iff]; omega
      · rw [decide_eq_false (show ¬ (m : Int) < (startL a c b 7 : Int) by omega), Bool.false_and, Bool.and_false]
        rw [if_pos (by omega), decide_eq_false (by omega)]
    · rw [decide_eq_false h0, Bool.false_and, if_neg (by omega), decide_eq_false (by omega), Bool.false_and]
  · rw [allI_no h]
    unfold mayI mayR
    rw [decide_eq_false h]
    simp
    omega
end Go.Proofs.YtgndlknlahglcaaDoor
