/- Generated schedules as lists: how many steps and crashes they have, and that they can be printed. -/
import Derived.Test.YtpgcnejofnhhfaaDoorDrawsWalk
import Derived.Test.YtpgcnejofnhhfaaDoorPrint
namespace Go.Proofs.YtpgcnejofnhhfaaDoor
open Go.ChangeShapes Go.WideShapes Go.ChangeAt Go.RowKit Go.Shelf Go.Maps

/-- The steps of the threads 1 to T. -/
def sumC (L : List Pk) : Nat → Nat
  | 0 => 0
  | T + 1 => sumC L T + countL ((T : Int) + 1) L
theorem sumC_app (a b : List Pk) : ∀ T, sumC (a ++ b) T = sumC a T + sumC b T
  | 0 => rfl
  | T + 1 => by simp only [sumC, sumC_app a b T, countL_app]; omega
theorem sumC_crash (t c : Int) : ∀ T, sumC [(2, t, c)] T = 0
  | 0 => rfl
  | T + 1 => by simp only [sumC, sumC_crash t c T]; simp [countL]
theorem sumC_out (t c : Int) : ∀ T : Nat, (T : Int) < t → sumC [(0, t, c)] T = 0
  | 0, _ => rfl
  | T + 1, h => by
    simp only [sumC, sumC_out t c T (by omega)]
    have : ¬ t = (T : Int) + 1 := by omega
    simp [countL, this]
theorem sumC_step (t c : Int) : ∀ T : Nat, 1 ≤ t → t ≤ T → sumC [(0, t, c)] T = 1
  | 0, h1, h2 => by omega
  | T + 1, h1, h2 => by
    by_cases h : t = (T : Int) + 1
    · simp only [sumC, sumC_out t c T (by omega)]
      simp [countL, h]
    · simp only [sumC, sumC_step t c T h1 (by omega)]
      simp [countL, h]
theorem sumC_le (L : List Pk) : ∀ T, sumC L T ≤ T * L.length
  | 0 => by simp [sumC]
  | T + 1 => by
    have := sumC_le L T
    have := countL_le ((T : Int) + 1) L
    simp only [sumC, Nat.add_mul]
    omega
theorem draw_steps (T : Nat) (g c s : Int) (hT : 1 ≤ T) : ∀ k, sumC (drawGo (T : Int) g c s k).2 T = k
  | 0 => by simp only [drawGo]; induction T with
    | zero => rfl
    | succ T ih => cases T with
      | zero => rfl
      | succ T => simp only [sumC] at *; rw [ih (by omega)]; simp [countL]
  | k + 1 => by
    have ih := draw_steps T g c s hT k
    have m0 : 0 ≤ numL (drawGo (T : Int) g c s k).1 % (T : Int) := Int.emod_nonneg _ (by omega)
    have m1 : numL (drawGo (T : Int) g c s k).1 % (T : Int) < T := Int.emod_lt_of_pos _ (by omega)
    simp only [drawGo, drawStep]
    split
    · simp only [sumC_app, sumC_crash, ih, sumC_step _ _ T (show 1 ≤ 1 + numL (drawGo (T : Int) g c s k).1 % (T : Int) by omega) (by omega)]
    · simp only [sumC_app, ih, sumC_step _ _ T (show 1 ≤ 1 + numL (drawGo (T : Int) g c s k).1 % (T : Int) by omega) (by omega)]
/-- How many crashes a schedule has. -/
def crL (L : List Pk) : Nat := L.countP fun p => p.1 == 2
theorem crL_app (a b : List Pk) : crL (a ++ b) = crL a + crL b := by simp [crL]
theorem split_cr (L : List Pk) : ∀ k, k ≤ L.length → (splitGo (L.take k)).1.length = crL (L.take k)
  | 0, _ => by simp [splitGo, crL]
  | k + 1, h => by
    have ih := split_cr L k (by omega)
    rw [splitGo_succ L (by omega), take_succ_getD L (by omega), crL_app, ← ih]
    unfold splitStep
    split
    · rename_i h2; simp [crL]; exact h2
    · rename_i h2; simp [crL]; exact h2
theorem split_parts (L : List Pk) : (splitGo L).1.length = crL L := by
  have := split_cr L L.length (Nat.le_refl _)
  rwa [List.take_length] at this
theorem draw_cr (t : Int) (g C : Nat) (s : Int) : ∀ k : Nat, crL (drawGo t (g : Int) (C : Int) s k).2 = (if g = 0 then 0 else min C (k / g)) ∧ (drawGo t (g : Int) (C : Int) s k).2.length = k + crL (drawGo t (g : Int) (C : Int) s k).2
  | 0 => by simp [drawGo, crL]
  | k + 1 => by
    obtain ⟨i1, i2⟩ := draw_cr t g C s k
    simp only [drawGo, drawStep]
    have hd := Nat.succ_div (a := k) (b := g)
    by_cases hg : g = 0
    · subst hg
      rw [if_neg (by simp)]
      simp only [crL_app, i1, List.length_append, i2]
      simp [crL]
    · rw [if_neg hg] at i1
      rw [if_neg hg]
      have hcast : (((k + 1 : Nat) : Int) % (g : Int) = 0) ↔ g ∣ k + 1 := by
        rw [← Int.natCast_emod]
        rw [Nat.dvd_iff_mod_eq_zero]
        omega
      have hcast2 : (((k + 1 : Nat) : Int) / (g : Int) ≤ (C : Int)) ↔ (k + 1) / g ≤ C := by
        rw [← Int.natCast_ediv]
        omega
      by_cases hdv : g ∣ k + 1
      · rw [if_pos hdv] at hd
        by_cases hle : (k + 1) / g ≤ C
        · rw [if_pos ⟨by omega, hcast.2 hdv, hcast2.2 hle⟩]
          simp only [crL_app, i1, List.length_append, i2]
          simp [crL]
          omega
        · rw [if_neg (fun h => hle (hcast2.1 h.2.2))]
          simp only [crL_app, i1, List.length_append, i2]
          simp [crL]
          omega
      · rw [if_neg hdv] at hd
        rw [if_neg (fun h => hdv (hcast.1 h.2.1))]
        simp only [crL_app, i1, List.length_append, i2]
        simp [crL]
        omega
/-- What each pick of a generated schedule is. -/
def Fine (p : Pk) : Prop := (p.1 = 0 ∧ 1 ≤ p.2.1 ∧ p.2.1 ≤ 8 ∧ 0 ≤ p.2.2 ∧ p.2.2 < 4) ∨ (p.1 = 2 ∧ p.2.1 = 0 ∧ -2 ≤ p.2.2 ∧ p.2.2 < 64)
theorem draw_fine (t g c s : Int) (h1 : 1 ≤ t) (h8 : t ≤ 8) : ∀ k : Nat, ∀ p ∈ (drawGo t g c s k).2, Fine p
  | 0, p, hp => by simp [drawGo] at hp
  | k + 1, p, hp => by
    have m0 : 0 ≤ numL (drawGo t g c s k).1 % t := Int.emod_nonneg _ (by omega)
    have m1 : numL (drawGo t g c s k).1 % t < t := Int.emod_lt_of_pos _ (by omega)
    simp only [drawGo, drawStep] at hp
    split at hp
    · simp only [List.mem_append, List.mem_singleton] at hp
      rcases hp with (hp | hp) | hp
      · exact draw_fine t g c s h1 h8 k p hp
      · subst hp; exact Or.inl ⟨rfl, by simp only; omega, by simp only; omega, by simp only; omega, by simp only; omega⟩
      · subst hp; exact Or.inr ⟨rfl, rfl, by simp only; omega, by simp only; omega⟩
    · simp only [List.mem_append, List.mem_singleton] at hp
      rcases hp with hp | hp
      · exact draw_fine t g c s h1 h8 k p hp
      · subst hp; exact Or.inl ⟨rfl, by simp only; omega, by simp only; omega, by simp only; omega, by simp only; omega⟩
theorem draw_head (t g c s : Int) : ∀ k : Nat, 0 < (drawGo t g c s k).2.length → ((drawGo t g c s k).2.getD 0 zPk).1 = 0
  | 0, h => by simp [drawGo] at h
  | k + 1, _ => by
    have ih := draw_head t g c s k
    simp only [drawGo, drawStep]
    cases hL : (drawGo t g c s k).2 with
    | nil => split <;> simp
    | cons p r =>
      rw [hL] at ih
      have := ih (by simp)
      split <;> simpa using this
theorem fine_check {p : Pk} (h : Fine p) : checkL p = 0 := by
  obtain ⟨k, t, c⟩ := p
  unfold Fine at h
  unfold checkL
  simp only at *
  rcases h with ⟨rfl, h⟩ | ⟨rfl, rfl, h⟩
  · rw [if_neg (by omega), if_neg (by omega), if_neg (by omega)]
  · rw [if_neg (by omega), if_neg (by omega), if_neg (by omega)]
theorem fine_bad : ∀ {L : List Pk}, (∀ p ∈ L, Fine p) → badL L = 0
  | [], _ => rfl
  | p :: r, h => by
    simp only [badL]
    rw [if_pos (fine_check (h p (by simp)))]
    exact fine_bad (fun q hq => h q (by simp [hq]))
theorem fine_ok {L : List Pk} (h : ∀ p ∈ L, Fine p) : PkOk L := fun p hp => by
  have := h p hp
  unfold Fine at this
  unfold I64
  omega
theorem fine_stops : ∀ {L : List Pk} {acc : List Int}, (∀ p ∈ L, Fine p) → L.foldl stopStep acc = acc
  | [], _, _ => rfl
  | p :: r, acc, h => by
    have hp : p.1 ≠ 1 := by have := h p (by simp); unfold Fine at this; omega
    rw [List.foldl_cons, show stopStep acc p = acc by simp [stopStep, hp]]
    exact fine_stops (fun q hq => h q (by simp [hq]))
end Go.Proofs.YtpgcnejofnhhfaaDoor
