/- What Words made of a descriptor reads back as it was; the places of two owners lie apart. -/
import Derived.Test.YtfegeahieajmkaaDoorDsRFits
namespace Go.Proofs.YtfegeahieajmkaaDoor
open Go.ChangeShapes Go.WideShapes Go.ChangeAt Go.RowKit Go.Maps
open Lay (startL checkI placeI mayI sizeI Ok starts checkI_ok)
theorem chkL_one {L : List En} (h : chkL L = 0) : 1 ≤ L.length ∧ ∀ i, i < L.length → chk L[i]! = 0 := by
  unfold chkL at h
  by_cases h0 : L.length = 0
  · rw [if_pos h0] at h; cases h
  rw [if_neg h0] at h
  by_cases h2 : 32 < L.length
  · rw [if_pos h2] at h; cases h
  rw [if_neg h2] at h
  exact ⟨by omega, fun i hi => ((chkFrom_zero [] L).1 h i hi).1⟩
theorem chk_zero {e : En} (h : chk e = 0) : (0 ≤ e.1 ∧ e.1 < 4096) ∧ e.2.1.2.2 = 0 := by
  unfold chk at h
  by_cases h1 : e.1 < 0 ∨ 4096 ≤ e.1
  · rw [if_pos h1] at h; cases h
  rw [if_neg h1] at h
  by_cases h2 : e.2.1.2.2 = 0
  · exact ⟨by omega, h2⟩
  · rw [if_pos h2] at h; cases h
theorem wordsD_at (a b c : Int) (L : List En) {k : Nat} (hk : k < L.length) : (wordsD (a, b, c, L))[2 + 3 * k]! = pw0 L[k]! ∧ (wordsD (a, b, c, L))[2 + 3 * k + 1]! = pw1 L[k]! ∧ (wordsD (a, b, c, L))[2 + 3 * k + 2]! = pw2 L[k]! := by
  have hl := wordsD_len (a, b, c, L)
  simp only at hl
  have e : ∀ j, j < 3 → (wordsD (a, b, c, L))[2 + 3 * k + j]? = (packL L[k]!)[j]? := fun j hj => by
    unfold wordsD
    rw [List.getElem?_append_right (by show 2 ≤ _; omega), show 2 + 3 * k + j - (headL (a, b, c, L)).length = 3 * k + j by show 2 + 3 * k + j - 2 = _; omega]
    exact bodyL_at L k j hk hj
  have g : ∀ j (x : Wd), j < 3 → (packL L[k]!)[j]? = some x → (wordsD (a, b, c, L))[2 + 3 * k + j]! = x := fun j x hj h => by
    have := (e j hj).trans h
    rw [getElem!_pos _ _ (by rw [hl]; omega)]
    rw [List.getElem?_eq_getElem (by rw [hl]; omega)] at this
    exact Option.some.inj this
  exact ⟨g 0 _ (by omega) rfl, g 1 _ (by omega) rfl, g 2 _ (by omega) rfl⟩
/-- A memory image that holds the words of a fitting descriptor at its owner's place. -/
theorem read_back {T C B : Nat} (h : Ok T C B) {a b c : Int} {L : List En} {W : List Wd} (hd : chkD T C B (a, b, c, L) = 0) (hW : startL T C B 7 ≤ W.length) (hw : ∀ i, i < 2 + 3 * L.length → W[(placeI T C B a).1.toNat + i]! = (wordsD (a, b, c, L))[i]!) : rdE T C B W a = 0 ∧ rdD T C B W a = (a, b, c, L) := by
  obtain ⟨h1, h2, h3, h4, h5, h6, h7, h8, h9⟩ := (chkD_zero h a b c L).1 hd
  obtain ⟨hn, hc⟩ := chkL_one h6
  have hl := wordsD_len (a, b, c, L)
  simp only at hl
  rcases place_room h a with hp | ⟨p, m, hp, hm, hr, _⟩
  · rw [hp] at h1; exact absurd rfl h1
  rw [hp] at h9 hw
  simp only [Int.toNat_natCast] at h9 hw
  obtain ⟨N, hN⟩ : ∃ N, W.drop p = N := ⟨_, rfl⟩
  have hNl : N.length = W.length - p := by rw [← hN, List.length_drop]
  have hNi : ∀ i, i < 2 + 3 * L.length → N[i]! = (wordsD (a, b, c, L))[i]! := fun i hi => by
    rw [← hw i hi, ← hN, getElem!_pos _ i (by rw [List.length_drop]; omega), getElem!_pos W (p + i) (by omega)]
    simp
  have hb : IntKind.u32.wrap b = b := by
    have : b % 4294967296 = b := Int.emod_eq_of_lt (by omega) (by omega)
    exact this
  have e0 : N[0]! = (c, b, 0) := by
    rw [hNi 0 (by omega), getElem!_pos _ 0 (by rw [hl]; omega)]
    show (c, IntKind.u32.wrap b, 0) = _
    rw [hb]
  have e1 : N[1]! = ((L.length : Int), 0, 0) := by
    rw [hNi 1 (by omega), getElem!_pos _ 1 (by rw [hl]; omega)]; rfl
  have ek : ∀ k, k < L.length → entA N k = L[k]! ∧ isA N k = true := fun k hk => by
    obtain ⟨g0, g1, g2⟩ := wordsD_at a b c L hk
    obtain ⟨q1, q2⟩ := chk_zero (hc k hk)
    obtain ⟨i1, i2⟩ := isEnt_packed q2 q1
    unfold entA isA
    rw [hNi (2 + 3 * k) (by omega), hNi (2 + 3 * k + 1) (by omega), hNi (2 + 3 * k + 2) (by omega), g0, g1, g2]
    exact ⟨i2, i1⟩
  have eL : entsA N L.length = L := by
    apply List.ext_getElem (entsA_len N _)
    intro k h1 h2
    have := (ek k h2).1
    rw [getElem!_pos L k h2] at this
    rw [← this, ← entsA_at N h2, getElem!_pos _ k h1]
  have eD : descA N a = (a, b, c, L) := by
    unfold descA
    rw [e0, e1, Int.toNat_natCast, eL]
  have hB : rdB T C B N a = true := by
    unfold rdB decB
    rw [eD, hd, e1, hp, Int.toNat_natCast, allA_yes (fun k hk => (ek k hk).2), decide_eq_true (by simp only; omega)]
    simp only [Bool.true_and, decide_true, decide_eq_true_eq]
    apply List.ext_getElem
    · rw [List.length_take, hNl, hl]; omega
    · intro k h1 h2
      rw [hl] at h1
      have := hNi k h1
      rw [getElem!_pos N k (by omega), getElem!_pos _ k (by rw [hl]; exact h1)] at this
      simp [this]
  have hE : rdE T C B W a = 0 := by
    rw [rdE_long h hW, hp]
    simp only [Int.toNat_natCast]
    rw [if_neg (by omega)]
    exact if_pos (by rw [hN]; exact hB)
  refine ⟨hE, ?_⟩
  unfold rdD
  rw [if_pos hE, hp]
  simp only [Int.toNat_natCast]
  rw [hN, eD]
/-- The memory image in which a fitting descriptor has been laid. -/
def laidM (T C B : Nat) (M : List Wd) (d : Ds) : List Wd := if chkD T C B d = 0 then layN M (wordsD d) (placeI T C B d.1).1.toNat (2 + 3 * d.2.2.2.length) else M
theorem laidM_len (T C B : Nat) (M : List Wd) (d : Ds) : (laidM T C B M d).length = M.length := by
  unfold laidM
  split
  · rw [layN_len]
  · rfl
/-- Places of two owners lie apart. -/
theorem place_apart {T C B : Nat} (h : Ok T C B) {a b : Int} (hab : a ≠ b) {p m p' m' : Nat} (ha : placeI T C B a = ((p : Int), (m : Int))) (hb : placeI T C B b = ((p' : Int), (m' : Int))) : p + 2 + 3 * m ≤ p' ∨ p' + 2 + 3 * m' ≤ p := by
  have hs := starts T C B
  rw [place_ok h] at ha hb
  by_cases h1 : 1 ≤ a ∧ a ≤ T
  · rw [if_pos h1] at ha
    by_cases h2 : 1 ≤ b ∧ b ≤ T
    · rw [if_pos h2] at hb
      simp only [Prod.mk.injEq] at ha hb
      omega
    · rw [if_neg h2] at hb
      by_cases h3 : 9 ≤ b ∧ b < 9 + B
      · rw [if_pos h3] at hb
        simp only [Prod.mk.injEq] at ha hb
        omega
      · rw [if_neg h3] at hb
        simp only [Prod.mk.injEq] at hb
        omega
  · rw [if_neg h1] at ha
    by_cases h4 : 9 ≤ a ∧ a < 9 + B
    · rw [if_pos h4] at ha
      by_cases h2 : 1 ≤ b ∧ b ≤ T
      · rw [if_pos h2] at hb
        simp only [Prod.mk.injEq] at ha hb
        omega
      · rw [if_neg h2] at hb
        by_cases h3 : 9 ≤ b ∧ b < 9 + B
        · rw [if_pos h3] at hb
          simp only [Prod.mk.injEq] at ha hb
          omega
        · rw [if_neg h3] at hb
          simp only [Prod.mk.injEq] at hb
          omega
    · rw [if_neg h4] at ha
      simp only [Prod.mk.injEq] at ha
      omega
theorem wordsD_ok {a b c : Int} {L : List En} (hc : -9223372036854775808 ≤ c ∧ c < 9223372036854775808) (hL : ∀ e ∈ L, OkE e) (hl : L.length ≤ 1000) : ∀ x ∈ wordsD (a, b, c, L), OkW x := by
  intro x hx
  unfold wordsD headL bodyL at hx
  simp only [List.mem_append, List.mem_cons, List.not_mem_nil, or_false, List.mem_flatMap] at hx
  rcases hx with (rfl | rfl) | ⟨e, he, hx⟩
  · have h1 : 0 ≤ b % 4294967296 := Int.emod_nonneg _ (by omega)
    have h2 : b % 4294967296 < 4294967296 := Int.emod_lt_of_pos _ (by omega)
    exact ⟨hc, ⟨h1, h2⟩, by simp, by simp⟩
  · exact ⟨⟨by simp only; omega, by simp only; omega⟩, by simp, by simp⟩
  · obtain ⟨h1, ⟨h2, h3, h4⟩, h5⟩ := hL e he
    unfold packL pw0 pw1 pw2 at hx
    simp only [List.mem_cons, List.not_mem_nil, or_false] at hx
    rcases hx with rfl | rfl | rfl
    · refine ⟨h1, ?_, by simp⟩
      simp only
      split <;> omega
    · exact ⟨h2, h3, by simp⟩
    · exact ⟨h5, by simp, by simp⟩
theorem laidM_ok {T C B : Nat} {M : List Wd} {a b c : Int} {L : List En} (hM : ∀ x ∈ M, OkW x) (hc : -9223372036854775808 ≤ c ∧ c < 9223372036854775808) (hL : ∀ e ∈ L, OkE e) (hl : L.length ≤ 1000) : ∀ x ∈ laidM T C B M (a, b, c, L), OkW x := by
  unfold laidM
  split
  · exact layN_ok _ _ hM (wordsD_ok hc hL hl) (by rw [wordsD_len]; exact Nat.le_refl _)
  · exact hM
end Go.Proofs.YtfegeahieajmkaaDoor
