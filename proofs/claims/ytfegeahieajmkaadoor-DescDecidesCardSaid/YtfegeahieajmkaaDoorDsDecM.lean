/- What a status changes: the logical words when a descriptor's status word is replaced. -/
import Derived.Test.YtfegeahieajmkaaDoorDsLogicalsW
namespace Go.Proofs.YtfegeahieajmkaaDoor
open Go.ChangeShapes Go.WideShapes Go.ChangeAt Go.RowKit Go.Maps
open Lay (startL checkI placeI mayI sizeI Ok starts checkI_ok)
theorem ascB_uniq {L : List En} (h : ascB L = true) {i j : Nat} (hi : i < L.length) (hj : j < L.length) (he : L[i]!.1 = L[j]!.1) : i = j := by
  rcases Nat.lt_trichotomy i j with h1 | h1 | h1
  · have := ascB_lt h h1 hj; omega
  · exact h1
  · have := ascB_lt h h1 hi; omega
/-- What the law wants behind k entries. -/
def wantK (L : List En) (x : Int) (on : Bool) (la : Wd) (y1 : Int) : Nat → Wd
  | 0 => la
  | k + 1 => if hitE x L[k]! = true ∧ on = true then ((L[k]!).2.2.1, IntKind.u32.wrap (y1 + 1), 0) else wantK L x on la y1 k
theorem wantK_off (L : List En) (x : Int) (la : Wd) (y1 : Int) (k : Nat) : wantK L x false la y1 k = la := by
  induction k with
  | zero => rfl
  | succ k ih => unfold wantK; rw [if_neg (by simp)]; exact ih
theorem wantK_none {L : List En} {x : Int} {on : Bool} {la : Wd} {y1 : Int} {k : Nat} (h : ∀ i, i < k → hitE x L[i]! = false) : wantK L x on la y1 k = la := by
  induction k with
  | zero => rfl
  | succ k ih => unfold wantK; rw [if_neg (by rw [h k (by omega)]; simp)]; exact ih (fun i hi => h i (by omega))
theorem wantK_hit {L : List En} {x : Int} {la : Wd} {y1 : Int} {j : Nat} (h : hitE x L[j]! = true) {k : Nat} (hj : j < k) (hn : ∀ i, j < i → i < k → hitE x L[i]! = false) : wantK L x true la y1 k = ((L[j]!).2.2.1, IntKind.u32.wrap (y1 + 1), 0) := by
  induction k with
  | zero => omega
  | succ k ih =>
    unfold wantK
    by_cases e : j = k
    · subst e; rw [if_pos ⟨h, rfl⟩]
    · rw [if_neg (by rw [hn k (by omega) (by omega)]; simp)]
      exact ih (by omega) (fun i h1 h2 => hn i h1 (by omega))
theorem hit_at {x : Int} {e : En} (h : hitE x e = true) : e.1 = x := by
  unfold hitE at h
  rw [Bool.and_eq_true] at h
  exact of_decide_eq_true h.1
theorem wantK_find {L : List En} (ha : ascB L = true) (x : Int) (la : Wd) (y1 : Int) : wantK L x true la y1 L.length = match L.find? (hitE x) with | some e => (e.2.2.1, IntKind.u32.wrap (y1 + 1), (0 : Int)) | none => la := by
  by_cases h : ∃ j, j < L.length ∧ hitE x L[j]! = true
  · obtain ⟨j, hj, hh⟩ := h
    have hn : ∀ i, i < L.length → i ≠ j → hitE x L[i]! = false := fun i hi hne => by
      cases hc : hitE x L[i]! with
      | false => rfl
      | true => exact absurd (ascB_uniq ha hi hj ((hit_at hc).trans (hit_at hh).symm)) hne
    rw [wantK_hit hh hj (fun i h1 h2 => hn i h2 (by omega)), find_yes hj hh (fun i hi => hn i (by omega) (by omega))]
  · have hn : ∀ i, i < L.length → hitE x L[i]! = false := fun i hi => by
      cases hc : hitE x L[i]! with
      | false => rfl
      | true => exact absurd ⟨i, hi, hc⟩ h
    rw [wantK_none hn, find_no hn]
/-- Whether the words begin with a fitting descriptor, and which, hangs on as many words as the place has. -/
theorem rdB_congr {T C B : Nat} {who : Int} {m : Nat} (hm : (placeI T C B who).2 = (m : Int)) {D E : List Wd} (hD : 2 + 3 * m ≤ D.length) (hE : 2 + 3 * m ≤ E.length) (h : ∀ i, i < 2 + 3 * m → D[i]! = E[i]!) (h0 : 0 < m) : rdB T C B D who = rdB T C B E who ∧ (rdB T C B D who = true → descA D who = descA E who) := by
  have e0 := h 0 (by omega)
  have e1 := h 1 (by omega)
  by_cases hy : 1 ≤ (E[1]!).1 ∧ (E[1]!).1 ≤ (m : Int)
  · have eA : ∀ j, j < (E[1]!).1.toNat → entA D j = entA E j ∧ isA D j = isA E j := fun j hj => by
      unfold entA isA
      rw [h (2 + 3 * j) (by omega), h (2 + 3 * j + 1) (by omega), h (2 + 3 * j + 2) (by omega)]
      exact ⟨rfl, rfl⟩
    have eL : entsA D (E[1]!).1.toNat = entsA E (E[1]!).1.toNat := by
      unfold entsA
      apply List.map_congr_left
      intro j hj
      exact (eA j (List.mem_range.1 hj)).1
    have eB : allA D (E[1]!).1.toNat = allA E (E[1]!).1.toNat := by
      have f : ∀ X : List Wd, allA X (E[1]!).1.toNat = ((List.range (E[1]!).1.toNat).map (isA X)).all id := fun X => by unfold allA; simp
      rw [f, f]
      congr 1
      apply List.map_congr_left
      intro j hj
      exact (eA j (List.mem_range.1 hj)).2
    have eD : descA D who = descA E who := by unfold descA; rw [e0, e1, eL]
    refine ⟨?_, fun _ => eD⟩
    unfold rdB decB
    rw [eD, e1, eB]
    congr 3
    have hl : (wordsD (descA E who)).length ≤ 2 + 3 * m := by
      rw [wordsD_len]
      show 2 + 3 * (entsA E (E[1]!).1.toNat).length ≤ _
      rw [entsA_len]; omega
    have eT : D.take (wordsD (descA E who)).length = E.take (wordsD (descA E who)).length := by
      apply List.ext_getElem (by rw [List.length_take, List.length_take]; omega)
      intro i h1 h2
      have hi : i < (wordsD (descA E who)).length := by rw [List.length_take] at h1; omega
      have := h i (by omega)
      rw [getElem!_pos D i (by omega), getElem!_pos E i (by omega)] at this
      simp [this]
    rw [eT]
  · have d1 : rdB T C B D who = false := by
      unfold rdB decB
      rw [hm, e1, decide_eq_false (by exact hy)]; rfl
    have d2 : rdB T C B E who = false := by
      unfold rdB decB
      rw [hm, decide_eq_false (by exact hy)]; rfl
    rw [d1, d2]
    exact ⟨rfl, fun h => by cases h⟩
theorem set_at {M : List Wd} {p i : Nat} (v : Wd) (h : i ≠ p) : (M.set p v)[i]! = M[i]! := by
  by_cases hi : i < M.length
  · rw [getElem!_pos _ i (by rw [List.length_set]; exact hi), getElem!_pos M i hi, List.getElem_set_ne (by omega)]
  · rw [getElem!_neg _ i (by rw [List.length_set]; exact hi), getElem!_neg M i hi]
theorem set_same {M : List Wd} {p : Nat} (v : Wd) (h : p < M.length) : (M.set p v)[p]! = v := by
  rw [getElem!_pos _ p (by rw [List.length_set]; exact h), List.getElem_set_self]
theorem drop_at (M : List Wd) (p i : Nat) (h : p + i < M.length) : (M.drop p)[i]! = M[p + i]! := by
  rw [getElem!_pos _ i (by rw [List.length_drop]; omega), getElem!_pos M (p + i) h]; simp
/-- Another owner's descriptor does not see the status word. -/
theorem rd_other {T C B : Nat} (h : Ok T C B) {M : List Wd} {a who : Int} {p m : Nat} (v : Wd) (hM : M.length = startL T C B 7) (hp : placeI T C B a = ((p : Int), (m : Int))) (hne : a ≠ who) : rdE T C B (M.set p v) who = rdE T C B M who ∧ rdD T C B (M.set p v) who = rdD T C B M who := by
  have hN : (M.set p v).length = startL T C B 7 := by rw [List.length_set]; exact hM
  rcases place_room h who with hq | ⟨q, k, hq, hk, hr, _⟩
  · have e1 : rdE T C B (M.set p v) who = 3 := rdE_none h (by omega) hq
    have e2 : rdE T C B M who = 3 := rdE_none h (by omega) hq
    exact ⟨by rw [e1, e2], by rw [rdD_no e1 (by decide), rdD_no e2 (by decide)]⟩
  have hA := place_apart h hne hp hq
  obtain ⟨b1, b2⟩ := rdB_congr (T := T) (C := C) (B := B) (who := who) (m := k) (by rw [hq]) (D := (M.set p v).drop q) (E := M.drop q) (by rw [List.length_drop]; omega) (by rw [List.length_drop]; omega) (fun i hi => by rw [drop_at _ _ _ (by omega), drop_at _ _ _ (by omega), set_at v (by omega)]) (by omega)
  have e : rdE T C B (M.set p v) who = rdE T C B M who := by
    have q0 : ¬ (placeI T C B who).1 < 0 := by rw [hq]; simp only; omega
    have q1 : (placeI T C B who).1.toNat = q := by rw [hq]; rfl
    rw [rdE_long h (by omega), rdE_long h (by omega), if_neg q0, if_neg q0, q1]
    cases hb : rdB T C B (M.drop q) who with
    | false => rw [if_neg (by rw [b1, hb]; decide), if_neg (by decide)]
    | true => rw [if_pos (by rw [b1, hb]), if_pos rfl]
  refine ⟨e, ?_⟩
  unfold rdD
  rw [e]
  by_cases h0 : rdE T C B M who = 0
  · rw [if_pos h0, if_pos h0, hq]
    simp only [Int.toNat_natCast]
    apply b2
    rw [b1]
    rw [rdE_long h (by omega), hq, if_neg (by simp only; omega)] at h0
    simp only [Int.toNat_natCast] at h0
    by_cases hb : rdB T C B (M.drop q) who = true
    · exact hb
    · rw [if_neg hb] at h0; cases h0
  · rw [if_neg h0, if_neg h0]
theorem wordsD_status (a b c s : Int) (L : List En) : wordsD (a, b, s, L) = (wordsD (a, b, c, L)).set 0 (s, IntKind.u32.wrap b, 0) := rfl
/-- The owner's own descriptor with its status word replaced. -/
theorem rd_own {T C B : Nat} (h : Ok T C B) {M0 : List Wd} {a b s : Int} {L : List En} {p m : Nat} (hM : M0.length = startL T C B 7) (hd : chkD T C B (a, b, 0, L) = 0) (hs : 0 ≤ s ∧ s ≤ 3) (hp : placeI T C B a = ((p : Int), (m : Int))) : rdE T C B ((laidM T C B M0 (a, b, 0, L)).set p (s, IntKind.u32.wrap b, 0)) a = 0 ∧ rdD T C B ((laidM T C B M0 (a, b, 0, L)).set p (s, IntKind.u32.wrap b, 0)) a = (a, b, s, L) := by
  obtain ⟨h1, h2, h3, h4, h5, h6, h7, h8, h9⟩ := (chkD_zero h a b 0 L).1 hd
  have hd' : chkD T C B (a, b, s, L) = 0 := (chkD_zero h a b s L).2 ⟨h1, h2, h3, hs.1, hs.2, h6, h7, h8, h9⟩
  obtain ⟨p', m', hp', hl, hm, hr, ht⟩ := laid_at h hd hM
  have e := hp.symm.trans hp'
  injection e with e1 e2
  obtain rfl : p = p' := by omega
  refine read_back h hd' (by rw [List.length_set, laidM_len]; omega) (fun i hi => ?_)
  rw [hp, wordsD_status a b 0 s L]
  simp only [Int.toNat_natCast]
  by_cases h0 : i = 0
  · subst h0
    rw [Nat.add_zero, set_same _ (by rw [laidM_len]; omega), set_same _ (by rw [wordsD_len]; omega)]
  · rw [set_at _ (by omega), set_at _ h0, ht _ (by omega), if_pos (by omega)]
    congr 1; omega
/-- The logical words behind the replacement are those that the law wants. -/
theorem decides {T C B : Nat} (h : Ok T C B) {M0 M : List Wd} {a b s : Int} {L : List En} {p m : Nat} (hM0 : M0.length = startL T C B 7) (hM : laidM T C B M0 (a, b, 0, L) = M) (hd : chkD T C B (a, b, 0, L) = 0) (hs : 1 ≤ s ∧ s ≤ 3) (hp : placeI T C B a = ((p : Int), (m : Int))) {k : Nat} {y0 y1 : Int} {ρ : Nat} (hm : mayI T C B (k : Int) = true) (hk : M[k]! = (y0, y1, (ρ : Int))) : logW T C B (M.set p (s, IntKind.u32.wrap b, 0)) k = wantK L k (decide ((ρ : Int) = (refI a b).1) && decide (s = 1)) (logW T C B M k) y1 L.length := by
  have hl : M.length = startL T C B 7 := by rw [← hM, laidM_len]; exact hM0
  have hlN : (M.set p (s, IntKind.u32.wrap b, 0)).length = startL T C B 7 := by rw [List.length_set]; exact hl
  obtain ⟨h1, h2, h3, h4, h5, h6, h7, h8, h9⟩ := (chkD_zero h a b 0 L).1 hd
  obtain ⟨p', m', hp', hl', hm', hr, ht⟩ := laid_at h hd hM0
  have e := hp.symm.trans hp'
  injection e with e1 e2
  obtain rfl : p = p' := by omega
  clear hp' e1 e2
  have hkr := may_range h hm
  have h4p : startL T C B 4 ≤ p := by
    rcases place_room h a with hq | ⟨q, k', hq, _, _, hq4⟩
    · rw [hp] at hq; injection hq with hq; omega
    · rw [hp] at hq; injection hq with hq; omega
  have hkp : k ≠ p := by omega
  have hT := h.1.2.1
  have ha72 : 1 ≤ a ∧ a ≤ 72 := by
    have hB := h.1.2.2
    rw [place_ok h] at hp
    by_cases c1 : 1 ≤ a ∧ a ≤ T
    · omega
    · rw [if_neg c1] at hp
      by_cases c2 : 9 ≤ a ∧ a < 9 + B
      · omega
      · rw [if_neg c2] at hp
        injection hp with hp; omega
  have hr1 : (refI a b).1 = a * 16777216 + b := by unfold refI; rw [if_neg (by omega)]
  have rM := rd_own h hM0 hd (s := 0) (by omega) hp
  have eM : (laidM T C B M0 (a, b, 0, L)).set p (0, IntKind.u32.wrap b, 0) = M := by
    rw [hM]
    apply List.ext_getElem (by rw [List.length_set])
    intro i i1 i2
    by_cases hi : i = p
    · subst hi
      have := ht i (by omega)
      rw [if_pos (by omega), Nat.sub_self, hM] at this
      rw [List.getElem_set_self, ← getElem!_pos M i i2, this]
      rfl
    · rw [List.getElem_set_ne (by omega)]
  rw [eM] at rM
  have rN := rd_own h hM0 hd (s := s) (by omega) hp
  rw [hM] at rN
  rw [(log_yes h (by omega) hm).2, (log_yes h (by omega) hm).2, Int.toNat_natCast, set_at _ hkp, hk, logL_parts h (by omega), logL_parts h (by omega)]
  have hρ : (ρ : Int) = ((ρ / 16777216 : Nat) : Int) * 16777216 + ((ρ % 16777216 : Nat) : Int) := by omega
  obtain ⟨x, hx⟩ : ∃ x, ρ / 16777216 = x := ⟨_, rfl⟩
  obtain ⟨y, hy⟩ : ∃ x, ρ % 16777216 = x := ⟨_, rfl⟩
  have hy2 : y < 16777216 := by omega
  rw [hx, hy] at hρ ⊢
  by_cases hxa : (x : Int) = a
  · rw [hxa, rM.1, rM.2, rN.1, rN.2]
    simp only
    rw [show decide True = true from rfl, Bool.true_and, Bool.true_and, decide_eq_false (show ¬ (0 : Int) = 1 by decide), Bool.and_false, if_neg (show ¬ (false = true) by decide)]
    have eq : decide ((ρ : Int) = (refI a b).1) = decide (b = (y : Int)) := by
      rw [decide_eq_decide, hr1, hρ, hxa]; omega
    rw [eq]
    cases hc : (decide (b = (y : Int)) && decide (s = 1)) with
    | false => rw [if_neg (by decide), wantK_off]
    | true => rw [if_pos rfl, wantK_find h7]; rfl
  · obtain ⟨o1, o2⟩ := rd_other h (M := M) (a := a) (who := (x : Int)) (p := p) (m := m) (s, IntKind.u32.wrap b, 0) hl hp (fun e => hxa e.symm)
    rw [o1, o2]
    have eq : decide ((ρ : Int) = (refI a b).1) = false := by
      rw [decide_eq_false_iff_not, hr1]; omega
    rw [eq, Bool.false_and, wantK_off]
end Go.Proofs.YtfegeahieajmkaaDoor
