/- Plain mathematics of swaps: which words they change. -/
import Derived.Test.YtmophafgmimhcaaMdPlain
namespace Go.Proofs.Ytmophafgmimhcaa
theorem hasM_upd (M : List Wd) (L : List En) (a : Int) : hasM (upd M L) a = hasM M a := by unfold hasM; rw [upd_len]
theorem hasL_upd (M : List Wd) (L X : List En) : hasL (upd M L) X = hasL M X := by
  unfold hasL
  congr 1
  funext e
  exact hasM_upd M L e.1
theorem chkM_upd (M : List Wd) (L X : List En) : chkM (upd M L) X = chkM M X := by unfold chkM; rw [hasL_upd]
theorem chkM_zero {M : List Wd} {L : List En} (h : chkM M L = 0) : chkL L = 0 ∧ hasL M L = true := by
  unfold chkM at h
  split at h
  · contradiction
  · rename_i h1
    split at h
    · rename_i h2
      exact ⟨by simpa using h1, h2⟩
    · simp at h
theorem has_mem {M : List Wd} {L : List En} (h : hasL M L = true) {e : En} (he : e ∈ L) : 0 ≤ e.1 ∧ e.1 < M.length := by
  unfold hasL at h
  rw [List.all_eq_true] at h
  exact of_decide_eq_true (h e he)
theorem upd1_at (M : List Wd) (e : En) (a : Int) (he : 0 ≤ e.1 ∧ e.1 < M.length) : atM (upd1 M e) a = if e.1 = a ∧ e.2.2.2 = true then (e.2.2.1, IntKind.u32.wrap (e.2.1.2.1 + 1), 0) else atM M a := by
  unfold atM
  rw [upd1_len]
  by_cases ha : 0 ≤ a ∧ a < (M.length : Int)
  · rw [if_pos ha, if_pos ha]
    unfold upd1
    cases hw : e.2.2.2 with
    | false => simp
    | true =>
      simp only [if_true, and_true]
      have h1 : a.toNat < M.length := by omega
      rw [getElem!_pos (M.set _ _) a.toNat (by rw [List.length_set]; exact h1), getElem!_pos M a.toNat h1, List.getElem_set]
      by_cases h2 : e.1 = a
      · rw [if_pos h2, if_pos (by rw [h2])]
      · rw [if_neg h2, if_neg (by omega)]
  · rw [if_neg ha, if_neg ha, if_neg (by rintro ⟨h1, _⟩; exact ha (h1 ▸ he))]
theorem upd_cons (M : List Wd) (e : En) (L : List En) : upd M (e :: L) = upd (upd1 M e) L := rfl
theorem at_upd_no (M : List Wd) (L : List En) (a : Int) (hh : ∀ e ∈ L, 0 ≤ e.1 ∧ e.1 < M.length) (hn : ∀ e ∈ L, e.1 ≠ a) : atM (upd M L) a = atM M a := by
  induction L generalizing M with
  | nil => rfl
  | cons e r ih =>
    rw [upd_cons, ih (upd1 M e) (fun x hx => by rw [upd1_len]; exact hh x (List.mem_cons_of_mem _ hx)) (fun x hx => hn x (List.mem_cons_of_mem _ hx)), upd1_at M e a (hh e (by simp)), if_neg (fun h => hn e (by simp) h.1)]
theorem at_upd_congr (M X : List Wd) (L : List En) (a : Int) (hl : X.length = M.length) (hh : ∀ e ∈ L, 0 ≤ e.1 ∧ e.1 < M.length) (h : atM X a = atM M a) : atM (upd X L) a = atM (upd M L) a := by
  induction L generalizing M X with
  | nil => exact h
  | cons e r ih =>
    rw [upd_cons, upd_cons]
    refine ih _ _ (by rw [upd1_len, upd1_len, hl]) (fun x hx => by rw [upd1_len]; exact hh x (List.mem_cons_of_mem _ hx)) ?_
    rw [upd1_at M e a (hh e (by simp)), upd1_at X e a (by rw [hl]; exact hh e (by simp)), h]
theorem ext_at {X Y : List Wd} (hl : X.length = Y.length) (h : ∀ a : Int, 0 ≤ a → a < X.length → atM X a = atM Y a) : X = Y := by
  apply List.ext_getElem hl
  intro i h1 h2
  have := h i (by omega) (by omega)
  unfold atM at this
  rw [if_pos (by omega), if_pos (by omega), Int.toNat_natCast, getElem!_pos X i h1, getElem!_pos Y i h2] at this
  exact this
def Apart (A B : List En) : Prop := ∀ x ∈ A, ∀ y ∈ B, x.1 ≠ y.1
theorem upd_swap (M : List Wd) (A B : List En) (ha : ∀ e ∈ A, 0 ≤ e.1 ∧ e.1 < M.length) (hb : ∀ e ∈ B, 0 ≤ e.1 ∧ e.1 < M.length) (hd : Apart A B) : upd (upd M A) B = upd (upd M B) A := by
  refine ext_at (by simp only [upd_len]) fun a _ _ => ?_
  by_cases h : ∃ e ∈ B, e.1 = a
  · have hn : ∀ e ∈ A, e.1 ≠ a := by
      rintro e he rfl
      obtain ⟨y, hy, e2⟩ := h
      exact hd e he y hy e2.symm
    rw [at_upd_no (upd M B) A a (fun e he => by rw [upd_len]; exact ha e he) hn]
    exact at_upd_congr M (upd M A) B a (upd_len _ _) hb (at_upd_no M A a ha hn)
  · have hn : ∀ e ∈ B, e.1 ≠ a := fun e he e2 => h ⟨e, he, e2⟩
    rw [at_upd_no (upd M A) B a (fun e he => by rw [upd_len]; exact hb e he) hn]
    exact (at_upd_congr M (upd M B) A a (upd_len _ _) ha (at_upd_no M B a hb hn)).symm
theorem holds_upd (M : List Wd) (A B : List En) (ha : ∀ e ∈ A, 0 ≤ e.1 ∧ e.1 < M.length) (hd : Apart A B) : holds (upd M A) B = holds M B := by
  unfold holds
  rw [Bool.eq_iff_iff, List.all_eq_true, List.all_eq_true]
  have key : ∀ x ∈ B, holds1 (upd M A) x = holds1 M x := fun x hx => by
    unfold holds1
    rw [hasM_upd, at_upd_no M A x.1 ha (fun e he => hd e he x hx)]
  constructor
  · intro h x hx; rw [← key x hx]; exact h x hx
  · intro h x hx; rw [key x hx]; exact h x hx
theorem fnd_lt {a : Int} {L : List En} : ¬ 0 ≤ fnd a L → ∀ e ∈ L, e.1 ≠ a := by
  intro h e he hea
  apply h
  have : fndN a L < L.length := by
    unfold fndN
    rw [List.findIdx_lt_length]
    exact ⟨e, he, by simpa using hea⟩
  unfold fnd
  rw [if_pos this]
  omega
theorem chkFrom_zero {pre L : List En} (h : chkFrom pre L = 0) : (∀ e ∈ L, chk e = 0) ∧ (∀ e ∈ L, ∀ x ∈ pre, x.1 ≠ e.1) ∧ L.Pairwise (fun x y => x.1 ≠ y.1) := by
  induction L generalizing pre with
  | nil => exact ⟨fun e h => (by cases h), fun e h => (by cases h), List.Pairwise.nil⟩
  | cons e r ih =>
    rw [chkFrom] at h
    split at h
    · contradiction
    · rename_i h1
      split at h
      · contradiction
      · rename_i h2
        obtain ⟨i1, i2, i3⟩ := ih h
        refine ⟨fun x hx => ?_, fun x hx y hy => ?_, ?_⟩
        · rcases List.mem_cons.1 hx with rfl | hx
          · simpa using h1
          · exact i1 x hx
        · rcases List.mem_cons.1 hx with rfl | hx
          · exact fnd_lt h2 y hy
          · exact i2 x hx y (by simp [hy])
        · exact List.pairwise_cons.2 ⟨fun y hy => i2 y hy e (by simp), i3⟩
theorem chkL_zero {L : List En} (h : chkL L = 0) : (∀ e ∈ L, chk e = 0) ∧ L.Pairwise (fun x y => x.1 ≠ y.1) := by
  unfold chkL at h
  split at h
  · contradiction
  · split at h
    · contradiction
    · have := chkFrom_zero h
      exact ⟨this.1, this.2.2⟩
theorem at_upd_yes (M : List Wd) (L : List En) (e : En) (he : e ∈ L) (hh : ∀ e ∈ L, 0 ≤ e.1 ∧ e.1 < M.length) (hp : L.Pairwise (fun x y => x.1 ≠ y.1)) : atM (upd M L) e.1 = if e.2.2.2 then (e.2.2.1, IntKind.u32.wrap (e.2.1.2.1 + 1), 0) else atM M e.1 := by
  induction L generalizing M with
  | nil => cases he
  | cons x r ih =>
    have hp' := List.pairwise_cons.1 hp
    rw [upd_cons]
    rcases List.mem_cons.1 he with rfl | he
    · rw [at_upd_no (upd1 M e) r e.1 (fun y hy => by rw [upd1_len]; exact hh y (List.mem_cons_of_mem _ hy)) (fun y hy => (hp'.1 y hy).symm), upd1_at M e e.1 (hh e (by simp))]
      cases e.2.2.2 <;> simp
    · rw [ih (upd1 M x) he (fun y hy => by rw [upd1_len]; exact hh y (List.mem_cons_of_mem _ hy)) hp'.2, upd1_at M x e.1 (hh x (by simp)), if_neg (c := x.1 = e.1 ∧ x.2.2.2 = true) (fun h => hp'.1 e he h.1)]
theorem wrap_ne {v : Int} (h : 0 ≤ v ∧ v < 4294967296) : IntKind.u32.wrap (v + 1) ≠ v := by
  by_cases h1 : v = 4294967295
  · subst h1; decide
  · rw [IntWalk.u32_in (v + 1) (by omega)]; omega
/-- Behind a swap that took place, an entry matches exactly if it is not written. -/
theorem holds_after (M : List Wd) (L : List En) (e : En) (he : e ∈ L) (hv : 0 ≤ e.2.1.2.1 ∧ e.2.1.2.1 < 4294967296) (hc : chkM M L = 0) (hh : holds M L = true) : holds1 (upd M L) e = !e.2.2.2 := by
  obtain ⟨h1, h2⟩ := chkM_zero hc
  obtain ⟨_, hp⟩ := chkL_zero h1
  have hm := fun x hx => has_mem h2 (e := x) hx
  unfold holds1
  rw [hasM_upd, at_upd_yes M L e he hm hp]
  unfold holds at hh
  rw [List.all_eq_true] at hh
  have h3 := hh e he
  unfold holds1 at h3
  rw [Bool.and_eq_true] at h3
  cases hw : e.2.2.2 with
  | false => simp only [Bool.false_eq_true, if_false, Bool.not_false, Bool.and_eq_true]; exact h3
  | true =>
    simp only [if_true, Bool.not_true, Bool.and_eq_false_iff]
    right
    apply decide_eq_false
    intro h
    injection h with _ h
    injection h with h _
    exact wrap_ne hv h
def anyW (L : List En) : Bool := L.any fun e => e.2.2.2
theorem upd_none (M : List Wd) (L : List En) (h : anyW L = false) : upd M L = M := by
  induction L generalizing M with
  | nil => rfl
  | cons e r ih =>
    unfold anyW at h
    rw [List.any_cons, Bool.or_eq_false_iff] at h
    rw [upd_cons, show upd1 M e = M by unfold upd1; rw [h.1]; rfl]
    exact ih M h.2
theorem holds_again (M : List Wd) (L : List En) (hv : ∀ e ∈ L, 0 ≤ e.2.1.2.1 ∧ e.2.1.2.1 < 4294967296) (hc : chkM M L = 0) (hh : holds M L = true) : holds (upd M L) L = !anyW L := by
  cases hw : anyW L with
  | false => rw [upd_none M L hw, hh]; rfl
  | true =>
    unfold anyW at hw
    rw [List.any_eq_true] at hw
    obtain ⟨e, he, hwe⟩ := hw
    unfold holds
    rw [Bool.not_true, List.all_eq_false]
    exact ⟨e, he, by rw [holds_after M L e he (hv e he) hc hh, hwe]; decide⟩
theorem holds_app (M : List Wd) (A B : List En) : holds M (A ++ B) = (holds M A && holds M B) := by unfold holds; rw [List.all_append]
theorem holds_cut (M : List Wd) (L : List En) (k : Nat) : holds M L = (holds M (L.take k) && holds M (L.drop k)) := by
  rw [← holds_app, List.take_append_drop]
/-- Once: a swap that took place, again. -/
theorem swp_again (M : List Wd) (L : List En) (hv : ∀ e ∈ L, 0 ≤ e.2.1.2.1 ∧ e.2.1.2.1 < 4294967296) (h1 : (swp M L).2.1 = true) : swp (swp M L).1 L = ((swp M L).1, !anyW L, 0) ∧ (anyW L = false → (swp M L).1 = M) := by
  unfold swp at h1
  by_cases hc : chkM M L = 0
  · by_cases hh : holds M L = true
    · have e1 : swp M L = (upd M L, true, 0) := by unfold swp; rw [if_neg (by simpa using hc), if_pos hh]
      rw [e1]
      simp only
      refine ⟨?_, upd_none M L⟩
      unfold swp
      rw [chkM_upd, if_neg (by simpa using hc), holds_again M L hv hc hh]
      cases hw : anyW L with
      | false => simp only [Bool.not_false, if_true]; rw [upd_none _ L hw]
      | true => simp
    · rw [if_neg (by simpa using hc), if_neg hh] at h1; simp at h1
  · rw [if_pos (by simpa using hc)] at h1; simp at h1
/-- Apart: two swaps of different locations, in both orders. -/
theorem swp_apart (M : List Wd) (A B : List En) (hd : Apart A B) :
    (swp (swp M A).1 B).1 = (swp (swp M B).1 A).1 ∧ (swp (swp M A).1 B).2 = (swp M B).2 ∧ (swp (swp M B).1 A).2 = (swp M A).2 := by
  have hd' : Apart B A := fun x hx y hy => (hd y hy x hx).symm
  have one : ∀ (A B : List En), Apart A B → (swp (swp M A).1 B).2 = (swp M B).2 := by
    intro A B hd
    by_cases hc : chkM M A = 0
    · by_cases hh : holds M A = true
      · have e1 : swp M A = (upd M A, true, 0) := by unfold swp; rw [if_neg (by simpa using hc), if_pos hh]
        have hm := fun x hx => has_mem (chkM_zero hc).2 (e := x) hx
        rw [e1]
        simp only
        unfold swp
        rw [chkM_upd, holds_upd M A B hm hd]
        split
        · rfl
        · split <;> rfl
      · have e1 : swp M A = (M, false, 0) := by unfold swp; rw [if_neg (by simpa using hc), if_neg hh]
        rw [e1]
    · have e1 : swp M A = (M, false, chkM M A) := by unfold swp; rw [if_pos (by simpa using hc)]
      rw [e1]
  refine ⟨?_, one A B hd, one B A hd'⟩
  have frm : ∀ (X : List Wd) (L : List En), (swp X L).1 = if chkM X L = 0 ∧ holds X L = true then upd X L else X := by
    intro X L
    unfold swp
    by_cases hc : chkM X L = 0
    · by_cases hh : holds X L = true
      · rw [if_neg (by simpa using hc), if_pos hh, if_pos ⟨hc, hh⟩]
      · rw [if_neg (by simpa using hc), if_neg hh, if_neg (fun h => hh h.2)]
    · rw [if_pos (by simpa using hc), if_neg (fun h => hc h.1)]
  by_cases ha : chkM M A = 0 ∧ holds M A = true
  · have hma := fun x hx => has_mem (chkM_zero ha.1).2 (e := x) hx
    by_cases hb : chkM M B = 0 ∧ holds M B = true
    · have hmb := fun x hx => has_mem (chkM_zero hb.1).2 (e := x) hx
      rw [frm M A, frm M B, if_pos ha, if_pos hb, frm, frm, chkM_upd, chkM_upd, holds_upd M A B hma hd, holds_upd M B A hmb hd', if_pos hb, if_pos ha]
      exact upd_swap M A B hma hmb hd
    · rw [frm M A, frm M B, if_pos ha, if_neg hb, frm, frm, chkM_upd, holds_upd M A B hma hd, if_neg hb, if_pos ha]
  · by_cases hb : chkM M B = 0 ∧ holds M B = true
    · have hmb := fun x hx => has_mem (chkM_zero hb.1).2 (e := x) hx
      rw [frm M A, frm M B, if_neg ha, if_pos hb, frm, frm, chkM_upd, holds_upd M B A hmb hd', if_neg ha, if_pos hb]
    · rw [frm M A, frm M B, if_neg ha, if_neg hb, frm, frm, if_neg ha, if_neg hb]
end Go.Proofs.Ytmophafgmimhcaa
