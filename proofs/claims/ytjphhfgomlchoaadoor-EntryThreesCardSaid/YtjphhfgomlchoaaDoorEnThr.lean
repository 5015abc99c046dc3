/- Three swaps one after another, in lists of entries. -/
import Derived.Test.YtjphhfgomlchoaaDoorEnMerge
import Derived.Test.YtjphhfgomlchoaaDoorEnSrt
namespace Go.Proofs.YtjphhfgomlchoaaDoor
/-- The entry of a list at a location. -/
def lk (L : List En) (x : Int) : Option En := L.find? fun e => e.1 == x
/-- No two entries at one location. -/
abbrev Dis (L : List En) : Prop := L.Pairwise fun a b => a.1 ≠ b.1
theorem lk_mem {L : List En} {x : Int} {e : En} (h : lk L x = some e) : e ∈ L ∧ e.1 = x := ⟨List.mem_of_find?_eq_some h, by simpa using List.find?_some h⟩
theorem lk_no {L : List En} {x : Int} (h : lk L x = none) : ∀ e ∈ L, e.1 ≠ x := by
  intro e he
  have := List.find?_eq_none.1 h e he
  simpa using this
theorem lk_none {L : List En} {x : Int} (h : ∀ e ∈ L, e.1 ≠ x) : lk L x = none := by
  unfold lk
  rw [List.find?_eq_none]
  intro e he
  simpa using h e he
theorem lk_eq (f : En) (r : List En) : lk (f :: r) f.1 = some f := by unfold lk; rw [List.find?_cons_of_pos (by simp)]
theorem lk_ne {f : En} {x : Int} (r : List En) (h : f.1 ≠ x) : lk (f :: r) x = lk r x := by unfold lk; rw [List.find?_cons_of_neg (by simpa using h)]
theorem lk_of {L : List En} (hd : Dis L) {e : En} (he : e ∈ L) : lk L e.1 = some e := by
  induction L with
  | nil => cases he
  | cons a r ih =>
    replace hd := List.pairwise_cons.1 hd
    rcases List.mem_cons.1 he with rfl | he
    · exact lk_eq _ _
    · rw [lk_ne _ (hd.1 e he)]; exact ih hd.2 he
theorem lk_app (L R : List En) (x : Int) : lk (L ++ R) x = (lk L x).or (lk R x) := List.find?_append
theorem lk_map (F : En → En) (hF : ∀ e, (F e).1 = e.1) (A : List En) (x : Int) : lk (A.map F) x = (lk A x).map F := by
  induction A with
  | nil => rfl
  | cons a r ih =>
    rw [List.map_cons]
    by_cases h : a.1 = x
    · subst h
      rw [lk_eq, show a.1 = (F a).1 from (hF a).symm, lk_eq]; rfl
    · rw [lk_ne _ (by rw [hF]; exact h), lk_ne _ h]; exact ih
/-- The entries of B at locations that A has not. -/
def restB (A B : List En) : List En := B.filter fun f => (lk A f.1).isNone
theorem lk_rest (A B : List En) (x : Int) : lk (restB A B) x = if (lk A x).isNone = true then lk B x else none := by
  induction B with
  | nil => unfold restB; rw [List.filter_nil]; show (none : Option En) = _; split <;> rfl
  | cons f r ih =>
    unfold restB at ih ⊢
    by_cases hq : (lk A f.1).isNone = true
    · rw [List.filter_cons_of_pos (p := fun f : En => (lk A f.1).isNone) hq]
      by_cases hx : f.1 = x
      · subst hx; rw [if_pos hq, lk_eq, lk_eq]
      · rw [lk_ne _ hx, lk_ne _ hx]; exact ih
    · rw [List.filter_cons_of_neg (p := fun f : En => (lk A f.1).isNone) hq, ih]
      by_cases hx : f.1 = x
      · subst hx; rw [if_neg hq, if_neg hq]
      · rw [lk_ne _ hx]
/-- An entry of A with the one of B at its location behind it. -/
def cm (B : List En) (e : En) : En := match lk B e.1 with | some f => compE e f | none => e
theorem cm_loc (B : List En) (e : En) : (cm B e).1 = e.1 := by unfold cm; split <;> rfl
/-- What Merge gathers. -/
def accM (A B : List En) : List En := A.map (cm B) ++ restB A B
def cmb : Option En → Option En → Option En
  | some e, some f => some (compE e f)
  | some e, none => some e
  | none, o => o
theorem lk_acc (A B : List En) (x : Int) : lk (accM A B) x = cmb (lk A x) (lk B x) := by
  unfold accM
  rw [lk_app, lk_map _ (cm_loc B), lk_rest]
  cases h : lk A x with
  | none => simp [cmb]
  | some e =>
    have he := (lk_mem h).2
    unfold cm
    rw [Option.map_some, he]
    cases h2 : lk B x with
    | none => simp [cmb]
    | some f => simp [cmb]
theorem cmb_assoc (a b c : Option En) : cmb (cmb a b) c = cmb a (cmb b c) := by
  cases a <;> cases b <;> cases c <;> simp [cmb, compE, Bool.or_assoc]
theorem dis_acc {A B : List En} (ha : Dis A) (hb : Dis B) : Dis (accM A B) := by
  unfold accM
  rw [Dis, List.pairwise_append]
  refine ⟨?_, hb.filter _, ?_⟩
  · rw [List.pairwise_map]
    exact ha.imp (fun h => by rw [cm_loc, cm_loc]; exact h)
  · intro a h1 f h2
    obtain ⟨e, he, rfl⟩ := List.mem_map.1 h1
    obtain ⟨_, hq⟩ := List.mem_filter.1 h2
    rw [cm_loc]
    exact lk_no (by simpa using hq) e he
theorem dis_inj {L : List En} (h : Dis L) {i j : Nat} (hi : i < L.length) (hj : j < L.length) (he : L[i].1 = L[j].1) : i = j := by
  rw [Dis, List.pairwise_iff_getElem] at h
  rcases Nat.lt_trichotomy i j with h1 | h1 | h1
  · exact absurd he (h i j hi hj h1)
  · exact h1
  · exact absurd he.symm (h j i hj hi h1)
theorem fnd_lk {L : List En} {x : Int} {e : En} (hd : Dis L) (h : lk L x = some e) : ∃ j : Nat, ∃ hj : j < L.length, fnd x L = j ∧ L[j] = e := by
  obtain ⟨hm, hx⟩ := lk_mem h
  obtain ⟨j, hj, rfl⟩ := List.getElem_of_mem hm
  refine ⟨j, hj, fnd_yes hj (by rw [getElem!_pos L j hj]; exact hx) (fun i hi he => ?_), rfl⟩
  rw [getElem!_pos L i (by omega)] at he
  have := dis_inj hd (by omega) hj (he.trans hx.symm)
  omega
theorem lk_one (B : List En) (f : En) (x : Int) : lk (B ++ [f]) x = (lk B x).or (if f.1 = x then some f else none) := by
  rw [lk_app]
  by_cases h : f.1 = x
  · subst h; rw [if_pos rfl, lk_eq]
  · rw [if_neg h, lk_ne _ h]; rfl
/-- What Merge gathers behind the entries B1 of the second list. -/
theorem merge_acc {A : List En} (ha : Dis A) : ∀ (B2 B1 : List En), Dis (B1 ++ B2) → (∀ f ∈ B2, ∀ e, lk A f.1 = some e → f.2.1 = resW e) → mergeFrom A (accM A B1) B2 = some (accM A (B1 ++ B2)) := by
  intro B2
  induction B2 with
  | nil => intro B1 _ _; rw [List.append_nil]; rfl
  | cons f r ih =>
    intro B1 hd hm
    have hf : lk B1 f.1 = none := lk_none (fun e he => by
      rw [Dis, List.pairwise_append] at hd
      exact hd.2.2 e he f (List.mem_cons_self ..))
    have hd' : Dis ((B1 ++ [f]) ++ r) := by rw [List.append_assoc]; exact hd
    have ih' := ih (B1 ++ [f]) hd' (fun g hg => hm g (List.mem_cons_of_mem _ hg))
    rw [List.append_assoc] at ih'
    unfold mergeFrom
    cases hl : lk A f.1 with
    | none =>
      rw [if_pos (by have := fnd_no (fun i hi => lk_no hl _ (mem_at (L := A) hi)); omega)]
      have e : accM A B1 ++ [f] = accM A (B1 ++ [f]) := by
        unfold accM restB
        rw [List.filter_append, List.append_assoc]
        have e1 : [f].filter (fun f => (lk A f.1).isNone) = [f] := by rw [List.filter_cons_of_pos (by rw [hl]; rfl)]; rfl
        rw [e1]
        congr 1
        apply List.map_congr_left
        intro a ha'
        unfold cm
        rw [lk_one, if_neg (fun h => lk_no hl a ha' h.symm), Option.or_none]
      rw [e]; exact ih'
    | some e =>
      obtain ⟨j, hj, hfj, hje⟩ := fnd_lk ha hl
      have he := (lk_mem hl).2
      have hA : A[(fnd f.1 A).toNat]! = e := by rw [hfj, Int.toNat_natCast, getElem!_pos A j hj]; exact hje
      rw [if_neg (by rw [hfj]; omega), hA, if_pos ((eqW_iff _ _).2 (hm f (List.mem_cons_self ..) e hl)), hfj, Int.toNat_natCast]
      have e2 : (accM A B1).set j (compE e f) = accM A (B1 ++ [f]) := by
        unfold accM restB
        rw [List.filter_append, List.set_append_left _ _ (by rw [List.length_map]; exact hj)]
        have e1 : [f].filter (fun f => (lk A f.1).isNone) = [] := by rw [List.filter_cons_of_neg (by rw [hl]; simp)]; rfl
        rw [e1, List.append_nil]
        congr 1
        apply List.ext_getElem (by rw [List.length_set, List.length_map, List.length_map])
        intro i h1 h2
        rw [List.length_map] at h2
        by_cases hij : j = i
        · subst hij
          rw [List.getElem_set_self, List.getElem_map]
          unfold cm
          rw [hje, lk_one, he, hf, if_pos rfl]; rfl
        · rw [List.getElem_set_ne hij, List.getElem_map, List.getElem_map]
          unfold cm
          rw [lk_one, if_neg (fun h => hij (dis_inj ha hj h2 (by rw [hje, he]; exact h))), Option.or_none]
      rw [e2]; exact ih'
theorem acc_nil (A : List En) : accM A [] = A := by
  unfold accM restB
  rw [List.filter_nil, List.append_nil]
  have : A.map (cm []) = A.map id := List.map_congr_left (fun a _ => rfl)
  rw [this, List.map_id]
theorem merge_all {A B : List En} (ha : Dis A) (hb : Dis B) (hm : ∀ f ∈ B, ∀ e, lk A f.1 = some e → f.2.1 = resW e) : mergeFrom A A B = some (accM A B) := by
  have := merge_acc ha B [] hb hm
  rw [acc_nil] at this
  exact this
/-- Sorted lists. -/
theorem mrg_perm (n : Nat) : ∀ U V : List En, U.length + V.length ≤ n → (mrg U V).Perm (U ++ V) := by
  induction n with
  | zero =>
    intro U V h
    rw [List.length_eq_zero_iff.1 (show U.length = 0 by omega), mrg_nil]; exact List.Perm.refl _
  | succ n ih =>
    intro U V h
    cases U with
    | nil => rw [mrg_nil]; exact List.Perm.refl _
    | cons u U =>
      cases V with
      | nil => rw [mrg_nil', List.append_nil]
      | cons v V =>
        by_cases hc : v.1 < u.1
        · rw [mrg_lt _ _ hc]
          exact ((ih (u :: U) V (by simp at h ⊢; omega)).cons v).trans List.perm_middle.symm
        · rw [mrg_ge _ _ hc]
          exact (ih U (v :: V) (by simp at h ⊢; omega)).cons u
theorem srt_perm : ∀ L : List En, (srt L).Perm L := by
  apply list_snoc
  · exact List.Perm.refl _
  · intro L x h
    rw [srt_snoc]
    exact (mrg_perm _ _ _ (Nat.le_refl _)).trans (h.append_right [x])
theorem dis_perm {L R : List En} (h : L.Perm R) (hd : Dis L) : Dis R := (h.pairwise_iff (fun h => Ne.symm h)).1 hd
theorem lk_perm {L R : List En} (h : L.Perm R) (hd : Dis L) (x : Int) : lk R x = lk L x := by
  cases hl : lk L x with
  | none => exact lk_none (fun e he => lk_no hl e (h.mem_iff.2 he))
  | some e =>
    obtain ⟨h1, h2⟩ := lk_mem hl
    have := lk_of (dis_perm h hd) (h.mem_iff.1 h1)
    rw [h2] at this
    exact this
theorem srt_dis {L : List En} (h : Dis L) : Dis (srt L) := dis_perm (srt_perm L).symm h
theorem srt_lk {L : List En} (h : Dis L) (x : Int) : lk (srt L) x = lk L x := lk_perm (srt_perm L).symm h x
/-- Ascending lists without two entries at one location are the same if they look up the same. -/
theorem asc_ext : ∀ (X Y : List En), Asc X → Asc Y → Dis X → Dis Y → (∀ e, e ∈ X ↔ e ∈ Y) → X = Y := by
  intro X
  induction X with
  | nil =>
    intro Y _ _ _ _ h
    cases Y with
    | nil => rfl
    | cons y Y => exact absurd ((h y).2 (List.mem_cons_self ..)) (by simp)
  | cons x X ih =>
    intro Y hX hY dX dY h
    cases Y with
    | nil => exact absurd ((h x).1 (List.mem_cons_self ..)) (by simp)
    | cons y Y =>
      replace hX := List.pairwise_cons.1 hX
      replace hY := List.pairwise_cons.1 hY
      replace dX := List.pairwise_cons.1 dX
      replace dY := List.pairwise_cons.1 dY
      have hxy : x = y := by
        rcases List.mem_cons.1 ((h x).1 (List.mem_cons_self ..)) with e | h1
        · exact e
        · rcases List.mem_cons.1 ((h y).2 (List.mem_cons_self ..)) with e | h2
          · exact e.symm
          · have a1 := hY.1 x h1
            have a2 := hX.1 y h2
            have a3 := dX.1 y h2
            omega
      subst hxy
      congr 1
      refine ih Y hX.2 hY.2 dX.2 dY.2 (fun e => ?_)
      constructor
      · intro he
        rcases List.mem_cons.1 ((h e).1 (List.mem_cons_of_mem _ he)) with e1 | h1
        · subst e1; exact absurd rfl (dX.1 e he)
        · exact h1
      · intro he
        rcases List.mem_cons.1 ((h e).2 (List.mem_cons_of_mem _ he)) with e1 | h1
        · subst e1; exact absurd rfl (dY.1 e he)
        · exact h1
theorem asc_lk {X Y : List En} (hX : Asc X) (hY : Asc Y) (dX : Dis X) (dY : Dis Y) (h : ∀ x, lk X x = lk Y x) : X = Y := by
  refine asc_ext X Y hX hY dX dY (fun e => ?_)
  constructor
  · intro he
    have := lk_of dX he
    rw [h] at this
    exact (lk_mem this).1
  · intro he
    have := lk_of dY he
    rw [← h] at this
    exact (lk_mem this).1
/-- The entries of a swap for the six words W. -/
structure Mk (W : List Wd) (L : List En) : Prop where
  rng : ∀ e ∈ L, 0 ≤ e.1 ∧ e.1 < 6
  old : ∀ e ∈ L, e.2.1 = W[e.1.toNat]!
  nw : ∀ e ∈ L, e.2.2.2 = false → e.2.2.1 = (W[e.1.toNat]!).1
  dis : Dis L
/-- The word at a location behind the swap. -/
def aft (W : List Wd) (L : List En) (x : Int) : Wd := match lk L x with | some e => resW e | none => W[x.toNat]!
/-- The words V are those behind the swap. -/
def Aft (W : List Wd) (L : List En) (V : List Wd) : Prop := ∀ i : Nat, i < 6 → V[i]! = aft W L i
theorem aft_at {W V : List Wd} {L : List En} (h : Aft W L V) {x : Int} (hx : 0 ≤ x ∧ x < 6) : V[x.toNat]! = aft W L x := by
  have := h x.toNat (by omega)
  rw [show ((x.toNat : Nat) : Int) = x by omega] at this
  exact this
/-- Words without references whose versions are at most k. -/
def Low (k : Int) (W : List Wd) : Prop := ∀ i : Nat, i < 6 → (W[i]!).2.2 = 0 ∧ 0 ≤ (W[i]!).2.1 ∧ (W[i]!).2.1 ≤ k
theorem wrap_low {v : Int} (h0 : 0 ≤ v) (h1 : v ≤ 1073741830) : IntKind.u32.wrap (v + 1) = v + 1 := Int.emod_eq_of_lt (by omega) (show v + 1 < 4294967296 by omega)
theorem low_aft {k : Int} {W V : List Wd} {L : List En} (hk : k ≤ 1073741829) (h : Low k W) (hm : Mk W L) (hv : Aft W L V) : Low (k + 1) V := by
  intro i hi
  rw [hv i hi]
  unfold aft
  cases hl : lk L (i : Int) with
  | none => have := h i hi; show (W[i]!).2.2 = 0 ∧ 0 ≤ (W[i]!).2.1 ∧ (W[i]!).2.1 ≤ k + 1; exact ⟨this.1, this.2.1, by omega⟩
  | some e =>
    obtain ⟨h1, h2⟩ := lk_mem hl
    have ho := hm.old e h1
    rw [h2, Int.toNat_natCast] at ho
    have hw := h i hi
    simp only
    unfold resW
    split
    · have hb := wrap_low hw.2.1 (show (W[i]!).2.1 ≤ 1073741830 by omega)
      rw [ho, hb]
      exact ⟨rfl, by show 0 ≤ (W[i]!).2.1 + 1; omega, by show (W[i]!).2.1 + 1 ≤ k + 1; omega⟩
    · rw [ho]; omega
theorem chk_mk {k : Int} {W : List Wd} {L : List En} (hk : k ≤ 1073741830) (h : Low k W) (hm : Mk W L) : ∀ e ∈ L, chk e = 0 := by
  intro e he
  obtain ⟨r1, r2⟩ := hm.rng e he
  obtain ⟨w1, w2, w3⟩ := h e.1.toNat (by omega)
  have ho := hm.old e he
  unfold chk
  rw [if_neg (by omega), if_neg (by rw [ho, w1]; simp), if_neg (by intro h; rw [ho] at h; omega), if_neg (by
    intro ⟨h1, h2⟩
    exact h2 (by rw [hm.nw e he h1, ho]))]
/-- Six locations. -/
theorem dis_len (n : Nat) : ∀ L : List En, Dis L → (∀ e ∈ L, 0 ≤ e.1 ∧ e.1 < n) → L.length ≤ n := by
  induction n with
  | zero =>
    intro L _ h
    cases L with
    | nil => simp
    | cons a r => have := h a (List.mem_cons_self ..); omega
  | succ n ih =>
    intro L hd h
    have h1 := ih (L.filter fun e => decide (e.1 ≠ (n : Int))) (hd.filter _) (fun e he => by
      obtain ⟨h1, h2⟩ := List.mem_filter.1 he
      have := h e h1
      have := of_decide_eq_true h2
      omega)
    have h2 : ∀ L : List En, Dis L → L.length ≤ (L.filter fun e => decide (e.1 ≠ (n : Int))).length + 1 := by
      intro L
      induction L with
      | nil => intro _; simp
      | cons a r ihr =>
        intro hd
        rw [Dis, List.pairwise_cons] at hd
        by_cases ha : a.1 = (n : Int)
        · rw [List.filter_cons_of_neg (by simpa using ha)]
          have : r.filter (fun e => decide (e.1 ≠ (n : Int))) = r := by
            rw [List.filter_eq_self]
            intro e he
            have := hd.1 e he
            rw [decide_eq_true_eq]; omega
          rw [this]; simp
        · rw [List.filter_cons_of_pos (by simpa using ha)]
          have := ihr hd.2
          simp only [List.length_cons]; omega
    have := h2 L hd
    omega
theorem mk_len {W : List Wd} {L : List En} (hm : Mk W L) : L.length ≤ 6 := dis_len 6 L hm.dis (fun e he => by have := hm.rng e he; omega)
theorem chkFrom_ok (pre L : List En) (hd : Dis (pre ++ L)) (h : ∀ e ∈ L, chk e = 0) : chkFrom pre L = 0 := by
  induction L generalizing pre with
  | nil => rfl
  | cons f r ih =>
    unfold chkFrom
    have hf : fnd f.1 pre = -1 := fnd_no (fun i hi => by
      rw [Dis, List.pairwise_append] at hd
      exact hd.2.2 _ (mem_at hi) f (List.mem_cons_self ..))
    rw [if_neg (by rw [h f (List.mem_cons_self ..)]; simp), if_neg (by rw [hf]; omega)]
    exact ih (pre ++ [f]) (by rw [List.append_assoc]; exact hd) (fun e he => h e (List.mem_cons_of_mem _ he))
theorem chkL_mk {k : Int} {W : List Wd} {L : List En} (hk : k ≤ 1073741830) (h : Low k W) (hm : Mk W L) (h0 : L.length ≠ 0) : chkL L = 0 := by
  have := mk_len hm
  unfold chkL
  rw [if_neg h0, if_neg (by omega)]
  exact chkFrom_ok [] L hm.dis (chk_mk hk h hm)
theorem chkP_mk {k : Int} {W : List Wd} {L : List En} (hk : k ≤ 1073741830) (h : Low k W) (hm : Mk W L) : chkP L = 0 := by
  unfold chkP
  by_cases h0 : L.length = 0
  · rw [if_pos h0]
  · rw [if_neg h0]; exact chkL_mk hk h hm h0
/-- Two swaps one after another are one swap. -/
theorem mk_acc {W V : List Wd} {A B : List En} (ha : Mk W A) (hb : Mk V B) (hv : Aft W A V) : Mk W (accM A B) := by
  have key : ∀ e ∈ accM A B, (0 ≤ e.1 ∧ e.1 < 6) ∧ e.2.1 = W[e.1.toNat]! ∧ (e.2.2.2 = false → e.2.2.1 = (W[e.1.toNat]!).1) := by
    intro g hg
    have hl := lk_of (dis_acc ha.dis hb.dis) hg
    rw [lk_acc] at hl
    cases h1 : lk A g.1 with
    | none =>
      rw [h1] at hl
      obtain ⟨m1, _⟩ := lk_mem (show lk B g.1 = some g from hl)
      have hr := hb.rng g m1
      have hV : V[g.1.toNat]! = W[g.1.toNat]! := by rw [aft_at hv hr]; unfold aft; rw [h1]
      exact ⟨hr, by rw [hb.old g m1, hV], fun h => by rw [hb.nw g m1 h, hV]⟩
    | some e =>
      obtain ⟨m1, l1⟩ := lk_mem h1
      rw [h1] at hl
      cases h2 : lk B g.1 with
      | none =>
        rw [h2] at hl
        obtain rfl : e = g := by simpa [cmb] using hl
        exact ⟨ha.rng e m1, ha.old e m1, ha.nw e m1⟩
      | some f =>
        rw [h2] at hl
        obtain ⟨m2, l2⟩ := lk_mem h2
        have hg2 : compE e f = g := by simpa [cmb] using hl
        have hr := ha.rng e m1
        rw [← hg2]
        refine ⟨hr, ha.old e m1, fun h => ?_⟩
        have hw : e.2.2.2 = false ∧ f.2.2.2 = false := by simpa [compE, Bool.or_eq_false_iff] using h
        show f.2.2.1 = (W[e.1.toNat]!).1
        rw [hb.nw f m2 hw.2, l2, ← l1, aft_at hv hr]
        unfold aft
        rw [l1, h1]
        simp only
        unfold resW
        rw [if_neg (by rw [hw.1]; decide), ha.old e m1, l1]
  exact ⟨fun e he => (key e he).1, fun e he => (key e he).2.1, fun e he => (key e he).2.2, dis_acc ha.dis hb.dis⟩
theorem mk_srt {W : List Wd} {L : List En} (h : Mk W L) : Mk W (srt L) :=
  ⟨fun e he => h.rng e ((srt_perm L).mem_iff.1 he), fun e he => h.old e ((srt_perm L).mem_iff.1 he), fun e he => h.nw e ((srt_perm L).mem_iff.1 he), srt_dis h.dis⟩
theorem mk_cong {W V : List Wd} {L : List En} (h : Mk W L) (he : ∀ i : Nat, i < 6 → V[i]! = W[i]!) : Mk V L :=
  ⟨h.rng, fun e m => by have := h.rng e m; rw [he _ (by omega)]; exact h.old e m, fun e m hw => by have := h.rng e m; rw [he _ (by omega)]; exact h.nw e m hw, h.dis⟩
/-- Merge of two swaps one after another. -/
theorem merge_mk {k : Int} {W V : List Wd} {A B : List En} (hk : k ≤ 1073741829) (hW : Low k W) (ha : Mk W A) (hb : Mk V B) (hv : Aft W A V) : mergeO srt A B = (srt (accM A B), 0) ∧ Mk W (srt (accM A B)) := by
  have hV := low_aft hk hW ha hv
  have hM := mk_acc ha hb hv
  refine ⟨?_, mk_srt hM⟩
  unfold mergeO
  rw [if_neg (by rw [chkP_mk (by omega) hW ha]; simp), if_neg (by rw [chkP_mk (by omega) hV hb]; simp), merge_all ha.dis hb.dis (fun f hf e hl => ?_)]
  · simp only
    rw [if_neg (by have := mk_len hM; omega)]
  · have hr := hb.rng f hf
    rw [hb.old f hf, aft_at hv hr]
    unfold aft
    rw [hl]
/-- Both write one location. -/
def twiceP (A B : List En) : Prop := ∃ e ∈ A, ∃ f ∈ B, e.1 = f.1 ∧ e.2.2.2 = true ∧ f.2.2.2 = true
/-- Where no location is written twice, the words behind both are those behind the one. -/
theorem aft_acc {W V U : List Wd} {A B : List En} (ha : Mk W A) (hb : Mk V B) (hv : Aft W A V) (hu : Aft V B U) (ht : ¬ twiceP A B) : Aft W (srt (accM A B)) U := by
  intro i hi
  rw [hu i hi]
  unfold aft
  rw [srt_lk (dis_acc ha.dis hb.dis), lk_acc]
  have hvi := hv i hi
  unfold aft at hvi
  cases h1 : lk A (i : Int) with
  | none =>
    rw [h1] at hvi
    cases h2 : lk B (i : Int) with
    | none => simp only [cmb]; rw [Int.toNat_natCast]; exact hvi
    | some f => rfl
  | some e =>
    rw [h1] at hvi
    simp only at hvi
    obtain ⟨m1, l1⟩ := lk_mem h1
    cases h2 : lk B (i : Int) with
    | none => simp only [cmb]; rw [Int.toNat_natCast]; exact hvi
    | some f =>
      obtain ⟨m2, l2⟩ := lk_mem h2
      have ho := hb.old f m2
      have hn := hb.nw f m2
      rw [l2, Int.toNat_natCast, hvi] at ho hn
      simp only [cmb]
      have he := ha.old e m1
      have hen := ha.nw e m1
      rw [l1, Int.toNat_natCast] at he hen
      unfold resW compE
      simp only
      cases hw1 : e.2.2.2 with
      | true =>
        cases hw2 : f.2.2.2 with
        | true => exact absurd ⟨e, m1, f, m2, l1.trans l2.symm, hw1, hw2⟩ ht
        | false =>
          have h3 := hn hw2
          rw [ho, if_neg (by decide), h3]
          unfold resW
          rw [hw1]
          simp
      | false =>
        cases hw2 : f.2.2.2 with
        | true =>
          rw [ho]
          unfold resW
          rw [hw1]
          simp
        | false =>
          rw [ho]
          unfold resW
          rw [hw1]
          simp
/-- The value behind both is the one that the merged entry leaves. -/
theorem val_acc {W V U : List Wd} {A B : List En} (ha : Mk W A) (hb : Mk V B) (hv : Aft W A V) (hu : Aft V B U) {g : En} (hg : g ∈ srt (accM A B)) : g.2.2.1 = (U[g.1.toNat]!).1 := by
  have hM := mk_srt (mk_acc ha hb hv)
  have hr := hM.rng g hg
  have hl := lk_of hM.dis hg
  rw [srt_lk (dis_acc ha.dis hb.dis), lk_acc] at hl
  rw [aft_at hu hr]
  unfold aft
  have hres : ∀ (X : List Wd) (L : List En) (e : En), Mk X L → e ∈ L → (resW e).1 = e.2.2.1 := fun X L e h m => by
    unfold resW
    cases hw : e.2.2.2 with
    | true => simp
    | false => rw [if_neg (by decide), h.nw e m hw, h.old e m]
  cases h2 : lk B g.1 with
  | none =>
    rw [h2] at hl
    cases h1 : lk A g.1 with
    | none => rw [h1] at hl; cases hl
    | some e =>
      rw [h1] at hl
      obtain rfl : e = g := by simpa [cmb] using hl
      simp only
      rw [aft_at hv hr]
      unfold aft
      rw [h1]
      exact (hres W A e ha (lk_mem h1).1).symm
  | some f =>
    rw [h2] at hl
    obtain ⟨m2, l2⟩ := lk_mem h2
    simp only
    rw [hres V B f hb m2]
    cases h1 : lk A g.1 with
    | none => rw [h1] at hl; obtain rfl : f = g := by simpa [cmb] using hl
              rfl
    | some e =>
      rw [h1] at hl
      have hg2 : compE e f = g := by simpa [cmb] using hl
      rw [← hg2]; rfl
theorem ver_aft {k : Int} {W V : List Wd} {A : List En} (hk : k ≤ 1073741829) (hW : Low k W) (ha : Mk W A) (hv : Aft W A V) {x : Int} (hx : 0 ≤ x ∧ x < 6) : (W[x.toNat]!).2.1 ≤ (V[x.toNat]!).2.1 ∧ ((∃ e, lk A x = some e ∧ e.2.2.2 = true) → (W[x.toNat]!).2.1 < (V[x.toNat]!).2.1) := by
  have hw := hW x.toNat (by omega)
  rw [aft_at hv hx]
  unfold aft
  cases h1 : lk A x with
  | none => exact ⟨Int.le_refl _, fun ⟨e, h, _⟩ => by cases h⟩
  | some e =>
    obtain ⟨m1, l1⟩ := lk_mem h1
    have ho := ha.old e m1
    rw [l1] at ho
    simp only
    unfold resW
    cases hw1 : e.2.2.2 with
    | true =>
      rw [if_pos rfl, ho]
      simp only
      rw [wrap_low hw.2.1 (by omega)]
      exact ⟨by omega, fun _ => by omega⟩
    | false =>
      rw [if_neg (by decide), ho]
      exact ⟨Int.le_refl _, fun ⟨e', h, h'⟩ => by obtain rfl : e = e' := Option.some.inj h; rw [hw1] at h'; cases h'⟩
/-- A written entry raises the version. -/
theorem ver_acc {k : Int} {W V U : List Wd} {A B : List En} (hk : k ≤ 1073741828) (hW : Low k W) (ha : Mk W A) (hb : Mk V B) (hv : Aft W A V) (hu : Aft V B U) {g : En} (hg : g ∈ srt (accM A B)) (hw : g.2.2.2 = true) : (W[g.1.toNat]!).2.1 < (U[g.1.toNat]!).2.1 := by
  have hM := mk_srt (mk_acc ha hb hv)
  have hr := hM.rng g hg
  have hl := lk_of hM.dis hg
  rw [srt_lk (dis_acc ha.dis hb.dis), lk_acc] at hl
  obtain ⟨a1, a2⟩ := ver_aft (by omega) hW ha hv hr
  obtain ⟨b1, b2⟩ := ver_aft (by omega) (low_aft (by omega) hW ha hv) hb hu hr
  cases h1 : lk A g.1 with
  | none =>
    rw [h1] at hl
    have := b2 ⟨g, hl, hw⟩
    omega
  | some e =>
    rw [h1] at hl
    cases h2 : lk B g.1 with
    | none =>
      rw [h2] at hl
      obtain rfl : e = g := by simpa [cmb] using hl
      have := a2 ⟨e, h1, hw⟩
      omega
    | some f =>
      rw [h2] at hl
      have hg2 : compE e f = g := by simpa [cmb] using hl
      rw [← hg2] at hw
      have hor : e.2.2.2 = true ∨ f.2.2.2 = true := by simpa [compE, Bool.or_eq_true] using hw
      rcases hor with h | h
      · have := a2 ⟨e, h1, h⟩; omega
      · have := b2 ⟨f, h2, h⟩; omega
/-- Three swaps one after another. -/
theorem threes {W0 W1 W2 W3 : List Wd} {A B C : List En} (h0 : Low 1073741824 W0) (ha : Mk W0 A) (hb : Mk W1 B) (hc : Mk W2 C) (v1 : Aft W0 A W1) (v2 : Aft W1 B W2) (v3 : Aft W2 C W3) :
    (mergeO srt A B).2 = 0 ∧ (mergeO srt B C).2 = 0 ∧ (mergeO srt A B).1.length ≤ 6 ∧ (mergeO srt B C).1.length ≤ 6 ∧ (¬ twiceP A B → (mergeO srt (mergeO srt A B).1 C).2 = 0 ∧ (mergeO srt A (mergeO srt B C).1).2 = 0 ∧ (mergeO srt A (mergeO srt B C).1).1 = (mergeO srt (mergeO srt A B).1 C).1 ∧ chkP (mergeO srt (mergeO srt A B).1 C).1 = 0 ∧ (mergeO srt (mergeO srt A B).1 C).1.length ≤ 6 ∧ ∀ p ∈ (mergeO srt (mergeO srt A B).1 C).1, (0 ≤ p.1 ∧ p.1 < 6) ∧ p.2.1 = W0[p.1.toNat]! ∧ p.2.2.1 = (W3[p.1.toNat]!).1 ∧ (p.2.2.2 = true → (W0[p.1.toNat]!).2.1 < (W3[p.1.toNat]!).2.1)) := by
  have l1 := low_aft (by omega) h0 ha v1
  obtain ⟨e1, m1⟩ := merge_mk (by omega) h0 ha hb v1
  obtain ⟨e2, m2⟩ := merge_mk (by omega) l1 hb hc v2
  rw [e1, e2]
  refine ⟨rfl, rfl, mk_len m1, mk_len m2, fun ht => ?_⟩
  have v12 := aft_acc ha hb v1 v2 ht
  obtain ⟨e3, m3⟩ := merge_mk (by omega) h0 m1 hc v12
  obtain ⟨e4, m4⟩ := merge_mk (by omega) h0 ha m2 v1
  simp only
  rw [e3, e4]
  refine ⟨rfl, rfl, ?_, chkP_mk (by omega) h0 m3, mk_len m3, fun p hp => ⟨m3.rng p hp, m3.old p hp, val_acc m1 hc v12 v3 hp, fun hw => ver_acc (by omega) h0 m1 hc v12 v3 hp hw⟩⟩
  refine asc_lk (srt_asc _) (srt_asc _) m4.dis m3.dis (fun x => ?_)
  rw [srt_lk (dis_acc ha.dis m2.dis), lk_acc, srt_lk (dis_acc hb.dis hc.dis), lk_acc, srt_lk (dis_acc m1.dis hc.dis), lk_acc, srt_lk (dis_acc ha.dis hb.dis), lk_acc, cmb_assoc]
/-- What the effects of a swap make of the words: the entries, the words behind it. -/
def madeS (W : List Wd) (s : List En × List Wd) (x : Int × Int × Bool) : List En × List Wd :=
  if (lk s.1 (x.1 % 6)).isSome = true then s else
  (s.1 ++ [(x.1 % 6, W[(x.1 % 6).toNat]!, if x.2.2 = true then x.2.1 else (W[(x.1 % 6).toNat]!).1, x.2.2)], if x.2.2 = true then s.2.set (x.1 % 6).toNat (x.2.1, IntKind.u32.wrap ((W[(x.1 % 6).toNat]!).2.1 + 1), 0) else s.2)
def madeL (W : List Wd) (P : List (Int × Int × Bool)) : List En × List Wd := P.foldl (madeS W) ([], W)
theorem madeL_snoc (W : List Wd) (P : List (Int × Int × Bool)) (x : Int × Int × Bool) : madeL W (P ++ [x]) = madeS W (madeL W P) x := by unfold madeL; rw [List.foldl_append]; rfl
theorem made_ok {W : List Wd} (hW : W.length = 6) : ∀ P : List (Int × Int × Bool), (∀ x ∈ P, 0 ≤ x.1) → Mk W (madeL W P).1 ∧ (madeL W P).2.length = 6 ∧ Aft W (madeL W P).1 (madeL W P).2 := by
  apply list_snoc
  · intro _
    exact ⟨⟨fun e h => (by cases h), fun e h => (by cases h), fun e h => (by cases h), List.Pairwise.nil⟩, hW, fun i hi => by show W[i]! = _; unfold aft; rfl⟩
  · intro P x ih hP
    obtain ⟨hm, hl, ha⟩ := ih (fun y hy => hP y (List.mem_append_left _ hy))
    have hx := hP x (List.mem_append_right _ (List.mem_singleton.2 rfl))
    rw [madeL_snoc]
    obtain ⟨s, hs⟩ : ∃ s, madeL W P = s := ⟨_, rfl⟩
    rw [hs] at hm hl ha ⊢
    unfold madeS
    obtain ⟨a, hat⟩ : ∃ a : Nat, x.1 % 6 = a ∧ a < 6 := ⟨(x.1 % 6).toNat, by omega⟩
    obtain ⟨hat, ha6⟩ := hat
    rw [hat]
    simp only [Int.toNat_natCast]
    cases hk : lk s.1 (a : Int) with
    | some e => exact ⟨hm, hl, ha⟩
    | none =>
      rw [if_neg (show ¬ (none : Option En).isSome = true by decide)]
      simp only
      have hno := lk_no hk
      refine ⟨⟨fun e he => ?_, fun e he => ?_, fun e he hw => ?_, ?_⟩, ?_, fun i hi => ?_⟩
      · rcases List.mem_append.1 he with h | h
        · exact hm.rng e h
        · rw [List.mem_singleton.1 h]; simp only; omega
      · rcases List.mem_append.1 he with h | h
        · exact hm.old e h
        · rw [List.mem_singleton.1 h]; simp only [Int.toNat_natCast]
      · rcases List.mem_append.1 he with h | h
        · exact hm.nw e h hw
        · rw [List.mem_singleton.1 h] at hw ⊢
          simp only [Int.toNat_natCast] at hw ⊢
          rw [if_neg (by rw [hw]; decide)]
      · rw [Dis, List.pairwise_append]
        refine ⟨hm.dis, List.pairwise_singleton _ _, fun e he f hf => ?_⟩
        rw [List.mem_singleton.1 hf]
        exact hno e he
      · split
        · rw [List.length_set]; exact hl
        · exact hl
      · have hi' := ha i hi
        unfold aft at hi' ⊢
        rw [lk_one]
        simp only
        by_cases hia : i = a
        · subst hia
          rw [hk] at hi'
          replace hi' : s.2[i]! = W[i]! := hi'
          rw [hk, if_pos rfl]
          show (if x.2.2 = true then s.2.set i (x.2.1, IntKind.u32.wrap ((W[i]!).2.1 + 1), 0) else s.2)[i]! = resW ((i : Int), W[i]!, (if x.2.2 = true then x.2.1 else (W[i]!).1), x.2.2)
          unfold resW
          cases hw : x.2.2 with
          | true =>
            rw [if_pos rfl, getElem!_pos _ i (by rw [List.length_set]; omega), List.getElem_set_self]
            simp
          | false => rw [if_neg (by decide), hi']; simp
        · rw [if_neg (show ¬ (a : Int) = (i : Int) by omega), Option.or_none]
          rw [← hi']
          split
          · have hn : i < s.2.length := by omega
            rw [getElem!_pos _ i (by rw [List.length_set]; exact hn), getElem!_pos s.2 i hn, List.getElem_set_ne (by omega)]
          · rfl
end Go.Proofs.YtjphhfgomlchoaaDoor
