/- Memories as the laws reach them: every view names messages that are there; what an operation leaves as it was. -/
import Derived.Test.YtbaljoehgdhhhaaBegun
namespace Go.Proofs.Ytbaljoehgdhhhaa
open Go.RowKit Go.Shelf Go.Maps
/-- A view names messages that are there. -/
def Fit (M : Mem) (x : List (Int × Int)) : Prop := Ok x ∧ ∀ p : Nat, p < M.hs.length → atL x p < (M.hist p).length
structure Mem.Sound (M : Mem) : Prop where
  v : ∀ x ∈ M.vs, Fit M x
  m : ∀ h ∈ M.hs, ∀ g ∈ h, Fit M g.view
theorem Fit.mono {M M' : Mem} {x : List (Int × Int)} (h : Fit M x) (e : M'.hs.length = M.hs.length) (hl : ∀ p : Nat, p < M.hs.length → (M.hist p).length ≤ (M'.hist p).length) : Fit M' x :=
  ⟨h.1, fun p hp => by have := h.2 p (e ▸ hp); have := hl p (e ▸ hp); omega⟩
theorem Mem.Sound.view {M : Mem} (h : M.Sound) {k : Nat} (hk : k < M.vs.length) : Fit M (M.view k) := by
  refine h.v _ ?_
  unfold Mem.view
  rw [List.getD_eq_getElem?_getD, List.getElem?_eq_getElem hk]; exact List.getElem_mem hk
theorem Mem.Sound.msg {M : Mem} (h : M.Sound) {p i : Nat} (hp : p < M.hs.length) (hi : i < (M.hist p).length) : Fit M (M.msg p i).view := by
  refine h.m (M.hist p) ?_ _ ?_
  · unfold Mem.hist
    rw [List.getD_eq_getElem?_getD, List.getElem?_eq_getElem hp]; exact List.getElem_mem hp
  · unfold Mem.msg
    rw [List.getD_eq_getElem?_getD, List.getElem?_eq_getElem hi]; exact List.getElem_mem hi
theorem Fit.with {M : Mem} {x : List (Int × Int)} (h : Fit M x) {p i : Nat} (hi : i < (M.hist p).length) (hs : i < 9223372036854775807) : Fit M (withL x p i) := by
  refine ⟨ok_withL h.1 (by omega), fun q hq => ?_⟩
  rw [atL_withL h.1]
  have := h.2 q hq
  split
  · rename_i hc
    obtain rfl : q = p := by omega
    omega
  · exact this
theorem Fit.join {M : Mem} {x y : List (Int × Int)} (h : Fit M x) (g : Fit M y) : Fit M (joinL x y) := by
  refine ⟨ok_joinL h.1 (fun p hp => (g.1.2 p hp).2.2), fun q hq => ?_⟩
  rw [atL_joinL h.1 g.1]
  have := h.2 q hq
  have := g.2 q hq
  omega
theorem readAt_hist (M : Mem) (k p i : Nat) (j : Bool) (q : Nat) : (M.readAt k p i j).hist q = M.hist q := rfl
theorem Mem.Sound.readAt {M : Mem} (h : M.Sound) {k p i : Nat} (hk : k < M.vs.length) (hp : p < M.hs.length) (hi : i < (M.hist p).length) (hs : i < 9223372036854775807) (j : Bool) : (M.readAt k p i j).Sound := by
  have hf : Fit M (if j then joinL (withL (M.view k) p i) (M.msg p i).view else withL (M.view k) p i) := by
    split
    · exact ((h.view hk).with hi hs).join (h.msg hp hi)
    · exact (h.view hk).with hi hs
  refine ⟨fun x hx => ?_, fun g hg y hy => (h.m g hg y hy).mono rfl (fun _ _ => Nat.le_refl _)⟩
  rcases List.mem_or_eq_of_mem_set hx with hx | rfl
  · exact (h.v x hx).mono rfl (fun _ _ => Nat.le_refl _)
  · exact hf.mono rfl (fun _ _ => Nat.le_refl _)
theorem writeAt_hist (M : Mem) (k p : Nat) (a b c : Int) (r : Bool) (q : Nat) (hp : p < M.hs.length) : (M.writeAt k p a b c r).hist q = if q = p then M.hist p ++ [⟨a, b, c, (k : Int) + 1, if r then withL (M.view k) p (M.hist p).length else withL [] p (M.hist p).length⟩] else M.hist q := by
  unfold Mem.writeAt
  by_cases hq : q = p
  · subst hq
    rw [if_pos rfl]
    show (M.hs.set q _).getD q [] = _
    rw [List.getD_eq_getElem?_getD, List.getElem?_set_self hp]; rfl
  · rw [if_neg hq]
    show (M.hs.set p _).getD q [] = M.hs.getD q []
    rw [List.getD_eq_getElem?_getD, List.getElem?_set_ne (Ne.symm hq), List.getD_eq_getElem?_getD]
theorem writeAt_grows (M : Mem) (k p : Nat) (a b c : Int) (r : Bool) (hp : p < M.hs.length) (q : Nat) : (M.hist q).length ≤ ((M.writeAt k p a b c r).hist q).length := by
  rw [writeAt_hist M k p a b c r q hp]
  split
  · rename_i e; subst e; simp
  · exact Nat.le_refl _
theorem writeAt_len (M : Mem) (k p : Nat) (a b c : Int) (r : Bool) : (M.writeAt k p a b c r).hs.length = M.hs.length := by simp [Mem.writeAt]
theorem Mem.Sound.writeAt {M : Mem} (h : M.Sound) {k p : Nat} (hk : k < M.vs.length) (hp : p < M.hs.length) (hs : (M.hist p).length < 9223372036854775807) (a b c : Int) (r : Bool) : (M.writeAt k p a b c r).Sound := by
  have hl := writeAt_len M k p a b c r
  have hg := writeAt_grows M k p a b c r hp
  have up : ∀ {x}, Fit M x → Fit (M.writeAt k p a b c r) x := fun hx => hx.mono hl (fun q _ => hg q)
  have hn : (M.hist p).length < ((M.writeAt k p a b c r).hist p).length := by rw [writeAt_hist M k p a b c r p hp, if_pos rfl]; simp
  have f1 : Fit (M.writeAt k p a b c r) (withL (M.view k) p (M.hist p).length) := (up (h.view hk)).with hn hs
  have f0 : Fit (M.writeAt k p a b c r) [] := ⟨ok_nil, fun q hq => by
    rw [hl] at hq
    have e : ((M.writeAt k p a b c r).hist q).length > 0 ∨ (M.hist q).length = 0 := by have := hg q; omega
    show (0 : Int) < _
    rcases e with e | e
    · omega
    · exfalso
      have := (h.view hk).2 q hq
      have h1 := atL_bd (h.view hk).1 (q : Int)
      omega⟩
  refine ⟨fun x hx => ?_, fun g hg y hy => ?_⟩
  · rcases List.mem_or_eq_of_mem_set hx with hx | rfl
    · exact up (h.v x hx)
    · exact f1
  · rcases List.mem_or_eq_of_mem_set hg with hg | rfl
    · exact up (h.m g hg y hy)
    · rcases List.mem_append.1 hy with hy | hy
      · refine up (h.m (M.hist p) ?_ y hy)
        unfold Mem.hist
        rw [List.getD_eq_getElem?_getD, List.getElem?_eq_getElem hp]; exact List.getElem_mem hp
      · simp only [List.mem_singleton] at hy
        subst hy
        show Fit _ (if r then _ else _)
        split
        · exact f1
        · exact f0.with hn hs
theorem newMem_sound (t : Nat) (l : List Wd) : (newMem t l).Sound := by
  have f0 : Fit (newMem t l) [] := ⟨ok_nil, fun q hq => by
    show (0 : Int) < _
    have : (newMem t l).hist q = [firstMsg (l[q]'(by simpa [newMem] using hq))] := by
      unfold Mem.hist newMem
      simp only
      rw [List.getD_eq_getElem?_getD, List.getElem?_map, List.getElem?_eq_getElem (by simpa [newMem] using hq)]; rfl
    rw [this]; simp⟩
  refine ⟨fun x hx => ?_, fun h hh g hg => ?_⟩
  · obtain rfl : x = [] := (List.mem_replicate.1 hx).2
    exact f0
  · obtain ⟨y, _, rfl⟩ := List.mem_map.1 hh
    simp only [List.mem_singleton] at hg
    subst hg
    exact f0
/-- What an operation leaves as it was. -/
structure Step (M M' : Mem) (k p : Nat) : Prop where
  hl : M'.hs.length = M.hs.length
  vl : M'.vs.length = M.vs.length
  v : ∀ t, t ≠ k → M'.view t = M.view t
  u : ∀ q : Nat, atL (M.view k) q ≤ atL (M'.view k) q
  o : ∀ q, q ≠ p → M'.hist q = M.hist q
  h : M'.hist p = M.hist p ∨ ∃ g, M'.hist p = M.hist p ++ [g]
  s : M'.Sound
theorem Step.refl {M : Mem} (h : M.Sound) (k p : Nat) : Step M M k p := ⟨rfl, rfl, fun _ _ => rfl, fun _ => Int.le_refl _, fun _ _ => rfl, .inl rfl, h⟩
theorem set_view {M M' : Mem} {k : Nat} {x : List (Int × Int)} (hv : M'.vs = M.vs.set k x) (hk : k < M.vs.length) : M'.view k = x ∧ ∀ t, t ≠ k → M'.view t = M.view t := by
  unfold Mem.view
  rw [hv]
  refine ⟨?_, fun t ht => ?_⟩
  · rw [List.getD_eq_getElem?_getD, List.getElem?_set_self hk]; rfl
  · rw [List.getD_eq_getElem?_getD, List.getElem?_set_ne (Ne.symm ht), List.getD_eq_getElem?_getD]
theorem readAt_view (M : Mem) {k : Nat} (hk : k < M.vs.length) (p i : Nat) (j : Bool) : (M.readAt k p i j).view k = (if j then joinL (withL (M.view k) p i) (M.msg p i).view else withL (M.view k) p i) := (set_view (M' := M.readAt k p i j) rfl hk).1
theorem writeAt_view (M : Mem) {k : Nat} (hk : k < M.vs.length) (p : Nat) (a b c : Int) (r : Bool) : (M.writeAt k p a b c r).view k = withL (M.view k) p (M.hist p).length := (set_view (M' := M.writeAt k p a b c r) rfl hk).1
theorem le_withL {x : List (Int × Int)} (h : Ok x) (l n q : Int) : atL x q ≤ atL (withL x l n) q := by
  rw [atL_withL h]; split <;> omega
theorem step_read {M : Mem} (h : M.Sound) {k p i : Nat} (hk : k < M.vs.length) (hp : p < M.hs.length) (hi : i < (M.hist p).length) (hs : i < 9223372036854775807) (j : Bool) : Step M (M.readAt k p i j) k p := by
  refine ⟨rfl, by simp [Mem.readAt], (set_view (M' := M.readAt k p i j) rfl hk).2, fun q => ?_, fun _ _ => rfl, .inl rfl, h.readAt hk hp hi hs j⟩
  rw [readAt_view M hk]
  have h1 := le_withL (h.view hk).1 p i q
  split
  · rw [atL_joinL ((h.view hk).with hi hs).1 (h.msg hp hi).1]; omega
  · exact h1
theorem step_write {M : Mem} (h : M.Sound) {k p : Nat} (hk : k < M.vs.length) (hp : p < M.hs.length) (hs : (M.hist p).length < 9223372036854775807) (a b c : Int) (r : Bool) : Step M (M.writeAt k p a b c r) k p := by
  refine ⟨writeAt_len .., by simp [Mem.writeAt], (set_view (M' := M.writeAt k p a b c r) rfl hk).2, fun q => ?_, fun q hq => ?_, .inr ?_, h.writeAt hk hp hs a b c r⟩
  · rw [writeAt_view M hk]; exact le_withL (h.view hk).1 p _ q
  · rw [writeAt_hist M k p a b c r q hp, if_neg hq]
  · exact ⟨_, by rw [writeAt_hist M k p a b c r p hp, if_pos rfl]⟩
theorem Step.trans_read {M M1 M2 : Mem} {k p : Nat} (a : Step M M1 k p) (e : M1.hs = M.hs) (b : Step M1 M2 k p) : Step M M2 k p := by
  have eh : ∀ q, M1.hist q = M.hist q := fun q => by unfold Mem.hist; rw [e]
  refine ⟨b.hl.trans a.hl, b.vl.trans a.vl, fun t ht => (b.v t ht).trans (a.v t ht), fun q => Int.le_trans (a.u q) (b.u q), fun q hq => (b.o q hq).trans (a.o q hq), ?_, b.s⟩
  rw [← eh]; exact b.h
theorem step_res {N : Nat} {M : Mem} (h : M.Sound) (G : M.Good N) (hN : N ≤ 1000) (d : DoV) : Step M (M.res d).1 (d.t - 1).toNat d.at_.toNat := by
  unfold Mem.res
  split
  · exact Step.refl h _ _
  · split
    · exact Step.refl h _ _
    · rename_i he
      have he := errOf_zero (Decidable.not_not.1 he)
      have hk : (d.t - 1).toNat < M.vs.length := by omega
      have hp : d.at_.toNat < M.hs.length := by omega
      have hg := G.hist hp
      have hc : ∀ f c, (chooseL (M.hist d.at_.toNat).length f c).toNat < (M.hist d.at_.toNat).length := fun f c => by have := chooseL_in (f := f) (c := c) hg.1; omega
      have hc2 : ∀ f c, (chooseL (M.hist d.at_.toNat).length f c).toNat < 9223372036854775807 := fun f c => by have := hc f c; omega
      split
      · exact step_read h hk hp (hc _ _) (hc2 _ _) _
      split
      · exact step_read h hk hp (hc _ _) (hc2 _ _) _
      split
      · exact step_write h hk hp (by omega) _ _ _ _
      split
      · exact step_write h hk hp (by omega) _ _ _ _
      split
      · exact step_read h hk hp (by omega) (by omega) _
      split
      · have s1 := step_read h hk hp (i := (M.hist d.at_.toNat).length - 1) (by omega) (by omega) true
        exact s1.trans_read rfl (step_write s1.s (by simpa [Mem.readAt] using hk) hp (by rw [readAt_hist]; omega) _ _ _ _)
      · exact step_read h hk hp (by omega) (by omega) _
theorem ress_sound {N : Nat} {M : Mem} (h : M.Sound) (G : M.Good N) (l : List DoV) (hN : N + l.length ≤ 1000) : (M.ress l).Sound := by
  unfold Mem.ress
  induction l generalizing M N with
  | nil => exact h
  | cons d r ih =>
    simp only [List.foldl_cons]
    simp only [List.length_cons] at hN
    exact ih (step_res h G (by omega) d).s (G.res d).1 (by omega)
theorem seen_read {M : Mem} (h : M.Sound) {k p : Nat} (hk : k < M.vs.length) (hp : p < M.hs.length) (h0 : 0 < (M.hist p).length) (hs : (M.hist p).length ≤ 1000) (hp2 : p < 4096) : atL ((M.readAt k p ((M.hist p).length - 1) true).view k) p = ((M.hist p).length - 1 : Nat) := by
  rw [readAt_view M hk, if_pos rfl, atL_joinL ((h.view hk).with (by omega) (by omega)).1 (h.msg hp (by omega)).1, atL_withL (h.view hk).1, if_pos ⟨rfl, by omega, by omega⟩]
  have h1 := (h.view hk).2 p hp
  have h2 := (h.msg hp (i := (M.hist p).length - 1) (by omega)).2 p hp
  omega
theorem seen_write {M : Mem} (h : M.Sound) {k p : Nat} (hk : k < M.vs.length) (hp : p < M.hs.length) (hp2 : p < 4096) (a b c : Int) (r : Bool) : atL ((M.writeAt k p a b c r).view k) p = (M.hist p).length := by
  rw [writeAt_view M hk, atL_withL (h.view hk).1, if_pos ⟨rfl, by omega, by omega⟩]
  have h1 := (h.view hk).2 p hp
  omega
theorem last_write {M : Mem} {k p : Nat} (hp : p < M.hs.length) (a b c : Int) (r : Bool) : ((M.writeAt k p a b c r).hist p).length = (M.hist p).length + 1 ∧ wordV ((M.writeAt k p a b c r).msg p (((M.writeAt k p a b c r).hist p).length - 1)) = .agg #[.int .i64 a, .int .u32 b, .int .u32 c] := by
  have e := writeAt_hist M k p a b c r p hp
  rw [if_pos rfl] at e
  have hl : ((M.writeAt k p a b c r).hist p).length = (M.hist p).length + 1 := by rw [e]; simp
  refine ⟨hl, ?_⟩
  unfold Mem.msg
  rw [hl, e]
  simp [List.getD_eq_getElem?_getD, wordV]
theorem msg_write {M : Mem} {k p : Nat} (hp : p < M.hs.length) (a b c : Int) (r : Bool) {i : Nat} (hi : i < (M.hist p).length) : (M.writeAt k p a b c r).msg p i = M.msg p i := by
  have e := writeAt_hist M k p a b c r p hp
  rw [if_pos rfl] at e
  unfold Mem.msg
  rw [e, List.getD_eq_getElem?_getD, List.getElem?_append_left hi, List.getD_eq_getElem?_getD]
theorem view_write {M : Mem} {k p : Nat} (hp : p < M.hs.length) (a b c : Int) : ((M.writeAt k p a b c true).msg p (M.hist p).length).view = withL (M.view k) p (M.hist p).length := by
  have e := writeAt_hist M k p a b c true p hp
  rw [if_pos rfl] at e
  unfold Mem.msg
  rw [e]
  simp [List.getD_eq_getElem?_getD]
end Go.Proofs.Ytbaljoehgdhhhaa
