/- Message passing over memories as data: plain facts. -/
import Derived.Test.YtbaljoehgdhhhaaSound
namespace Go.Proofs.Ytbaljoehgdhhhaa
open Go.RowKit Go.Shelf Go.Maps
/-- The message holds this word. -/
def isW (a b c : Int) (g : Msg) : Bool := g.val == a && (g.ver == b && g.ref == c)
theorem isW_word {a b c : Int} {g : Msg} (h : isW a b c g = true) : wordV g = .agg #[.int .i64 a, .int .u32 b, .int .u32 c] := by
  unfold isW at h
  simp only [Bool.and_eq_true, beq_iff_eq] at h
  unfold wordV; rw [h.1, h.2.1, h.2.2]
theorem isW_no {a b c : Int} {g : Msg} (h : isW a b c g = false) : ∃ x y z, wordV g = .agg #[.int .i64 x, .int .u32 y, .int .u32 z] ∧ (x == a && (y == b && z == c)) = false := ⟨_, _, _, rfl, h⟩
theorem chooseL_last {n : Nat} {f c : Int} (hn : 0 < n) (hf : (n : Int) - 1 ≤ f) : (chooseL n f c).toNat = n - 1 := by
  have := chooseL_in (f := f) (c := c) hn
  omega
theorem getD_any {l : List Msg} {P : Msg → Bool} (h : l.any P = false) {i : Nat} (hi : i < l.length) : P (l.getD i zeroMsg) = false := by
  rw [List.any_eq_false] at h
  have hm : l.getD i zeroMsg ∈ l := by
    rw [List.getD_eq_getElem?_getD, List.getElem?_eq_getElem hi]; exact List.getElem_mem hi
  simpa using h _ hm
/-- Message passing, step by step. -/
structure Pass (M0 M1 M2 : Mem) (L0 L1 L2 : Nat) : Prop where
  s : M2.Sound
  h0 : (M2.hist 0).length = L0 + 1
  h1 : (M2.hist 1).length = L1 + 1
  h2 : M2.hist 2 = M0.hist 2
  m1 : ∀ i, i < L1 → M2.msg 1 i = M0.msg 1 i
  v : atL (M2.msg 1 L1).view (0 : Nat) = L0
  np : M2.hs.length = M0.hs.length
  nv : M2.vs.length = M0.vs.length
theorem pass_two {M0 : Mem} (S : M0.Sound) (hp : 3 ≤ M0.hs.length) (hp8 : M0.hs.length ≤ 4096) (hv : 3 ≤ M0.vs.length) (hl : ∀ p, p < 3 → (M0.hist p).length ≤ 1000) (xa xb xc fa fb fc : Int) :
    Pass M0 (M0.writeAt 0 0 xa xb xc false) ((M0.writeAt 0 0 xa xb xc false).writeAt 0 1 fa fb fc true) (M0.hist 0).length (M0.hist 1).length (M0.hist 2).length ∧
      wordV (((M0.writeAt 0 0 xa xb xc false).writeAt 0 1 fa fb fc true).msg 0 (M0.hist 0).length) = .agg #[.int .i64 xa, .int .u32 xb, .int .u32 xc] ∧
      wordV (((M0.writeAt 0 0 xa xb xc false).writeAt 0 1 fa fb fc true).msg 1 (M0.hist 1).length) = .agg #[.int .i64 fa, .int .u32 fb, .int .u32 fc] := by
  have l0 := hl 0 (by omega)
  have l1 := hl 1 (by omega)
  have s1 := S.writeAt (k := 0) (p := 0) (by omega) (by omega) (by omega) xa xb xc false
  obtain ⟨M1, hM1⟩ : ∃ M1, M0.writeAt 0 0 xa xb xc false = M1 := ⟨_, rfl⟩
  have hh := fun q => writeAt_hist M0 0 0 xa xb xc false q (by omega)
  have e0 := last_write (M := M0) (k := 0) (p := 0) (by omega) xa xb xc false
  have sw := seen_write S (k := 0) (p := 0) (by omega) (by omega) (by omega) xa xb xc false
  have n1 := writeAt_len M0 0 0 xa xb xc false
  have nv1 : (M0.writeAt 0 0 xa xb xc false).vs.length = M0.vs.length := by simp [Mem.writeAt]
  rw [hM1] at s1 hh e0 sw n1 nv1 ⊢
  have g1 : M1.hist 1 = M0.hist 1 := by rw [hh 1]; rfl
  have g2 : M1.hist 2 = M0.hist 2 := by rw [hh 2]; rfl
  have s2 := s1.writeAt (k := 0) (p := 1) (by omega) (by omega) (by rw [g1]; omega) fa fb fc true
  have kk := fun q => writeAt_hist M1 0 1 fa fb fc true q (by omega)
  have e1 := last_write (M := M1) (k := 0) (p := 1) (by omega) fa fb fc true
  have mw := fun i => msg_write (M := M1) (k := 0) (p := 1) (by omega) fa fb fc true (i := i)
  have vw := view_write (M := M1) (k := 0) (p := 1) (by omega) fa fb fc
  have n2 := writeAt_len M1 0 1 fa fb fc true
  have nv2 : (M1.writeAt 0 1 fa fb fc true).vs.length = M1.vs.length := by simp [Mem.writeAt]
  obtain ⟨M2, hM2⟩ : ∃ M2, M1.writeAt 0 1 fa fb fc true = M2 := ⟨_, rfl⟩
  rw [hM2] at s2 kk e1 mw vw n2 nv2 ⊢
  have k0 : M2.hist 0 = M1.hist 0 := by rw [kk 0]; rfl
  have k2 : M2.hist 2 = M0.hist 2 := by rw [kk 2]; exact g2
  have e1l := e1.1
  have e1w := e1.2
  rw [g1] at e1l vw
  rw [e1l] at e1w
  have e0w := e0.2
  rw [e0.1] at e0w
  refine ⟨⟨s2, by rw [k0]; exact e0.1, e1l, k2, fun i hi => ?_, ?_, by rw [n2, n1], by rw [nv2, nv1]⟩, ?_, e1w⟩
  · rw [mw i (by rw [g1]; exact hi)]; unfold Mem.msg; rw [g1]
  · rw [vw, atL_withL (s1.view (by omega)).1, if_neg (by omega)]; exact sw
  · show wordV ((M2.hist 0).getD _ _) = _
    rw [k0]; exact e0w
/-- A thread that has joined a view sees at least that. -/
theorem read_sees {M : Mem} (S : M.Sound) {k p i : Nat} (hk : k < M.vs.length) (hp : p < M.hs.length) (hi : i < (M.hist p).length) (hs : i < 9223372036854775807) (q : Nat) : atL (M.msg p i).view q ≤ atL ((M.readAt k p i true).view k) q := by
  rw [readAt_view M hk, if_pos rfl, atL_joinL ((S.view hk).with hi hs).1 (S.msg hp hi).1]
  omega
theorem swap_sees {M : Mem} (S : M.Sound) {k p i : Nat} (hk : k < M.vs.length) (hp : p < M.hs.length) (hi : i < (M.hist p).length) (hL : (M.hist p).length ≤ 1000) (a b c : Int) (q : Nat) (hq : q ≠ p) :
    atL (M.view k) q ≤ atL (((M.readAt k p i true).writeAt k p a b c true).msg p (M.hist p).length).view q := by
  have s1 := S.readAt hk hp hi (by omega) true
  have u := (step_read S hk hp hi (by omega) true).u q
  have vw := view_write (M := M.readAt k p i true) (k := k) (p := p) (by exact hp) a b c
  rw [readAt_hist] at vw
  rw [vw, atL_withL (s1.view (by simpa [Mem.readAt] using hk)).1, if_neg (by omega)]
  exact u
/-- What holds once the flag has been read. -/
structure Tail (M0 M3 M4 : Mem) (L0 L2 : Nat) (la lb lc xa xb xc : Int) : Prop where
  n3 : M3.hs.length = M0.hs.length ∧ M3.vs.length = M0.vs.length
  n4 : M4.hs.length = M0.hs.length ∧ M4.vs.length = M0.vs.length
  c3 : ∀ z, (chooseL (M3.hist 0).length (atL (M3.view 1) (0 : Nat)) z).toNat = L0
  w3 : wordV (M3.msg 0 L0) = .agg #[.int .i64 xa, .int .u32 xb, .int .u32 xc]
  l3 : (M3.hist 2).length = L2
  m3 : (M3.msg 2 ((M3.hist 2).length - 1)).val = la ∧ (M3.msg 2 ((M3.hist 2).length - 1)).ver = lb ∧ (M3.msg 2 ((M3.hist 2).length - 1)).ref = lc
  l4 : (M4.hist 2).length = L2 + 1
  k4 : wordV (M4.msg 2 L2) = .agg #[.int .i64 78, .int .u32 1073741824, .int .u32 0]
  o4 : ∀ j, j < L2 → isW 78 1073741824 0 (M4.msg 2 j) = false
  h4 : (M4.hist 0).length = L0 + 1
  w4 : wordV (M4.msg 0 L0) = .agg #[.int .i64 xa, .int .u32 xb, .int .u32 xc]
  c4 : ∀ z, (chooseL ((M4.readAt 2 2 L2 true).hist 0).length (atL ((M4.readAt 2 2 L2 true).view 2) (0 : Nat)) z).toNat = L0
theorem pass_tail {M0 M1 M2 : Mem} {L0 L1 : Nat} {xa xb xc : Int} (P : Pass M0 M1 M2 L0 L1 (M0.hist 2).length) (hp : 3 ≤ M0.hs.length) (hv : 3 ≤ M0.vs.length) (hl1 : L1 ≤ 1000) (hl2 : 0 < (M0.hist 2).length) (hl3 : (M0.hist 2).length ≤ 1000)
    (w0 : wordV (M2.msg 0 L0) = .agg #[.int .i64 xa, .int .u32 xb, .int .u32 xc]) (hno : (M0.hist 2).any (isW 78 1073741824 0) = false) :
    ∃ la lb lc, Tail M0 (M2.readAt 1 1 L1 true) (((M2.readAt 1 1 L1 true).readAt 1 2 ((M0.hist 2).length - 1) true).writeAt 1 2 78 1073741824 0 true) L0 (M0.hist 2).length la lb lc xa xb xc := by
  have np := P.np
  have nv := P.nv
  have h1 := P.h1
  have s3 := P.s.readAt (k := 1) (p := 1) (i := L1) (by omega) (by omega) (by omega) (by omega) true
  have rs := read_sees P.s (k := 1) (p := 1) (i := L1) (by omega) (by omega) (by omega) (by omega) 0
  rw [P.v] at rs
  obtain ⟨M3, hM3⟩ : ∃ M3, M2.readAt 1 1 L1 true = M3 := ⟨_, rfl⟩
  have q3 : ∀ q, M3.hist q = M2.hist q := fun q => by rw [← hM3]; rfl
  have n3 : M3.hs.length = M0.hs.length := by rw [← hM3]; exact np
  have v3 : M3.vs.length = M0.vs.length := by rw [← hM3]; simp [Mem.readAt]; exact nv
  rw [hM3] at s3 rs ⊢
  have l2 : (M3.hist 2).length = (M0.hist 2).length := by rw [q3, P.h2]
  have l0 : (M3.hist 0).length = L0 + 1 := by rw [q3]; exact P.h0
  have w3 : M3.msg 0 L0 = M2.msg 0 L0 := by unfold Mem.msg; rw [q3]
  have ss := swap_sees s3 (k := 1) (p := 2) (i := (M0.hist 2).length - 1) (by omega) (by omega) (by omega) (by omega) 78 1073741824 0 0 (by omega)
  have s3b := s3.readAt (k := 1) (p := 2) (i := (M0.hist 2).length - 1) (by omega) (by omega) (by omega) (by omega) true
  obtain ⟨M3b, hM3b⟩ : ∃ M, M3.readAt 1 2 ((M0.hist 2).length - 1) true = M := ⟨_, rfl⟩
  have q3b : ∀ q, M3b.hist q = M3.hist q := fun q => by rw [← hM3b]; rfl
  have n3b : M3b.hs.length = M0.hs.length := by rw [← hM3b]; exact n3
  have v3b : M3b.vs.length = M0.vs.length := by rw [← hM3b]; simp [Mem.readAt]; exact v3
  rw [hM3b] at ss s3b ⊢
  have s4 := s3b.writeAt (k := 1) (p := 2) (by omega) (by omega) (by rw [q3b]; omega) 78 1073741824 0 true
  have lw := last_write (M := M3b) (k := 1) (p := 2) (by omega) 78 1073741824 0 true
  have mw := fun i => msg_write (M := M3b) (k := 1) (p := 2) (by omega) 78 1073741824 0 true (i := i)
  have wh := writeAt_hist M3b 1 2 78 1073741824 0 true 0 (by omega)
  have n4 := writeAt_len M3b 1 2 78 1073741824 0 true
  have v4 : (M3b.writeAt 1 2 78 1073741824 0 true).vs.length = M3b.vs.length := by simp [Mem.writeAt]
  obtain ⟨M4, hM4⟩ : ∃ M, M3b.writeAt 1 2 78 1073741824 0 true = M := ⟨_, rfl⟩
  rw [hM4] at s4 lw mw wh n4 v4 ss ⊢
  rw [if_neg (by omega)] at wh
  rw [l2] at ss
  have lb2 : (M3b.hist 2).length = (M0.hist 2).length := by rw [q3b, l2]
  have e4 := lw.1
  have k4 := lw.2
  rw [lb2] at e4
  rw [e4] at k4
  have h4 : (M4.hist 0).length = L0 + 1 := by rw [wh, q3b]; exact l0
  have rs4 := read_sees s4 (k := 2) (p := 2) (i := (M0.hist 2).length) (by omega) (by omega) (by omega) (by omega) 0
  refine ⟨_, _, _, ⟨n3, v3⟩, ⟨by omega, by omega⟩, fun z => ?_, by rw [w3]; exact w0, l2, ⟨rfl, rfl, rfl⟩, e4, k4, fun j hj => ?_, h4, ?_, fun z => ?_⟩
  · rw [l0, chooseL_last (by omega) (by omega)]; omega
  · rw [mw j (by rw [lb2]; exact hj)]
    have : M3b.msg 2 j = (M0.hist 2).getD j zeroMsg := by unfold Mem.msg; rw [q3b, q3, P.h2]
    rw [this]; exact getD_any hno hj
  · have : M4.msg 0 L0 = M2.msg 0 L0 := by unfold Mem.msg; rw [wh, q3b, q3]
    rw [this]; exact w0
  · rw [readAt_hist, h4, chooseL_last (by omega) (by omega)]; omega
end Go.Proofs.Ytbaljoehgdhhhaa
