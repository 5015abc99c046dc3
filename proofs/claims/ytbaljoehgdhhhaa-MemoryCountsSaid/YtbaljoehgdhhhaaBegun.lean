/- few and begun: the memory behind the operations of a case. -/
import Derived.Test.YtbaljoehgdhhhaaDoAny
import Derived.Test.YtbaljoehgdhhhaaNew
import Derived.Deep.LoopGhost
namespace Go.Proofs.Ytbaljoehgdhhhaa
open Go.RowKit Go.Shelf Go.Maps

def zeroDo : DoV := ⟨0, 0, 0, 0, 0, 0, 0, 0, 0, 0⟩
/-- The slice v holds the operations l. -/
def IsDos (w : World) (v : Value) (l : List DoV) : Prop :=
  (∃ a cap, v = .slice a 0 cap ∧ l = []) ∨ ∃ b off cap, v = .slice (some ⟨b, off, none⟩) l.length cap ∧ b < w.heap.size ∧ ∀ i, i < l.length → w.cell? ⟨b, off + i * 10, none⟩ = some (.int .i64 (l.getD i zeroDo).t) ∧ w.cell? ⟨b, off + i * 10 + 1, none⟩ = some (.int .i64 (l.getD i zeroDo).op) ∧ w.cell? ⟨b, off + i * 10 + 2, none⟩ = some (.int .i64 (l.getD i zeroDo).at_) ∧ w.cell? ⟨b, off + i * 10 + 3, none⟩ = some (.int .i64 (l.getD i zeroDo).oa) ∧ w.cell? ⟨b, off + i * 10 + 4, none⟩ = some (.int .u32 (l.getD i zeroDo).ob) ∧ w.cell? ⟨b, off + i * 10 + 5, none⟩ = some (.int .u32 (l.getD i zeroDo).oc) ∧ w.cell? ⟨b, off + i * 10 + 6, none⟩ = some (.int .i64 (l.getD i zeroDo).na) ∧ w.cell? ⟨b, off + i * 10 + 7, none⟩ = some (.int .u32 (l.getD i zeroDo).nb) ∧ w.cell? ⟨b, off + i * 10 + 8, none⟩ = some (.int .u32 (l.getD i zeroDo).nc) ∧ w.cell? ⟨b, off + i * 10 + 9, none⟩ = some (.int .i64 (l.getD i zeroDo).z)
theorem IsDos.below {w w1 : World} {v : Value} {l : List DoV} (h : IsDos w v l) (hb : Below w.heap.size w w1) : IsDos w1 v l := by
  rcases h with h | ⟨b, off, cap, h1, h2, h3⟩
  · exact .inl h
  · refine .inr ⟨b, off, cap, h1, Nat.lt_of_lt_of_le h2 hb.size, fun i hi => ?_⟩
    obtain ⟨c0, c1, c2, c3, c4, c5, c6, c7, c8, c9⟩ := h3 i hi
    exact ⟨(hb.cell h2).trans c0, (hb.cell h2).trans c1, (hb.cell h2).trans c2, (hb.cell h2).trans c3, (hb.cell h2).trans c4, (hb.cell h2).trans c5, (hb.cell h2).trans c6, (hb.cell h2).trans c7, (hb.cell h2).trans c8, (hb.cell h2).trans c9⟩
theorem IsDos.slice {w : World} {v : Value} {l : List DoV} (h : IsDos w v l) : ∃ a cap, v = .slice a l.length cap := by
  rcases h with ⟨a, cap, rfl, rfl⟩ | ⟨b, off, cap, rfl, -, -⟩
  · exact ⟨a, cap, rfl⟩
  · exact ⟨_, cap, rfl⟩
def DosOk (l : List DoV) : Prop := ∀ d ∈ l, d.Ok
theorem dosOk_at {l : List DoV} (h : DosOk l) {i : Nat} (hi : i < l.length) : (l.getD i zeroDo).Ok := h _ (by
  rw [List.getD_eq_getElem?_getD, List.getElem?_eq_getElem hi]; exact List.getElem_mem hi)
/-- The memory behind a list of operations. -/
def Mem.ress (M : Mem) (l : List DoV) : Mem := l.foldl (fun M d => (M.res d).1) M
theorem ress_take (M : Mem) {l : List DoV} {k : Nat} (hk : k < l.length) : M.ress (l.take (k + 1)) = ((M.ress (l.take k)).res (l.getD k zeroDo)).1 := by
  unfold Mem.ress
  rw [List.take_add_one, List.getElem?_eq_getElem hk, List.getD_eq_getElem?_getD, List.getElem?_eq_getElem hk]
  simp only [List.foldl_append, Option.toList, List.foldl_cons, List.foldl_nil, Option.getD]
theorem ress_good {N : Nat} {M : Mem} (h : M.Good N) (l : List DoV) : (M.ress l).Good (N + l.length) ∧ (M.ress l).hs.length = M.hs.length ∧ (M.ress l).vs.length = M.vs.length := by
  unfold Mem.ress
  induction l generalizing M N with
  | nil => exact ⟨h, rfl, rfl⟩
  | cons d r ih =>
    obtain ⟨g, e1, e2⟩ := h.res d
    obtain ⟨g', e1', e2'⟩ := ih g
    exact ⟨g'.mono (by simp; omega), e1'.trans e1, e2'.trans e2⟩

set_option maxRecDepth 100000 in
set_option maxHeartbeats 800000 in
theorem few_any (T : Int) (a1 a2 : Option Addr) (n1 c1 n2 c2 : Nat) (w : World) :
    Calls Try.prog 10 #[.agg #[.int .i64 T, .slice a1 n1 c1, .slice a2 n2 c2]] w fun e w' => e = .returned (.bool (decide (n1 ≤ 8 ∧ n2 ≤ 40))) ∧ Below w.heap.size w w' := by
  have BB := Lib.hid (below_new w (.cells #[.int .i64 T, .slice a1 n1 c1, .slice a2 n2 c2] 25))
  by_cases h1 : n1 ≤ 8
  · by_cases h2 : n2 ≤ 40
    · rw [show decide (n1 ≤ 8 ∧ n2 ≤ 40) = true by simp; omega]
      go_enter Try.func10, Try.ntmps10
      go_wp2
      go_ret
      exact ⟨by simp; omega, BB.out⟩
    · rw [show decide (n1 ≤ 8 ∧ n2 ≤ 40) = false by simp; omega]
      go_enter Try.func10, Try.ntmps10
      go_wp2
      go_ret
      exact ⟨by simp; omega, BB.out⟩
  · rw [show decide (n1 ≤ 8 ∧ n2 ≤ 40) = false by simp; omega]
    go_enter Try.func10, Try.ntmps10
    go_wp2
    go_ret
    exact ⟨by simp, BB.out⟩

structure DoAt (w : World) (b o : Nat) (d : DoV) : Prop where
  lt : b < w.heap.size
  c : w.cell? ⟨b, o, none⟩ = some (.int .i64 d.t) ∧ w.cell? ⟨b, o + 1, none⟩ = some (.int .i64 d.op) ∧ w.cell? ⟨b, o + 2, none⟩ = some (.int .i64 d.at_) ∧ w.cell? ⟨b, o + 3, none⟩ = some (.int .i64 d.oa) ∧ w.cell? ⟨b, o + 4, none⟩ = some (.int .u32 d.ob) ∧ w.cell? ⟨b, o + 5, none⟩ = some (.int .u32 d.oc) ∧ w.cell? ⟨b, o + 6, none⟩ = some (.int .i64 d.na) ∧ w.cell? ⟨b, o + 7, none⟩ = some (.int .u32 d.nb) ∧ w.cell? ⟨b, o + 8, none⟩ = some (.int .u32 d.nc) ∧ w.cell? ⟨b, o + 9, none⟩ = some (.int .i64 d.z)
theorem DoAt.below {w w1 : World} {b o : Nat} {d : DoV} (h : DoAt w b o d) (hb : Below w.heap.size w w1) : DoAt w1 b o d := by
  obtain ⟨h2, c0, c1, c2, c3, c4, c5, c6, c7, c8, c9⟩ := h
  exact ⟨Nat.lt_of_lt_of_le h2 hb.size, (hb.cell h2).trans c0, (hb.cell h2).trans c1, (hb.cell h2).trans c2, (hb.cell h2).trans c3, (hb.cell h2).trans c4, (hb.cell h2).trans c5, (hb.cell h2).trans c6, (hb.cell h2).trans c7, (hb.cell h2).trans c8, (hb.cell h2).trans c9⟩
theorem DoAt.only {w w1 : World} {b o b' : Nat} {d : DoV} (h : DoAt w b o d) (hne : b ≠ b') (ho : Only b' w w1) : DoAt w1 b o d := by
  have e : ∀ j, w1.cell? ⟨b, j, none⟩ = w.cell? ⟨b, j, none⟩ := fun j => World.cell?_of_block (ho.block b hne)
  refine ⟨by rw [ho.size]; exact h.lt, ?_⟩
  simp only [e]
  exact h.c
theorem IsDos.only {w w' : World} {b n cap b' off : Nat} {l : List DoV} (h : IsDos w (.slice (some ⟨b, off, none⟩) n cap) l) (hne : b ≠ b') (ho : Only b' w w') : IsDos w' (.slice (some ⟨b, off, none⟩) n cap) l := by
  rcases h with h | ⟨b1, off1, cap1, e, hb, hc⟩
  · exact .inl h
  · simp only [Value.slice.injEq, Option.some.injEq, Addr.mk.injEq, and_true] at e
    obtain ⟨⟨rfl, rfl⟩, rfl, rfl⟩ := e
    refine .inr ⟨b, off, cap, rfl, by rw [ho.size]; exact hb, fun i hi => ?_⟩
    have e : ∀ j, w'.cell? ⟨b, j, none⟩ = w.cell? ⟨b, j, none⟩ := fun j => World.cell?_of_block (ho.block b hne)
    simp only [e]
    exact hc i hi

theorem IsDos.first {w : World} {b off n cap : Nat} {l : List DoV} (h : IsDos w (.slice (some ⟨b, off, none⟩) n cap) l) (hl : 0 < l.length) : b < w.heap.size := by
  rcases h with ⟨_, _, _, rfl⟩ | ⟨b1, off1, cap1, e, hb, hc⟩
  · simp at hl
  · simp only [Value.slice.injEq, Option.some.injEq, Addr.mk.injEq, and_true] at e
    obtain ⟨⟨rfl, rfl⟩, _⟩ := e
    exact hb

structure AtB (w : World) (b1 b2 b4 T n1 n2 : Nat) (cb : Array Value) (M : Mem) (v : Value) (l : List DoV) (W : World) : Prop where
  x1 : Box W b1 cb 25
  x2 : Box W b2 #[.slice none 0 0, .slice none 0 0] 31
  h : ∃ p q, Box W b4 #[.slice p n1 n1, .slice q T T] 31 ∧ MD (fun b => w.heap.size ≤ b ∧ b ≠ b4 ∧ b ≠ b2) W (.slice p n1 n1) (.slice q T T) M
  d : IsDos W v l
  g : Below w.heap.size w W

set_option maxRecDepth 100000 in
set_option maxHeartbeats 6400000 in
theorem begun_ok (T : Nat) (b off c1 : Nat) (ws : List Wd) (v : Value) (l : List DoV) (w : World) (h0 : 0 < ws.length) (h1 : ws.length ≤ 8) (t0 : 1 ≤ T) (t1 : T ≤ 8) (hbl : b < w.heap.size)
    (hc : ∀ i, i < ws.length → w.cell? ⟨b, off + i * 3, none⟩ = some (.int .i64 (ws.getD i (0, 0, 0)).1) ∧ w.cell? ⟨b, off + i * 3 + 1, none⟩ = some (.int .u32 (ws.getD i (0, 0, 0)).2.1) ∧ w.cell? ⟨b, off + i * 3 + 2, none⟩ = some (.int .u32 (ws.getD i (0, 0, 0)).2.2))
    (hd : IsDos w v l) (hl : l.length ≤ 40) (hok : DosOk l) :
    Calls Try.prog 16 #[.agg #[.int .i64 T, .slice (some ⟨b, off, none⟩) ws.length c1, v]] w fun e w' => ∃ pv vv, e = .returned (.tuple #[.agg #[pv, vv], .bool true]) ∧ MD (fun b => w.heap.size ≤ b) w' pv vv ((newMem T ws).ress l) ∧ Below w.heap.size w w' := by
  obtain ⟨y2, c2, rfl⟩ := hd.slice
  obtain ⟨n1, hn1⟩ : ∃ n, ws.length = n := ⟨_, rfl⟩
  obtain ⟨n2, hn2⟩ : ∃ n, l.length = n := ⟨_, rfl⟩
  have HC := Lib.hid hc
  have HN1 := Lib.hid hn1
  have HN2 := Lib.hid hn2
  have HOK := Lib.hid hok
  have HW1 := Lib.hid h0
  have hbb := b2 w (.cells #[.int .i64 T, .slice (some ⟨b, off, none⟩) n1 c1, .slice y2 n2 c2] 25) (.cells #[.slice none 0 0, .slice none 0 0] 31)
  rw [hn1] at h0 h1 ⊢
  rw [hn2] at hd hl ⊢
  clear hc hok
  have X1 := Lib.hid (Box.alloc (Box.new w #[.int .i64 T, .slice (some ⟨b, off, none⟩) n1 c1, .slice y2 n2 c2] 25 rfl) (.cells #[.slice none 0 0, .slice none 0 0] 31))
  have X2 := Lib.hid (Box.new (w.alloc (.cells #[.int .i64 T, .slice (some ⟨b, off, none⟩) n1 c1, .slice y2 n2 c2] 25)) #[.slice none 0 0, .slice none 0 0] 31 (n := w.heap.size + 1) (by simp))
  have HDI := Lib.hid hd
  have DD := Lib.hid (hd.below hbb)
  have BB := Lib.hid hbb
  clear hd hbb
  go_enter Try.func16, Try.ntmps16
  go_upto_region 1 with fail
  generalize (w.alloc (.cells #[.int .i64 T, .slice (some ⟨b, off, none⟩) n1 c1, .slice y2 n2 c2] 25)).alloc (.cells #[.slice none 0 0, .slice none 0 0] 31) = W0 at *
  obtain ⟨b2, hb2⟩ : ∃ br, w.heap.size + 1 = br := ⟨_, rfl⟩
  obtain ⟨b1, hb1⟩ : ∃ bp, w.heap.size = bp := ⟨_, rfl⟩
  have hbq := hb1
  rw [hb2] at X2 ⊢
  rw [hb1] at X1 hb2 ⊢
  obtain ⟨⟨m0, m1, m2⟩, -⟩ := X1.out.cells3
  go_wp2_with fail
  clear m0 m1 m2
  have hsz0 := BB.out.size
  have hx2 := X2.out.lt
  have hnw := new_ok T b off c1 ws W0 HW1.out (by rw [HN1.out]; omega) t0 t1 (by omega) (fun i hi => by obtain ⟨c0, c1, c2⟩ := HC.out i hi; exact ⟨(BB.out.cell hbl).trans c0, (BB.out.cell hbl).trans c1, (BB.out.cell hbl).trans c2⟩)
  rw [HN1.out] at hnw
  refine (hnw).mono ?_
  rintro e a0 ⟨pv, vv, rfl, hm, hb⟩
  have X1' := Lib.hid (X1.out.below (hb))
  have X2' := Lib.hid (X2.out.below (hb))
  have DD' := Lib.hid (DD.out.below (hb))
  have BB' := Lib.hid (BB.out.trans ((hb).mono BB.out.size))
  clear X1
  have X1 := X1'
  clear X1'
  clear X2
  have X2 := X2'
  clear X2'
  clear DD
  have DD := DD'
  clear DD'
  clear BB
  have BB := BB'
  clear BB'
  clear hb
  have MM := Lib.hid (hm)
  clear hm hnw
  have M0 : Hid ((newMem T ws).hs.length = n1 ∧ (newMem T ws).vs.length = T) := Lib.hid ⟨by simp [newMem, HN1.out], by simp [newMem]⟩
  obtain ⟨p0, q0, e1, e2⟩ : ∃ u1 u2, pv = .slice u1 n1 n1 ∧ vv = .slice u2 T T := MM.out.sl M0.out.1 M0.out.2
  subst e1 e2
  go_upto_region 2 with fail
  have MM' := Lib.hid MM.out.addlt
  clear MM
  have MM := MM'
  clear MM'
  have hlt_b4 := BB.out.size
  have hlt_b4_X1 := X1.out.lt
  have hlt_b4_X2 := X2.out.lt
  have X1' := Lib.hid (X1.out.below (below_new a0 (.cells #[.slice p0 n1 n1, .slice q0 T T] 31)))
  have X2' := Lib.hid (X2.out.below (below_new a0 (.cells #[.slice p0 n1 n1, .slice q0 T T] 31)))
  have DD' := Lib.hid (DD.out.below (below_new a0 (.cells #[.slice p0 n1 n1, .slice q0 T T] 31)))
  have MM' := Lib.hid (MM.out.below (below_new a0 (.cells #[.slice p0 n1 n1, .slice q0 T T] 31)))
  have BB' := Lib.hid (BB.out.trans ((below_new a0 (.cells #[.slice p0 n1 n1, .slice q0 T T] 31)).mono BB.out.size))
  clear X1
  have X1 := X1'
  clear X1'
  clear X2
  have X2 := X2'
  clear X2'
  clear DD
  have DD := DD'
  clear DD'
  clear MM
  have MM := MM'
  clear MM'
  clear BB
  have BB := BB'
  clear BB'
  have B4 := Lib.hid (Box.new a0 #[.slice p0 n1 n1, .slice q0 T T] 31 rfl)
  have hsz_b4 : (World.alloc a0 (.cells #[.slice p0 n1 n1, .slice q0 T T] 31)).heap.size = (World.heap a0).size + 1 := by simp
  generalize World.alloc a0 (.cells #[.slice p0 n1 n1, .slice q0 T T] 31) = a1 at *
  generalize World.heap a0 = hp_b4 at *
  generalize hp_b4.size = b4 at *
  have MM' := Lib.hid (MM.out.imp (D' := fun b => w.heap.size ≤ b ∧ b ≠ b4 ∧ b ≠ b2) (fun b hb => ⟨by have := hb.1; omega, Nat.ne_of_lt hb.2, by have := hb.1; omega⟩))
  clear MM
  have MM := MM'
  clear MM'
  obtain ⟨⟨m0, m1, m2⟩, -⟩ := X1.out.cells3
  go_wp2_with fail
  clear m0 m1 m2
  refine (few_any _ _ _ n1 c1 n2 c2 _).mono ?_
  rintro e a2 ⟨rfl, hb⟩
  have X1' := Lib.hid (X1.out.below (hb))
  have X2' := Lib.hid (X2.out.below (hb))
  have DD' := Lib.hid (DD.out.below (hb))
  have MM' := Lib.hid (MM.out.below (hb))
  have B4' := Lib.hid (B4.out.below (hb))
  have BB' := Lib.hid (BB.out.trans ((hb).mono BB.out.size))
  clear X1
  have X1 := X1'
  clear X1'
  clear X2
  have X2 := X2'
  clear X2'
  clear DD
  have DD := DD'
  clear DD'
  clear MM
  have MM := MM'
  clear MM'
  clear B4
  have B4 := B4'
  clear B4'
  clear BB
  have BB := BB'
  clear BB'
  clear hb
  rw [show decide (n1 ≤ 8 ∧ n2 ≤ 40) = true by simp; omega]
  go_wp2_with fail
  have GG := Lib.hid (newMem_good T ws (by rw [HN1.out]; omega) t1)
  go_loopw [6] (fun iv wr => ∃ k : Nat, k ≤ n2 ∧ iv = .int .i64 k ∧ AtB w b1 b2 b4 T n1 n2 #[.int .i64 T, .slice (some ⟨b, off, none⟩) n1 c1, .slice y2 n2 c2] ((newMem T ws).ress (l.take k)) (.slice y2 n2 c2) l wr) (fun iv _ => n2 - (intOf iv).toNat)
  case atStart => exact ⟨0, by omega, by simp, X1.out, X2.out, ⟨p0, q0, B4.out, MM.out⟩, DD.out, BB.out⟩
  case round =>
    obtain ⟨k, hk, rfl, X1', X2', ⟨p, q, B4', MM'⟩, DD', BB'⟩ := hrel
    clear X1 X2 B4 MM DD BB
    have X1 := Lib.hid X1'
    clear X1'
    have X2 := Lib.hid X2'
    clear X2'
    have B4 := Lib.hid B4'
    clear B4'
    have MM := Lib.hid MM'
    clear MM'
    have DD := Lib.hid DD'
    clear DD'
    have BB := Lib.hid BB'
    clear BB'
    by_cases hlt : k < n2
    · skip
      rcases DD.out with ⟨a', cap', he, hl0⟩ | ⟨bo, oo, cap', he, hbo, hco⟩
      · exfalso; have hz := HN2.out; rw [hl0] at hz; simp at hz; omega
      have hco := hco k (by rw [HN2.out]; exact hlt)
      have OO := Lib.hid (dosOk_at HOK.out (i := k) (by rw [HN2.out]; exact hlt))
      have HT := Lib.hid (ress_take (newMem T ws) (l := l) (k := k) (by rw [HN2.out]; exact hlt))
      have gk := ress_good GG.out (l.take k)
      have hkl : (l.take k).length = k := by rw [List.length_take, HN2.out]; omega
      rw [hkl] at gk
      have gk2 := gk.1.res (l.getD k zeroDo)
      have GK := Lib.hid gk
      have GK2 := Lib.hid gk2
      clear gk gk2
      generalize (newMem T ws).ress (l.take k) = M at *
      generalize l.getD k zeroDo = d at *
      rw [HN2.out] at he
      simp only [Value.slice.injEq] at he
      obtain ⟨rfl, -, rfl⟩ := he
      have HCO := Lib.hid hco
      clear hco
      obtain ⟨⟨m0, m1, m2⟩, -⟩ := X1.out.cells3
      go_upto_region 7 with fail
      clear m0 m1 m2
      have hbo0 : bo < w.heap.size := HDI.out.first (by rw [HN2.out]; omega)
      have DC : Hid (DoAt wr bo (oo + k * 10) d) := Lib.hid ⟨hbo, HCO.out⟩
      have X1' := Lib.hid (X1.out.below ((Below.refl _ _).drew))
      have X2' := Lib.hid (X2.out.below ((Below.refl _ _).drew))
      have B4' := Lib.hid (B4.out.below ((Below.refl _ _).drew))
      have MM' := Lib.hid (MM.out.below ((Below.refl _ _).drew))
      have DD' := Lib.hid (DD.out.below ((Below.refl _ _).drew))
      have DC' := Lib.hid (DC.out.below ((Below.refl _ _).drew))
      have BB' := Lib.hid (BB.out.trans (((Below.refl _ _).drew).mono BB.out.size))
      clear X1
      have X1 := X1'
      clear X1'
      clear X2
      have X2 := X2'
      clear X2'
      clear B4
      have B4 := B4'
      clear B4'
      clear MM
      have MM := MM'
      clear MM'
      clear DD
      have DD := DD'
      clear DD'
      clear DC
      have DC := DC'
      clear DC'
      clear BB
      have BB := BB'
      clear BB'
      refine wp_region_held_drew (S := fun w' => w'.cell? ⟨b1, 2, none⟩ = some (.slice (some ⟨bo, oo, none⟩) n2 c2) ∧ w'.cell? ⟨bo, oo + k * 10, none⟩ = some (.int .i64 d.t) ∧ w'.cell? ⟨bo, oo + k * 10 + 1, none⟩ = some (.int .i64 d.op) ∧ w'.cell? ⟨bo, oo + k * 10 + 2, none⟩ = some (.int .i64 d.at_) ∧ w'.cell? ⟨bo, oo + k * 10 + 3, none⟩ = some (.int .i64 d.oa) ∧ w'.cell? ⟨bo, oo + k * 10 + 4, none⟩ = some (.int .u32 d.ob) ∧ w'.cell? ⟨bo, oo + k * 10 + 5, none⟩ = some (.int .u32 d.oc) ∧ w'.cell? ⟨bo, oo + k * 10 + 6, none⟩ = some (.int .i64 d.na) ∧ w'.cell? ⟨bo, oo + k * 10 + 7, none⟩ = some (.int .u32 d.nb) ∧ w'.cell? ⟨bo, oo + k * 10 + 8, none⟩ = some (.int .u32 d.nc) ∧ w'.cell? ⟨bo, oo + k * 10 + 9, none⟩ = some (.int .i64 d.z)) (by kernel_rfl) ⟨X1.out.cells3.1.2.2, DC.out.c.1, DC.out.c.2.1, DC.out.c.2.2.1, DC.out.c.2.2.2.1, DC.out.c.2.2.2.2.1, DC.out.c.2.2.2.2.2.1, DC.out.c.2.2.2.2.2.2.1, DC.out.c.2.2.2.2.2.2.2.1, DC.out.c.2.2.2.2.2.2.2.2.1, DC.out.c.2.2.2.2.2.2.2.2.2⟩ (fun hHeld => ?_)
      generalize World.drew wr = V0 at *
      refine wpAnyH_take (i := 1) (oi := { dst := some 32, op := Op.fieldAddr 25 (Operand.tmp 1) 2, type := 0, pos := "law.go:133", after := #[], guard := none }) (v := ?d1_1xv1) rfl (by kernel_rfl) (by kernel_rfl) (by kernel_rfl) (fun _ _ _ h => h) (Or.inl ⟨by rfl, ?d1_1xy1⟩) (by assumption) ?d1_1xr1
      case d1_1xy1 => (intro w hSw; (try dsimp only at hSw); go_simp; try with_reducible rfl)
      (try simp only [Act.put])
      (try simp only [List.setIfInBounds_toArray])
      (try simp only [List.set_cons_succ])
      (try simp only [List.set_cons_zero])
      refine wpAnyH_take (i := 2) (oi := { dst := some 33, op := Op.load 23 (Operand.tmp 32), type := 23, pos := "law.go:133", after := #[{ on := 1, ground := Ground.data }], guard := none }) (v := ?d1_2xv2) rfl (by kernel_rfl) (by kernel_rfl) (by kernel_rfl) (fun _ _ _ h => h) (Or.inl ⟨by rfl, ?d1_2xy2⟩) (by assumption) ?d1_2xr2
      case d1_2xy2 => (intro w hSw; (try dsimp only at hSw); go_simp; try with_reducible rfl)
      (try simp only [Act.put])
      (try simp only [List.setIfInBounds_toArray])
      (try simp only [List.set_cons_succ])
      (try simp only [List.set_cons_zero])
      refine wpAnyH_take (i := 3) (oi := { dst := some 34, op := Op.move (Operand.tmp 6), type := 3, pos := "law.go:133", after := #[], guard := none }) (v := ?d1_3xv3) rfl (by kernel_rfl) (by kernel_rfl) (by kernel_rfl) (fun _ _ _ h => h) (Or.inl ⟨by rfl, ?d1_3xy3⟩) (by assumption) ?d1_3xr3
      case d1_3xy3 => (intro w hSw; (try dsimp only at hSw); go_simp; try with_reducible rfl)
      (try simp only [Act.put])
      (try simp only [List.setIfInBounds_toArray])
      (try simp only [List.set_cons_succ])
      (try simp only [List.set_cons_zero])
      refine wpAnyH_take (i := 4) (oi := { dst := some 35, op := Op.indexAddr 23 (Operand.tmp 33) (Operand.tmp 34), type := 0, pos := "law.go:133", after := #[{ on := 2, ground := Ground.data }, { on := 3, ground := Ground.data }], guard := none }) (v := ?d1_4xv4) rfl (by kernel_rfl) (by kernel_rfl) (by kernel_rfl) (fun _ _ _ h => h) (Or.inl ⟨by rfl, ?d1_4xy4⟩) (by assumption) ?d1_4xr4
      case d1_4xy4 => (intro w hSw; (try dsimp only at hSw); go_simp; try with_reducible rfl)
      (try simp only [Act.put])
      (try simp only [List.setIfInBounds_toArray])
      (try simp only [List.set_cons_succ])
      (try simp only [List.set_cons_zero])
      refine wpAnyH_take (i := 5) (oi := { dst := some 36, op := Op.load 49 (Operand.tmp 35), type := 49, pos := "law.go:133", after := #[{ on := 4, ground := Ground.data }], guard := none }) (v := ?d1_5xv5) rfl (by kernel_rfl) (by kernel_rfl) (by kernel_rfl) (fun _ _ _ h => h) (Or.inl ⟨by rfl, ?d1_5xy5⟩) (by assumption) ?d1_5xr5
      case d1_5xy5 => (intro w hSw; (try dsimp only at hSw); go_simp; try with_reducible rfl)
      (try simp only [Act.put])
      (try simp only [List.setIfInBounds_toArray])
      (try simp only [List.set_cons_succ])
      (try simp only [List.set_cons_zero])
      refine wpAnyH_ready (rs := [0]) (by kernel_rfl) (by simp) ?_
      refine AllReadyH.cons (o := { dst := some 31, op := Op.load 31 (Operand.tmp 4), type := 31, pos := "law.go:133", after := #[], guard := none }) rfl (fun K hK => ?_) AllReadyH.nil
      obtain ⟨⟨c0, c1⟩, -⟩ := B4.out.cells2
      go_simp
      clear c0 c1
      refine hK.out _ _ ?_ (fun hHeld => ?_)
      · exact ⟨X1.out.cells3.1.2.2, DC.out.c.1, DC.out.c.2.1, DC.out.c.2.2.1, DC.out.c.2.2.2.1, DC.out.c.2.2.2.2.1, DC.out.c.2.2.2.2.2.1, DC.out.c.2.2.2.2.2.2.1, DC.out.c.2.2.2.2.2.2.2.1, DC.out.c.2.2.2.2.2.2.2.2.1, DC.out.c.2.2.2.2.2.2.2.2.2⟩
      clear hK K
      (try simp only [Act.put])
      (try simp only [List.setIfInBounds_toArray])
      (try simp only [List.set_cons_succ])
      (try simp only [List.set_cons_zero])
      refine wpAnyH_ready (rs := [6]) (by kernel_rfl) (by simp) ?_
      refine AllReadyH.cons (o := { dst := some 37, op := Op.call { callee := Callee.value (Operand.func 14), args := #[Operand.tmp 31, Operand.tmp 36], argTypes := #[31, 49] }, type := 50, pos := "law.go:133", after := #[{ on := 0, ground := Ground.data }, { on := 5, ground := Ground.data }], guard := none }) rfl (fun K hK => ?_) AllReadyH.nil
      go_simp
      go_at_call 14
      have r1 := X2.out.lt
      have r2 := B4.out.lt
      have r3 := BB.out.size
      refine (do_any _ _ M (1 + k) d _ _ MM.out GK.out.1 (by omega) OO.out).mono ?_
      rintro e v1 ⟨pv, vv, rfl, hm, hb⟩
      have X1' := Lib.hid (X1.out.below (hb))
      have X2' := Lib.hid (X2.out.below (hb))
      have B4' := Lib.hid (B4.out.below (hb))
      have MM' := Lib.hid (MM.out.below (hb))
      have DD' := Lib.hid (DD.out.below (hb))
      have DC' := Lib.hid (DC.out.below (hb))
      have BB' := Lib.hid (BB.out.trans ((hb).mono BB.out.size))
      clear X1
      have X1 := X1'
      clear X1'
      clear X2
      have X2 := X2'
      clear X2'
      clear B4
      have B4 := B4'
      clear B4'
      clear MM
      have MM := MM'
      clear MM'
      clear DD
      have DD := DD'
      clear DD'
      clear DC
      have DC := DC'
      clear DC'
      clear BB
      have BB := BB'
      clear BB'
      clear hb
      have MN := Lib.hid (hm)
      clear MM
      clear hm
      obtain ⟨p', q', e1, e2⟩ := MN.out.sl (np := n1) (nv := T) (by rw [GK2.out.2.1, GK.out.2.1, M0.out.1]) (by rw [GK2.out.2.2, GK.out.2.2, M0.out.2])
      subst e1 e2
      have MN' := Lib.hid (MN.out.imp (D' := fun b => w.heap.size ≤ b ∧ b ≠ b4 ∧ b ≠ b2) (fun b hb => by
        rcases hb with hb | hb
        · exact hb
        · exact ⟨by omega, by omega, by omega⟩))
      clear MN
      have MN := MN'
      clear MN'
      go_simp
      refine hK.out _ _ ?_ (fun hHeld => ?_)
      · exact ⟨X1.out.cells3.1.2.2, DC.out.c.1, DC.out.c.2.1, DC.out.c.2.2.1, DC.out.c.2.2.2.1, DC.out.c.2.2.2.2.1, DC.out.c.2.2.2.2.2.1, DC.out.c.2.2.2.2.2.2.1, DC.out.c.2.2.2.2.2.2.2.1, DC.out.c.2.2.2.2.2.2.2.2.1, DC.out.c.2.2.2.2.2.2.2.2.2⟩
      clear hK K
      (try simp only [Act.put])
      (try simp only [List.setIfInBounds_toArray])
      (try simp only [List.set_cons_succ])
      (try simp only [List.set_cons_zero])
      refine wpAnyH_take (i := 7) (oi := { dst := some 30, op := Op.move (Operand.tmp 37), type := 50, pos := "law.go:133", after := #[{ on := 6, ground := Ground.data }], guard := none }) (v := ?d2_6xv7) rfl (by kernel_rfl) (by kernel_rfl) (by kernel_rfl) (fun _ _ _ h => h) (Or.inl ⟨by rfl, ?d2_6xy7⟩) (by assumption) ?d2_6xr7
      case d2_6xy7 => (intro w hSw; (try dsimp only at hSw); go_simp; try with_reducible rfl)
      (try simp only [Act.put])
      (try simp only [List.setIfInBounds_toArray])
      (try simp only [List.set_cons_succ])
      (try simp only [List.set_cons_zero])
      refine wpAnyH_take (i := 8) (oi := { dst := some 38, op := Op.extract (Operand.tmp 30) 0, type := 31, pos := "law.go:133", after := #[{ on := 7, ground := Ground.data }], guard := none }) (v := ?d2_7xv8) rfl (by kernel_rfl) (by kernel_rfl) (by kernel_rfl) (fun _ _ _ h => h) (Or.inl ⟨by rfl, ?d2_7xy8⟩) (by assumption) ?d2_7xr8
      case d2_7xy8 => (intro w hSw; (try dsimp only at hSw); go_simp; try with_reducible rfl)
      (try simp only [Act.put])
      (try simp only [List.setIfInBounds_toArray])
      (try simp only [List.set_cons_succ])
      (try simp only [List.set_cons_zero])
      refine wpAnyH_take (i := 9) (oi := { dst := some 39, op := Op.extract (Operand.tmp 30) 1, type := 45, pos := "law.go:133", after := #[{ on := 7, ground := Ground.data }, { on := 12, ground := Ground.gcOnly Departure.lateStores }], guard := none }) (v := ?d2_8xv9) rfl (by kernel_rfl) (by kernel_rfl) (by kernel_rfl) (fun _ _ _ h => h) (Or.inl ⟨by rfl, ?d2_8xy9⟩) (by assumption) ?d2_8xr9
      case d2_8xy9 => (intro w hSw; (try dsimp only at hSw); go_simp; try with_reducible rfl)
      (try simp only [Act.put])
      (try simp only [List.setIfInBounds_toArray])
      (try simp only [List.set_cons_succ])
      (try simp only [List.set_cons_zero])
      refine wpAnyH_take (i := 10) (oi := { dst := some 40, op := Op.extract (Operand.tmp 30) 2, type := 4, pos := "law.go:133", after := #[{ on := 7, ground := Ground.data }, { on := 12, ground := Ground.gcOnly Departure.lateStores }], guard := none }) (v := ?d2_9xv10) rfl (by kernel_rfl) (by kernel_rfl) (by kernel_rfl) (fun _ _ _ h => h) (Or.inl ⟨by rfl, ?d2_9xy10⟩) (by assumption) ?d2_9xr10
      case d2_9xy10 => (intro w hSw; (try dsimp only at hSw); go_simp; try with_reducible rfl)
      (try simp only [Act.put])
      (try simp only [List.setIfInBounds_toArray])
      (try simp only [List.set_cons_succ])
      (try simp only [List.set_cons_zero])
      refine wpAnyH_take (i := 11) (oi := { dst := some 41, op := Op.extract (Operand.tmp 30) 3, type := 32, pos := "law.go:133", after := #[{ on := 7, ground := Ground.data }, { on := 12, ground := Ground.gcOnly Departure.lateStores }], guard := none }) (v := ?d2_10xv11) rfl (by kernel_rfl) (by kernel_rfl) (by kernel_rfl) (fun _ _ _ h => h) (Or.inl ⟨by rfl, ?d2_10xy11⟩) (by assumption) ?d2_10xr11
      case d2_10xy11 => (intro w hSw; (try dsimp only at hSw); go_simp; try with_reducible rfl)
      (try simp only [Act.put])
      (try simp only [List.setIfInBounds_toArray])
      (try simp only [List.set_cons_succ])
      (try simp only [List.set_cons_zero])
      refine wpAnyH_ready (rs := [12]) (by kernel_rfl) (by simp) ?_
      refine AllReadyH.cons (o := { dst := none, op := Op.store 31 (Operand.tmp 4) (Operand.tmp 38), type := 0, pos := "law.go:133", after := #[{ on := 8, ground := Ground.data }, { on := 6, ground := Ground.chain }, { on := 0, ground := Ground.phase }, { on := 1, ground := Ground.phase }, { on := 2, ground := Ground.phase }, { on := 3, ground := Ground.phase }, { on := 4, ground := Ground.phase }, { on := 5, ground := Ground.phase }, { on := 6, ground := Ground.phase }, { on := 7, ground := Ground.phase }, { on := 8, ground := Ground.phase }, { on := 9, ground := Ground.textOnly Departure.lateStores }, { on := 10, ground := Ground.textOnly Departure.lateStores }, { on := 11, ground := Ground.textOnly Departure.lateStores }], guard := none }) rfl (fun K hK => ?_) AllReadyH.nil
      obtain ⟨⟨m0, m1⟩, g0, g1⟩ := B4.out.cells2
      go_simp
      clear m0 g0 m1 g1
      have X1' := Lib.hid (X1.out.only (by omega) (((Only.refl b4 v1).set 0 (.slice p' n1 n1)).set 1 (.slice q' T T)))
      have X2' := Lib.hid (X2.out.only (by omega) (((Only.refl b4 v1).set 0 (.slice p' n1 n1)).set 1 (.slice q' T T)))
      have B4' := Lib.hid (((B4.out).set 0 (.slice p' n1 n1)).set 1 (.slice q' T T))
      have DD' := Lib.hid (DD.out.only (by omega) (((Only.refl b4 v1).set 0 (.slice p' n1 n1)).set 1 (.slice q' T T)))
      have DC' := Lib.hid (DC.out.only (by omega) (((Only.refl b4 v1).set 0 (.slice p' n1 n1)).set 1 (.slice q' T T)))
      have MN' := Lib.hid (MN.out.only B4.out (by simp) (((Only.refl b4 v1).set 0 (.slice p' n1 n1)).set 1 (.slice q' T T)))
      have BB' := Lib.hid (((BB.out).put b4 (by omega) 0 (.slice p' n1 n1)).put b4 (by omega) 1 (.slice q' T T))
      clear X1
      have X1 := X1'
      clear X1'
      clear X2
      have X2 := X2'
      clear X2'
      clear B4
      have B4 := B4'
      clear B4'
      clear DD
      have DD := DD'
      clear DD'
      clear DC
      have DC := DC'
      clear DC'
      clear MN
      have MN := MN'
      clear MN'
      clear BB
      have BB := BB'
      clear BB'
      generalize (World.setCell (World.setCell v1 ⟨b4, 0, none⟩ (.slice p' n1 n1)) ⟨b4, 1, none⟩ (.slice q' T T)) = v2 at *
      refine hK.out _ _ ?_ (fun hHeld => ?_)
      · exact ⟨X1.out.cells3.1.2.2, DC.out.c.1, DC.out.c.2.1, DC.out.c.2.2.1, DC.out.c.2.2.2.1, DC.out.c.2.2.2.2.1, DC.out.c.2.2.2.2.2.1, DC.out.c.2.2.2.2.2.2.1, DC.out.c.2.2.2.2.2.2.2.1, DC.out.c.2.2.2.2.2.2.2.2.1, DC.out.c.2.2.2.2.2.2.2.2.2⟩
      clear hK K
      (try simp only [Act.put])
      (try simp only [List.setIfInBounds_toArray])
      (try simp only [List.set_cons_succ])
      (try simp only [List.set_cons_zero])
      refine wpAnyH_done (by kernel_rfl) ?_ _
      have HF : Hid (AtB w b1 b2 b4 T n1 n2 #[.int .i64 T, .slice (some ⟨b, off, none⟩) n1 c1, .slice (some ⟨bo, oo, none⟩) n2 c2] (M.res d).1 (.slice (some ⟨bo, oo, none⟩) n2 c2) l v2) := Lib.hid ⟨X1.out, X2.out, ⟨p', q', B4.out, MN.out⟩, DD.out, BB.out⟩
      rw [← HT.out] at HF
      clear X1 X2 B4 MN DD DC BB hHeld
      go_wp2
      go_roundw
      case rel => exact ⟨k + 1, by omega, by simp, HF.out⟩
      case measure => (simp [intOf]; omega)
    · skip
      have he : k = n2 := by omega
      subst he
      rw [List.take_of_length_le (by rw [HN2.out]; exact Nat.le_refl _)] at MM
      obtain ⟨⟨m0, m1⟩, -⟩ := B4.out.cells2
      obtain ⟨⟨z0, z1, z2⟩, -⟩ := X1.out.cells3
      obtain ⟨⟨k0, k1⟩, f0, f1⟩ := X2.out.cells2
      have F1 := Lib.hid ((MM.out.only X2.out (by simp) (((Only.refl b2 wr).set 0 (.slice p n1 n1)).set 1 (.slice q T T))).imp (D' := fun b => w.heap.size ≤ b) (fun b hb => hb.1))
      have F2 := Lib.hid ((BB.out.put b2 (by omega) 0 (.slice p n1 n1)).put b2 (by omega) 1 (.slice q T T))
      obtain ⟨⟨e0, e1⟩, -⟩ := ((X2.out.set 0 (.slice p n1 n1)).set 1 (.slice q T T)).cells2
      clear X1 X2 B4 MM DD BB
      go_wp2
      refine bodyPost_ret (v := .tuple #[.agg #[.slice p n1 n1, .slice q T T], .bool true]) (by simp [results, Try.f16, go_sem, e0, e1]) rfl ?_
      exact ⟨_, _, rfl, F1.out, F2.out⟩
end Go.Proofs.Ytbaljoehgdhhhaa
