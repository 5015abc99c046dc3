/- do: loads and looks, where the thread and the address exist. -/
import Derived.Test.YtbaljoehgdhhhaaAsk
import Derived.Test.YtbaljoehgdhhhaaLook
import Derived.Deep.RegionHeld3
import Derived.Deep.DeepCutAuto
namespace Go.Proofs.Ytbaljoehgdhhhaa
open Go.RowKit Go.Shelf Go.Maps
theorem Box.all10 {w : World} {b : Nat} {x0 x1 x2 x3 x4 x5 x6 x7 x8 x9 : Value} {t : TypeId} (h : Box w b #[x0, x1, x2, x3, x4, x5, x6, x7, x8, x9] t) : w.cell? ⟨b, 0, none⟩ = some x0 ∧ w.cell? ⟨b, 1, none⟩ = some x1 ∧ w.cell? ⟨b, 2, none⟩ = some x2 ∧ w.cell? ⟨b, 3, none⟩ = some x3 ∧ w.cell? ⟨b, 4, none⟩ = some x4 ∧ w.cell? ⟨b, 5, none⟩ = some x5 ∧ w.cell? ⟨b, 6, none⟩ = some x6 ∧ w.cell? ⟨b, 7, none⟩ = some x7 ∧ w.cell? ⟨b, 8, none⟩ = some x8 ∧ w.cell? ⟨b, 9, none⟩ = some x9 := ⟨h.cell 0, h.cell 1, h.cell 2, h.cell 3, h.cell 4, h.cell 5, h.cell 6, h.cell 7, h.cell 8, h.cell 9⟩
theorem Box.all8 {w : World} {b : Nat} {x0 x1 x2 x3 x4 x5 x6 x7 : Value} {t : TypeId} (h : Box w b #[x0, x1, x2, x3, x4, x5, x6, x7] t) : w.cell? ⟨b, 0, none⟩ = some x0 ∧ w.cell? ⟨b, 1, none⟩ = some x1 ∧ w.cell? ⟨b, 2, none⟩ = some x2 ∧ w.cell? ⟨b, 3, none⟩ = some x3 ∧ w.cell? ⟨b, 4, none⟩ = some x4 ∧ w.cell? ⟨b, 5, none⟩ = some x5 ∧ w.cell? ⟨b, 6, none⟩ = some x6 ∧ w.cell? ⟨b, 7, none⟩ = some x7 := ⟨h.cell 0, h.cell 1, h.cell 2, h.cell 3, h.cell 4, h.cell 5, h.cell 6, h.cell 7⟩

theorem MD.addlt {D : Nat → Prop} {w : World} {pv vv : Value} {M : Mem} (h : MD D w pv vv M) : MD (fun b => D b ∧ b < w.heap.size) w pv vv M := by
  obtain ⟨P, V, h1, h2, h3, h4, h5, h6, h7, h8, h9⟩ := h
  refine ⟨P, V, h1, h2, h3, h4, h5, h6, fun a n c e => ⟨h7 a n c e, ?_⟩, fun a n c e => ⟨h8 a n c e, ?_⟩, fun x hx a n c e => ⟨h9 x hx a n c e, hw_lt (h2 x hx) a n c e⟩⟩
  · rcases h1 with ⟨e1, _⟩ | ⟨b, t, e1, hk⟩
    · rw [e] at e1; cases e1
    · rw [e] at e1
      simp only [Value.slice.injEq, Option.some.injEq] at e1
      rw [e1.1]; exact lt_block hk
  · rcases h4 with ⟨e1, _⟩ | ⟨b, t, e1, hk⟩
    · rw [e] at e1; cases e1
    · rw [e] at e1
      simp only [Value.slice.injEq, Option.some.injEq] at e1
      rw [e1.1]; exact lt_block hk
theorem MD.sl {D : Nat → Prop} {w : World} {pv vv : Value} {M : Mem} {np nv : Nat} (h : MD D w pv vv M) (e1 : M.hs.length = np) (e2 : M.vs.length = nv) : ∃ a1 a2, pv = .slice a1 np np ∧ vv = .slice a2 nv nv := by
  obtain ⟨a1, a2, h1, h2⟩ := h.mw.slices
  exact ⟨a1, a2, by rw [h1, e1], by rw [h2, e2]⟩

set_option maxRecDepth 100000 in
set_option maxHeartbeats 3200000 in
theorem do_load (pv vv : Value) (M : Mem) (N k p : Nat) (oa ob oc na nb nc z : Int) (w : World) (D : Nat → Prop) (h : MD D w pv vv M) (G : M.Good N) (hN : N ≤ 999) (hk : k < M.vs.length) (hpn : p < M.hs.length) (z0 : -9223372036854775808 ≤ z) (z1 : z < 9223372036854775808) :
    Calls Try.prog 14 #[.agg #[pv, vv], .agg #[.int .i64 ((k : Int) + 1), .int .i64 1, .int .i64 p, .int .i64 oa, .int .u32 ob, .int .u32 oc, .int .i64 na, .int .u32 nb, .int .u32 nc, .int .i64 z]] w fun e w' => ∃ pv' vv', e = .returned (.tuple #[.agg #[pv', vv'], wordV (M.msg p (chooseL (M.hist p).length (atL (M.view k) p) z).toNat), .bool true, .int .i64 0]) ∧ MD (Dn D w) w' pv' vv' (M.readAt k p (chooseL (M.hist p).length (atL (M.view k) p) z).toNat false) ∧ Below w.heap.size w w' := by
  obtain ⟨np, hnp⟩ : ∃ n, M.hs.length = n := ⟨_, rfl⟩
  obtain ⟨nv, hnv⟩ : ∃ n, M.vs.length = n := ⟨_, rfl⟩
  obtain ⟨y1, y2, rfl, rfl⟩ := h.sl hnp hnv
  have HNP := Lib.hid hnp
  have HNV := Lib.hid hnv
  have HG := Lib.hid G
  rw [hnp] at hpn
  rw [hnv] at hk
  have hl1 := G.np
  have hl2 := G.nv
  rw [hnp] at hl1
  rw [hnv] at hl2
  clear hnp hnv
  rw [show wordV (M.msg p (chooseL (M.hist p).length (atL (M.view k) p) z).toNat) = .agg #[.int .i64 (M.msg p (chooseL (M.hist p).length (atL (M.view k) p) z).toNat).val, .int .u32 (M.msg p (chooseL (M.hist p).length (atL (M.view k) p) z).toNat).ver, .int .u32 (M.msg p (chooseL (M.hist p).length (atL (M.view k) p) z).toNat).ref] from rfl]
  obtain ⟨i, hi⟩ : ∃ i, (chooseL (M.hist p).length (atL (M.view k) p) z).toNat = i := ⟨_, rfl⟩
  rw [hi]
  have HI := Lib.hid hi
  obtain ⟨xv, hxv⟩ : ∃ x, (M.msg p i).val = x := ⟨_, rfl⟩
  obtain ⟨xe, hxe⟩ : ∃ x, (M.msg p i).ver = x := ⟨_, rfl⟩
  obtain ⟨xr, hxr⟩ : ∃ x, (M.msg p i).ref = x := ⟨_, rfl⟩
  rw [hxv, hxe, hxr]
  have HWD : Hid (wordV (M.msg p i) = .agg #[.int .i64 xv, .int .u32 xe, .int .u32 xr]) := Lib.hid (by unfold wordV; rw [hxv, hxe, hxr])
  clear hi hxv hxe hxr
  have B2 := Lib.hid (Box.alloc (Box.alloc (Box.alloc (Box.new w #[.slice y1 np np, .slice y2 nv nv] 31 (n := w.heap.size) (by simp)) (.cells #[.int .i64 ((k : Int) + 1), .int .i64 1, .int .i64 p, .int .i64 oa, .int .u32 ob, .int .u32 oc, .int .i64 na, .int .u32 nb, .int .u32 nc, .int .i64 z] 49)) (.cells #[.slice none 0 0, .slice none 0 0] 31)) (.cells #[.int .i64 0, .int .u32 0, .int .u32 0] 45))
  have B3 := Lib.hid (Box.alloc (Box.alloc (Box.new (w.alloc (.cells #[.slice y1 np np, .slice y2 nv nv] 31)) #[.int .i64 ((k : Int) + 1), .int .i64 1, .int .i64 p, .int .i64 oa, .int .u32 ob, .int .u32 oc, .int .i64 na, .int .u32 nb, .int .u32 nc, .int .i64 z] 49 (n := w.heap.size + 1) (by simp)) (.cells #[.slice none 0 0, .slice none 0 0] 31)) (.cells #[.int .i64 0, .int .u32 0, .int .u32 0] 45))
  have R4 := Lib.hid (Box.alloc (Box.new ((w.alloc (.cells #[.slice y1 np np, .slice y2 nv nv] 31)).alloc (.cells #[.int .i64 ((k : Int) + 1), .int .i64 1, .int .i64 p, .int .i64 oa, .int .u32 ob, .int .u32 oc, .int .i64 na, .int .u32 nb, .int .u32 nc, .int .i64 z] 49)) #[.slice none 0 0, .slice none 0 0] 31 (n := w.heap.size + 1 + 1) (by simp)) (.cells #[.int .i64 0, .int .u32 0, .int .u32 0] 45))
  have R5 := Lib.hid (Box.new (((w.alloc (.cells #[.slice y1 np np, .slice y2 nv nv] 31)).alloc (.cells #[.int .i64 ((k : Int) + 1), .int .i64 1, .int .i64 p, .int .i64 oa, .int .u32 ob, .int .u32 oc, .int .i64 na, .int .u32 nb, .int .u32 nc, .int .i64 z] 49)).alloc (.cells #[.slice none 0 0, .slice none 0 0] 31)) #[.int .i64 0, .int .u32 0, .int .u32 0] 45 (n := w.heap.size + 1 + 1 + 1) (by simp))
  have BB := Lib.hid (((((Below.refl w.heap.size w).alloc (by simp <;> omega) (.cells #[.slice y1 np np, .slice y2 nv nv] 31)).alloc (by simp <;> omega) (.cells #[.int .i64 ((k : Int) + 1), .int .i64 1, .int .i64 p, .int .i64 oa, .int .u32 ob, .int .u32 oc, .int .i64 na, .int .u32 nb, .int .u32 nc, .int .i64 z] 49)).alloc (by simp <;> omega) (.cells #[.slice none 0 0, .slice none 0 0] 31)).alloc (by simp <;> omega) (.cells #[.int .i64 0, .int .u32 0, .int .u32 0] 45))
  have MM := Lib.hid (h.addlt.below (((((Below.refl w.heap.size w).alloc (by simp <;> omega) (.cells #[.slice y1 np np, .slice y2 nv nv] 31)).alloc (by simp <;> omega) (.cells #[.int .i64 ((k : Int) + 1), .int .i64 1, .int .i64 p, .int .i64 oa, .int .u32 ob, .int .u32 oc, .int .i64 na, .int .u32 nb, .int .u32 nc, .int .i64 z] 49)).alloc (by simp <;> omega) (.cells #[.slice none 0 0, .slice none 0 0] 31)).alloc (by simp <;> omega) (.cells #[.int .i64 0, .int .u32 0, .int .u32 0] 45)))
  clear h G
  go_enter Try.func14, Try.ntmps14
  go_upto_region 1 with fail
  generalize ((((w.alloc (.cells #[.slice y1 np np, .slice y2 nv nv] 31)).alloc (.cells #[.int .i64 ((k : Int) + 1), .int .i64 1, .int .i64 p, .int .i64 oa, .int .u32 ob, .int .u32 oc, .int .i64 na, .int .u32 nb, .int .u32 nc, .int .i64 z] 49)).alloc (.cells #[.slice none 0 0, .slice none 0 0] 31)).alloc (.cells #[.int .i64 0, .int .u32 0, .int .u32 0] 45)) = W0 at *
  obtain ⟨b5, hb5⟩ : ∃ b, w.heap.size + 1 + 1 + 1 = b := ⟨_, rfl⟩
  obtain ⟨b4, hb4⟩ : ∃ b, w.heap.size + 1 + 1 = b := ⟨_, rfl⟩
  obtain ⟨b3, hb3⟩ : ∃ b, w.heap.size + 1 = b := ⟨_, rfl⟩
  obtain ⟨b2, hb2⟩ : ∃ b, w.heap.size = b := ⟨_, rfl⟩
  have hbq := hb2
  rw [hb5] at R5 ⊢
  rw [hb4] at R4 hb5 ⊢
  rw [hb3] at B3 hb4 ⊢
  rw [hb2] at B2 hb3 ⊢
  obtain ⟨d0, d1, d2, d3, d4, d5, d6, d7, d8, d9⟩ := B3.out.all10
  go_upto_region 2 with fail
  clear d0 d1 d2 d3 d4 d5 d6 d7 d8 d9
  have hlt_b8 := BB.out.size
  have hlt_b8_B2 := B2.out.lt
  have hlt_b8_B3 := B3.out.lt
  have hlt_b8_R4 := R4.out.lt
  have hlt_b8_R5 := R5.out.lt
  have B2' := Lib.hid (B2.out.below (below_new W0 (.cells #[.int .i64 1, .int .i64 p, .int .i64 oa, .int .u32 ob, .int .u32 oc, .int .i64 na, .int .u32 nb, .int .u32 nc] 47)))
  have B3' := Lib.hid (B3.out.below (below_new W0 (.cells #[.int .i64 1, .int .i64 p, .int .i64 oa, .int .u32 ob, .int .u32 oc, .int .i64 na, .int .u32 nb, .int .u32 nc] 47)))
  have R4' := Lib.hid (R4.out.below (below_new W0 (.cells #[.int .i64 1, .int .i64 p, .int .i64 oa, .int .u32 ob, .int .u32 oc, .int .i64 na, .int .u32 nb, .int .u32 nc] 47)))
  have R5' := Lib.hid (R5.out.below (below_new W0 (.cells #[.int .i64 1, .int .i64 p, .int .i64 oa, .int .u32 ob, .int .u32 oc, .int .i64 na, .int .u32 nb, .int .u32 nc] 47)))
  have MM' := Lib.hid (MM.out.below (below_new W0 (.cells #[.int .i64 1, .int .i64 p, .int .i64 oa, .int .u32 ob, .int .u32 oc, .int .i64 na, .int .u32 nb, .int .u32 nc] 47)))
  have BB' := Lib.hid (BB.out.trans ((below_new W0 (.cells #[.int .i64 1, .int .i64 p, .int .i64 oa, .int .u32 ob, .int .u32 oc, .int .i64 na, .int .u32 nb, .int .u32 nc] 47)).mono BB.out.size))
  clear B2
  have B2 := B2'
  clear B2'
  clear B3
  have B3 := B3'
  clear B3'
  clear R4
  have R4 := R4'
  clear R4'
  clear R5
  have R5 := R5'
  clear R5'
  clear MM
  have MM := MM'
  clear MM'
  clear BB
  have BB := BB'
  clear BB'
  have B8 := Lib.hid (Box.new W0 #[.int .i64 1, .int .i64 p, .int .i64 oa, .int .u32 ob, .int .u32 oc, .int .i64 na, .int .u32 nb, .int .u32 nc] 47 rfl)
  have hsz_b8 : (World.alloc W0 (.cells #[.int .i64 1, .int .i64 p, .int .i64 oa, .int .u32 ob, .int .u32 oc, .int .i64 na, .int .u32 nb, .int .u32 nc] 47)).heap.size = (World.heap W0).size + 1 := by simp
  generalize World.alloc W0 (.cells #[.int .i64 1, .int .i64 p, .int .i64 oa, .int .u32 ob, .int .u32 oc, .int .i64 na, .int .u32 nb, .int .u32 nc] 47) = a0 at *
  generalize World.heap W0 = hp_b8 at *
  generalize hp_b8.size = b8 at *
  obtain ⟨d0, d1, d2, d3, d4, d5, d6, d7, d8, d9⟩ := B3.out.all10
  obtain ⟨e0, e1, e2, e3, e4, e5, e6, e7⟩ := B8.out.all8
  obtain ⟨⟨m0, m1⟩, -⟩ := B2.out.cells2
  go_wp2_with fail
  clear d0 d1 d2 d3 d4 d5 d6 d7 d8 d9 e0 e1 e2 e3 e4 e5 e6 e7 m0 m1
  have q4 := R4.out.lt
  have q5 := R5.out.lt
  refine (load_plain _ _ M N k p z _ _ MM.out HG.out (by omega) (by rw [HNV.out]; exact hk) (by rw [HNP.out]; exact hpn) z0 z1).mono ?_
  rintro e a1 ⟨vv, rfl, hm, hb⟩
  have B2' := Lib.hid (B2.out.below (hb))
  have B3' := Lib.hid (B3.out.below (hb))
  have R4' := Lib.hid (R4.out.below (hb))
  have R5' := Lib.hid (R5.out.below (hb))
  have MM' := Lib.hid (MM.out.below (hb))
  have B8' := Lib.hid (B8.out.below (hb))
  have BB' := Lib.hid (BB.out.trans ((hb).mono BB.out.size))
  clear B2
  have B2 := B2'
  clear B2'
  clear B3
  have B3 := B3'
  clear B3'
  clear R4
  have R4 := R4'
  clear R4'
  clear R5
  have R5 := R5'
  clear R5'
  clear MM
  have MM := MM'
  clear MM'
  clear B8
  have B8 := B8'
  clear B8'
  clear BB
  have BB := BB'
  clear BB'
  clear hb
  have MN := Lib.hid (hm)
  clear hm MM
  rw [HI.out, HWD.out]
  rw [HI.out] at MN
  obtain ⟨_, c2, -, e2⟩ := MN.out.sl (np := np) (nv := nv) HNP.out (by simp [Mem.readAt, HNV.out])
  subst e2
  go_upto_region 6 with fail
  have hlt_b9 := BB.out.size
  have hlt_b9_B2 := B2.out.lt
  have hlt_b9_B3 := B3.out.lt
  have hlt_b9_R4 := R4.out.lt
  have hlt_b9_R5 := R5.out.lt
  have hlt_b9_B8 := B8.out.lt
  have B2' := Lib.hid (B2.out.below (below_new a1 (.cells #[.slice y1 np np, .slice c2 nv nv] 31)))
  have B3' := Lib.hid (B3.out.below (below_new a1 (.cells #[.slice y1 np np, .slice c2 nv nv] 31)))
  have R4' := Lib.hid (R4.out.below (below_new a1 (.cells #[.slice y1 np np, .slice c2 nv nv] 31)))
  have R5' := Lib.hid (R5.out.below (below_new a1 (.cells #[.slice y1 np np, .slice c2 nv nv] 31)))
  have B8' := Lib.hid (B8.out.below (below_new a1 (.cells #[.slice y1 np np, .slice c2 nv nv] 31)))
  have MN' := Lib.hid (MN.out.below (below_new a1 (.cells #[.slice y1 np np, .slice c2 nv nv] 31)))
  have BB' := Lib.hid (BB.out.trans ((below_new a1 (.cells #[.slice y1 np np, .slice c2 nv nv] 31)).mono BB.out.size))
  clear B2
  have B2 := B2'
  clear B2'
  clear B3
  have B3 := B3'
  clear B3'
  clear R4
  have R4 := R4'
  clear R4'
  clear R5
  have R5 := R5'
  clear R5'
  clear B8
  have B8 := B8'
  clear B8'
  clear MN
  have MN := MN'
  clear MN'
  clear BB
  have BB := BB'
  clear BB'
  have B9 := Lib.hid (Box.new a1 #[.slice y1 np np, .slice c2 nv nv] 31 rfl)
  have hsz_b9 : (World.alloc a1 (.cells #[.slice y1 np np, .slice c2 nv nv] 31)).heap.size = (World.heap a1).size + 1 := by simp
  generalize World.alloc a1 (.cells #[.slice y1 np np, .slice c2 nv nv] 31) = a2 at *
  generalize World.heap a1 = hp_b9 at *
  generalize hp_b9.size = b9 at *
  have hlt_b10 := BB.out.size
  have B2' := Lib.hid (B2.out.below (below_new a2 (.cells #[.int .i64 xv, .int .u32 xe, .int .u32 xr] 45)))
  have B3' := Lib.hid (B3.out.below (below_new a2 (.cells #[.int .i64 xv, .int .u32 xe, .int .u32 xr] 45)))
  have R4' := Lib.hid (R4.out.below (below_new a2 (.cells #[.int .i64 xv, .int .u32 xe, .int .u32 xr] 45)))
  have R5' := Lib.hid (R5.out.below (below_new a2 (.cells #[.int .i64 xv, .int .u32 xe, .int .u32 xr] 45)))
  have B8' := Lib.hid (B8.out.below (below_new a2 (.cells #[.int .i64 xv, .int .u32 xe, .int .u32 xr] 45)))
  have MN' := Lib.hid (MN.out.below (below_new a2 (.cells #[.int .i64 xv, .int .u32 xe, .int .u32 xr] 45)))
  have B9' := Lib.hid (B9.out.below (below_new a2 (.cells #[.int .i64 xv, .int .u32 xe, .int .u32 xr] 45)))
  have BB' := Lib.hid (BB.out.trans ((below_new a2 (.cells #[.int .i64 xv, .int .u32 xe, .int .u32 xr] 45)).mono BB.out.size))
  clear B2
  have B2 := B2'
  clear B2'
  clear B3
  have B3 := B3'
  clear B3'
  clear R4
  have R4 := R4'
  clear R4'
  clear R5
  have R5 := R5'
  clear R5'
  clear B8
  have B8 := B8'
  clear B8'
  clear MN
  have MN := MN'
  clear MN'
  clear B9
  have B9 := B9'
  clear B9'
  clear BB
  have BB := BB'
  clear BB'
  have B10 := Lib.hid (Box.new a2 #[.int .i64 xv, .int .u32 xe, .int .u32 xr] 45 (n := b9 + 1) hsz_b9.symm)
  have hsz_b10 : (World.alloc a2 (.cells #[.int .i64 xv, .int .u32 xe, .int .u32 xr] 45)).heap.size = b9 + 1 + 1 := by simp [hsz_b9]
  rw [hsz_b9] at hlt_b10
  generalize World.alloc a2 (.cells #[.int .i64 xv, .int .u32 xe, .int .u32 xr] 45) = a3 at *
  obtain ⟨b10, hq_b10⟩ : ∃ b, b9 + 1 = b := ⟨_, rfl⟩
  rw [hq_b10] at B10 hsz_b10 ⊢
  have B2' := Lib.hid (B2.out.below ((Below.refl _ _).drew))
  have B3' := Lib.hid (B3.out.below ((Below.refl _ _).drew))
  have R4' := Lib.hid (R4.out.below ((Below.refl _ _).drew))
  have R5' := Lib.hid (R5.out.below ((Below.refl _ _).drew))
  have B8' := Lib.hid (B8.out.below ((Below.refl _ _).drew))
  have MN' := Lib.hid (MN.out.below ((Below.refl _ _).drew))
  have B9' := Lib.hid (B9.out.below ((Below.refl _ _).drew))
  have B10' := Lib.hid (B10.out.below ((Below.refl _ _).drew))
  have BB' := Lib.hid (BB.out.trans (((Below.refl _ _).drew).mono BB.out.size))
  clear B2
  have B2 := B2'
  clear B2'
  clear B3
  have B3 := B3'
  clear B3'
  clear R4
  have R4 := R4'
  clear R4'
  clear R5
  have R5 := R5'
  clear R5'
  clear B8
  have B8 := B8'
  clear B8'
  clear MN
  have MN := MN'
  clear MN'
  clear B9
  have B9 := B9'
  clear B9'
  clear B10
  have B10 := B10'
  clear B10'
  clear BB
  have BB := BB'
  clear BB'
  refine wp_region_held_drew (S := fun w' => w'.cell? ⟨b9, 0, none⟩ = some (.slice y1 np np) ∧ w'.cell? ⟨b9, 1, none⟩ = some (.slice c2 nv nv) ∧ w'.cell? ⟨b10, 0, none⟩ = some (.int .i64 xv) ∧ w'.cell? ⟨b10, 1, none⟩ = some (.int .u32 xe) ∧ w'.cell? ⟨b10, 2, none⟩ = some (.int .u32 xr)) (by kernel_rfl) ⟨B9.out.cells2.1.1, B9.out.cells2.1.2, B10.out.cell 0, B10.out.cell 1, B10.out.cell 2⟩ (fun hHeld => ?_)
  generalize World.drew a3 = V0 at *
  refine wpAnyH_take (i := 0) (oi := { dst := some 39, op := Op.load 31 (Operand.tmp 9), type := 31, pos := "law.go:51", after := #[], guard := none }) (v := ?d1_1xv0) rfl (by kernel_rfl) (by kernel_rfl) (by kernel_rfl) (fun _ _ _ h => h) (Or.inl ⟨by rfl, ?d1_1xy0⟩) (by assumption) ?d1_1xr0
  case d1_1xy0 => (intro w hSw; (try dsimp only at hSw); go_simp; try with_reducible rfl)
  (try simp only [Act.put])
  (try simp only [List.setIfInBounds_toArray])
  (try simp only [List.set_cons_succ])
  (try simp only [List.set_cons_zero])
  refine wpAnyH_take (i := 1) (oi := { dst := some 40, op := Op.load 45 (Operand.tmp 10), type := 45, pos := "law.go:51", after := #[{ on := 5, ground := Ground.gcOnly Departure.lateStores }], guard := none }) (v := ?d1_2xv1) rfl (by kernel_rfl) (by kernel_rfl) (by kernel_rfl) (fun _ _ _ h => h) (Or.inl ⟨by rfl, ?d1_2xy1⟩) (by assumption) ?d1_2xr1
  case d1_2xy1 => (intro w hSw; (try dsimp only at hSw); go_simp; try with_reducible rfl)
  (try simp only [Act.put])
  (try simp only [List.setIfInBounds_toArray])
  (try simp only [List.set_cons_succ])
  (try simp only [List.set_cons_zero])
  refine wpAnyH_take (i := 2) (oi := { dst := some 41, op := Op.move (Operand.tmp 11), type := 32, pos := "law.go:51", after := #[{ on := 6, ground := Ground.gcOnly Departure.lateStores }], guard := none }) (v := ?d1_3xv2) rfl (by kernel_rfl) (by kernel_rfl) (by kernel_rfl) (fun _ _ _ h => h) (Or.inl ⟨by rfl, ?d1_3xy2⟩) (by assumption) ?d1_3xr2
  case d1_3xy2 => (intro w hSw; (try dsimp only at hSw); go_simp; try with_reducible rfl)
  (try simp only [Act.put])
  (try simp only [List.setIfInBounds_toArray])
  (try simp only [List.set_cons_succ])
  (try simp only [List.set_cons_zero])
  refine wpAnyH_take (i := 3) (oi := { dst := some 42, op := Op.binOp BinOp.eql 32 (Operand.tmp 41) (Operand.const (Value.int IntKind.i64 0)) 32, type := 4, pos := "law.go:51", after := #[{ on := 2, ground := Ground.data }, { on := 6, ground := Ground.gcOnly Departure.lateStores }], guard := none }) (v := ?d1_4xv3) rfl (by kernel_rfl) (by kernel_rfl) (by kernel_rfl) (fun _ _ _ h => h) (Or.inl ⟨by rfl, ?d1_4xy3⟩) (by assumption) ?d1_4xr3
  case d1_4xy3 => (intro w hSw; (try dsimp only at hSw); go_simp; try with_reducible rfl)
  (try simp only [Act.put])
  (try simp only [List.setIfInBounds_toArray])
  (try simp only [List.set_cons_succ])
  (try simp only [List.set_cons_zero])
  refine wpAnyH_take (i := 4) (oi := { dst := some 43, op := Op.move (Operand.tmp 11), type := 32, pos := "law.go:51", after := #[{ on := 7, ground := Ground.gcOnly Departure.lateStores }], guard := none }) (v := ?d1_5xv4) rfl (by kernel_rfl) (by kernel_rfl) (by kernel_rfl) (fun _ _ _ h => h) (Or.inl ⟨by rfl, ?d1_5xy4⟩) (by assumption) ?d1_5xr4
  case d1_5xy4 => (intro w hSw; (try dsimp only at hSw); go_simp; try with_reducible rfl)
  (try simp only [Act.put])
  (try simp only [List.setIfInBounds_toArray])
  (try simp only [List.set_cons_succ])
  (try simp only [List.set_cons_zero])
  refine wpAnyH_ready (rs := [5]) (by kernel_rfl) (by simp) ?_
  refine AllReadyH.cons (o := { dst := none, op := Op.store 31 (Operand.tmp 4) (Operand.tmp 39), type := 0, pos := "law.go:51", after := #[{ on := 0, ground := Ground.data }, { on := 0, ground := Ground.phase }, { on := 1, ground := Ground.textOnly Departure.lateStores }, { on := 2, ground := Ground.textOnly Departure.lateStores }, { on := 3, ground := Ground.textOnly Departure.lateStores }, { on := 4, ground := Ground.textOnly Departure.lateStores }], guard := none }) rfl (fun K hK => ?_) AllReadyH.nil
  obtain ⟨⟨m0, m1⟩, g0, g1⟩ := R4.out.cells2
  go_simp
  clear m0 g0 m1 g1
  have B2' := Lib.hid (B2.out.only (by omega) (((Only.refl b4 V0).set 0 (.slice y1 np np)).set 1 (.slice c2 nv nv)))
  have B3' := Lib.hid (B3.out.only (by omega) (((Only.refl b4 V0).set 0 (.slice y1 np np)).set 1 (.slice c2 nv nv)))
  have R4' := Lib.hid (((R4.out).set 0 (.slice y1 np np)).set 1 (.slice c2 nv nv))
  have R5' := Lib.hid (R5.out.only (by omega) (((Only.refl b4 V0).set 0 (.slice y1 np np)).set 1 (.slice c2 nv nv)))
  have B8' := Lib.hid (B8.out.only (by omega) (((Only.refl b4 V0).set 0 (.slice y1 np np)).set 1 (.slice c2 nv nv)))
  have MN' := Lib.hid (MN.out.only R4.out (by rintro (hq | hq) <;> omega) (((Only.refl b4 V0).set 0 (.slice y1 np np)).set 1 (.slice c2 nv nv)))
  have B9' := Lib.hid (B9.out.only (by omega) (((Only.refl b4 V0).set 0 (.slice y1 np np)).set 1 (.slice c2 nv nv)))
  have B10' := Lib.hid (B10.out.only (by omega) (((Only.refl b4 V0).set 0 (.slice y1 np np)).set 1 (.slice c2 nv nv)))
  have BB' := Lib.hid (((BB.out).put b4 (by omega) 0 (.slice y1 np np)).put b4 (by omega) 1 (.slice c2 nv nv))
  clear B2
  have B2 := B2'
  clear B2'
  clear B3
  have B3 := B3'
  clear B3'
  clear R4
  have R4 := R4'
  clear R4'
  clear R5
  have R5 := R5'
  clear R5'
  clear B8
  have B8 := B8'
  clear B8'
  clear MN
  have MN := MN'
  clear MN'
  clear B9
  have B9 := B9'
  clear B9'
  clear B10
  have B10 := B10'
  clear B10'
  clear BB
  have BB := BB'
  clear BB'
  generalize (World.setCell (World.setCell V0 ⟨b4, 0, none⟩ (.slice y1 np np)) ⟨b4, 1, none⟩ (.slice c2 nv nv)) = v1 at *
  refine hK.out _ _ ?_ (fun hHeld => ?_)
  · exact ⟨B9.out.cells2.1.1, B9.out.cells2.1.2, B10.out.cell 0, B10.out.cell 1, B10.out.cell 2⟩
  clear hK K
  (try simp only [Act.put])
  (try simp only [List.setIfInBounds_toArray])
  (try simp only [List.set_cons_succ])
  (try simp only [List.set_cons_zero])
  refine wpAnyH_ready (rs := [6]) (by kernel_rfl) (by simp) ?_
  refine AllReadyH.cons (o := { dst := none, op := Op.store 45 (Operand.tmp 5) (Operand.tmp 40), type := 0, pos := "law.go:51", after := #[{ on := 1, ground := Ground.data }, { on := 5, ground := Ground.chain }, { on := 0, ground := Ground.phase }, { on := 1, ground := Ground.phase }, { on := 2, ground := Ground.textOnly Departure.lateStores }, { on := 3, ground := Ground.textOnly Departure.lateStores }, { on := 4, ground := Ground.textOnly Departure.lateStores }, { on := 5, ground := Ground.phase }], guard := none }) rfl (fun K hK => ?_) AllReadyH.nil
  obtain ⟨⟨m0, m1, m2⟩, g0, g1, g2⟩ := R5.out.cells3
  go_simp
  clear m0 g0 m1 g1 m2 g2
  have B2' := Lib.hid (B2.out.only (by omega) ((((Only.refl b5 v1).set 0 (.int .i64 xv)).set 1 (.int .u32 xe)).set 2 (.int .u32 xr)))
  have B3' := Lib.hid (B3.out.only (by omega) ((((Only.refl b5 v1).set 0 (.int .i64 xv)).set 1 (.int .u32 xe)).set 2 (.int .u32 xr)))
  have R4' := Lib.hid (R4.out.only (by omega) ((((Only.refl b5 v1).set 0 (.int .i64 xv)).set 1 (.int .u32 xe)).set 2 (.int .u32 xr)))
  have R5' := Lib.hid ((((R5.out).set 0 (.int .i64 xv)).set 1 (.int .u32 xe)).set 2 (.int .u32 xr))
  have B8' := Lib.hid (B8.out.only (by omega) ((((Only.refl b5 v1).set 0 (.int .i64 xv)).set 1 (.int .u32 xe)).set 2 (.int .u32 xr)))
  have MN' := Lib.hid (MN.out.only R5.out (by rintro (hq | hq) <;> omega) ((((Only.refl b5 v1).set 0 (.int .i64 xv)).set 1 (.int .u32 xe)).set 2 (.int .u32 xr)))
  have B9' := Lib.hid (B9.out.only (by omega) ((((Only.refl b5 v1).set 0 (.int .i64 xv)).set 1 (.int .u32 xe)).set 2 (.int .u32 xr)))
  have B10' := Lib.hid (B10.out.only (by omega) ((((Only.refl b5 v1).set 0 (.int .i64 xv)).set 1 (.int .u32 xe)).set 2 (.int .u32 xr)))
  have BB' := Lib.hid ((((BB.out).put b5 (by omega) 0 (.int .i64 xv)).put b5 (by omega) 1 (.int .u32 xe)).put b5 (by omega) 2 (.int .u32 xr))
  clear B2
  have B2 := B2'
  clear B2'
  clear B3
  have B3 := B3'
  clear B3'
  clear R4
  have R4 := R4'
  clear R4'
  clear R5
  have R5 := R5'
  clear R5'
  clear B8
  have B8 := B8'
  clear B8'
  clear MN
  have MN := MN'
  clear MN'
  clear B9
  have B9 := B9'
  clear B9'
  clear B10
  have B10 := B10'
  clear B10'
  clear BB
  have BB := BB'
  clear BB'
  generalize (World.setCell (World.setCell (World.setCell v1 ⟨b5, 0, none⟩ (.int .i64 xv)) ⟨b5, 1, none⟩ (.int .u32 xe)) ⟨b5, 2, none⟩ (.int .u32 xr)) = v2 at *
  refine hK.out _ _ ?_ (fun hHeld => ?_)
  · exact ⟨B9.out.cells2.1.1, B9.out.cells2.1.2, B10.out.cell 0, B10.out.cell 1, B10.out.cell 2⟩
  clear hK K
  (try simp only [Act.put])
  (try simp only [List.setIfInBounds_toArray])
  (try simp only [List.set_cons_succ])
  (try simp only [List.set_cons_zero])
  refine wpAnyH_ready (rs := [7]) (by kernel_rfl) (by simp) ?_
  refine AllReadyH.cons (o := { dst := some 6, op := Op.assign (Operand.tmp 42), type := 4, pos := "law.go:51", after := #[{ on := 3, ground := Ground.data }, { on := 6, ground := Ground.chain }, { on := 0, ground := Ground.phase }, { on := 1, ground := Ground.phase }, { on := 2, ground := Ground.phase }, { on := 3, ground := Ground.phase }, { on := 4, ground := Ground.textOnly Departure.lateStores }, { on := 5, ground := Ground.phase }, { on := 6, ground := Ground.phase }], guard := none }) rfl (fun K hK => ?_) AllReadyH.nil
  go_simp
  refine hK.out _ _ ?_ (fun hHeld => ?_)
  · exact ⟨B9.out.cells2.1.1, B9.out.cells2.1.2, B10.out.cell 0, B10.out.cell 1, B10.out.cell 2⟩
  clear hK K
  (try simp only [Act.put])
  (try simp only [List.setIfInBounds_toArray])
  (try simp only [List.set_cons_succ])
  (try simp only [List.set_cons_zero])
  refine wpAnyH_ready (rs := [8]) (by kernel_rfl) (by simp) ?_
  refine AllReadyH.cons (o := { dst := some 7, op := Op.assign (Operand.tmp 43), type := 32, pos := "law.go:51", after := #[{ on := 4, ground := Ground.data }, { on := 7, ground := Ground.chain }, { on := 0, ground := Ground.phase }, { on := 1, ground := Ground.phase }, { on := 2, ground := Ground.phase }, { on := 3, ground := Ground.phase }, { on := 4, ground := Ground.phase }, { on := 5, ground := Ground.phase }, { on := 6, ground := Ground.phase }, { on := 7, ground := Ground.phase }], guard := none }) rfl (fun K hK => ?_) AllReadyH.nil
  go_simp
  refine hK.out _ _ ?_ (fun hHeld => ?_)
  · exact ⟨B9.out.cells2.1.1, B9.out.cells2.1.2, B10.out.cell 0, B10.out.cell 1, B10.out.cell 2⟩
  clear hK K
  (try simp only [Act.put])
  (try simp only [List.setIfInBounds_toArray])
  (try simp only [List.set_cons_succ])
  (try simp only [List.set_cons_zero])
  refine wpAnyH_done (by kernel_rfl) ?_ _
  obtain ⟨⟨m0, m1⟩, -⟩ := R4.out.cells2
  obtain ⟨⟨k0, k1, k2⟩, -⟩ := R5.out.cells3
  have F1 := MN.out.imp (D' := Dn D w) (fun b hb => by
    rcases hb with hb | hb
    · exact .inl hb.1
    · exact .inr (by omega))
  have F2 := BB.out
  go_wp2
  refine bodyPost_ret (v := .tuple #[.agg #[.slice y1 np np, .slice c2 nv nv], .agg #[.int .i64 xv, .int .u32 xe, .int .u32 xr], .bool true, .int .i64 0]) (by simp [results, Try.f14, go_sem, m0, m1, k0, k1, k2]) rfl ?_
  exact ⟨_, _, rfl, F1, F2⟩

set_option maxRecDepth 100000 in
set_option maxHeartbeats 3200000 in
theorem do_acq (pv vv : Value) (M : Mem) (N k p : Nat) (oa ob oc na nb nc z : Int) (w : World) (D : Nat → Prop) (h : MD D w pv vv M) (G : M.Good N) (hN : N ≤ 999) (hk : k < M.vs.length) (hpn : p < M.hs.length) (z0 : -9223372036854775808 ≤ z) (z1 : z < 9223372036854775808) :
    Calls Try.prog 14 #[.agg #[pv, vv], .agg #[.int .i64 ((k : Int) + 1), .int .i64 2, .int .i64 p, .int .i64 oa, .int .u32 ob, .int .u32 oc, .int .i64 na, .int .u32 nb, .int .u32 nc, .int .i64 z]] w fun e w' => ∃ pv' vv', e = .returned (.tuple #[.agg #[pv', vv'], wordV (M.msg p (chooseL (M.hist p).length (atL (M.view k) p) z).toNat), .bool true, .int .i64 0]) ∧ MD (Dn D w) w' pv' vv' (M.readAt k p (chooseL (M.hist p).length (atL (M.view k) p) z).toNat true) ∧ Below w.heap.size w w' := by
  obtain ⟨np, hnp⟩ : ∃ n, M.hs.length = n := ⟨_, rfl⟩
  obtain ⟨nv, hnv⟩ : ∃ n, M.vs.length = n := ⟨_, rfl⟩
  obtain ⟨y1, y2, rfl, rfl⟩ := h.sl hnp hnv
  have HNP := Lib.hid hnp
  have HNV := Lib.hid hnv
  have HG := Lib.hid G
  rw [hnp] at hpn
  rw [hnv] at hk
  have hl1 := G.np
  have hl2 := G.nv
  rw [hnp] at hl1
  rw [hnv] at hl2
  clear hnp hnv
  rw [show wordV (M.msg p (chooseL (M.hist p).length (atL (M.view k) p) z).toNat) = .agg #[.int .i64 (M.msg p (chooseL (M.hist p).length (atL (M.view k) p) z).toNat).val, .int .u32 (M.msg p (chooseL (M.hist p).length (atL (M.view k) p) z).toNat).ver, .int .u32 (M.msg p (chooseL (M.hist p).length (atL (M.view k) p) z).toNat).ref] from rfl]
  obtain ⟨i, hi⟩ : ∃ i, (chooseL (M.hist p).length (atL (M.view k) p) z).toNat = i := ⟨_, rfl⟩
  rw [hi]
  have HI := Lib.hid hi
  obtain ⟨xv, hxv⟩ : ∃ x, (M.msg p i).val = x := ⟨_, rfl⟩
  obtain ⟨xe, hxe⟩ : ∃ x, (M.msg p i).ver = x := ⟨_, rfl⟩
  obtain ⟨xr, hxr⟩ : ∃ x, (M.msg p i).ref = x := ⟨_, rfl⟩
  rw [hxv, hxe, hxr]
  have HWD : Hid (wordV (M.msg p i) = .agg #[.int .i64 xv, .int .u32 xe, .int .u32 xr]) := Lib.hid (by unfold wordV; rw [hxv, hxe, hxr])
  clear hi hxv hxe hxr
  have B2 := Lib.hid (Box.alloc (Box.alloc (Box.alloc (Box.new w #[.slice y1 np np, .slice y2 nv nv] 31 (n := w.heap.size) (by simp)) (.cells #[.int .i64 ((k : Int) + 1), .int .i64 2, .int .i64 p, .int .i64 oa, .int .u32 ob, .int .u32 oc, .int .i64 na, .int .u32 nb, .int .u32 nc, .int .i64 z] 49)) (.cells #[.slice none 0 0, .slice none 0 0] 31)) (.cells #[.int .i64 0, .int .u32 0, .int .u32 0] 45))
  have B3 := Lib.hid (Box.alloc (Box.alloc (Box.new (w.alloc (.cells #[.slice y1 np np, .slice y2 nv nv] 31)) #[.int .i64 ((k : Int) + 1), .int .i64 2, .int .i64 p, .int .i64 oa, .int .u32 ob, .int .u32 oc, .int .i64 na, .int .u32 nb, .int .u32 nc, .int .i64 z] 49 (n := w.heap.size + 1) (by simp)) (.cells #[.slice none 0 0, .slice none 0 0] 31)) (.cells #[.int .i64 0, .int .u32 0, .int .u32 0] 45))
  have R4 := Lib.hid (Box.alloc (Box.new ((w.alloc (.cells #[.slice y1 np np, .slice y2 nv nv] 31)).alloc (.cells #[.int .i64 ((k : Int) + 1), .int .i64 2, .int .i64 p, .int .i64 oa, .int .u32 ob, .int .u32 oc, .int .i64 na, .int .u32 nb, .int .u32 nc, .int .i64 z] 49)) #[.slice none 0 0, .slice none 0 0] 31 (n := w.heap.size + 1 + 1) (by simp)) (.cells #[.int .i64 0, .int .u32 0, .int .u32 0] 45))
  have R5 := Lib.hid (Box.new (((w.alloc (.cells #[.slice y1 np np, .slice y2 nv nv] 31)).alloc (.cells #[.int .i64 ((k : Int) + 1), .int .i64 2, .int .i64 p, .int .i64 oa, .int .u32 ob, .int .u32 oc, .int .i64 na, .int .u32 nb, .int .u32 nc, .int .i64 z] 49)).alloc (.cells #[.slice none 0 0, .slice none 0 0] 31)) #[.int .i64 0, .int .u32 0, .int .u32 0] 45 (n := w.heap.size + 1 + 1 + 1) (by simp))
  have BB := Lib.hid (((((Below.refl w.heap.size w).alloc (by simp <;> omega) (.cells #[.slice y1 np np, .slice y2 nv nv] 31)).alloc (by simp <;> omega) (.cells #[.int .i64 ((k : Int) + 1), .int .i64 2, .int .i64 p, .int .i64 oa, .int .u32 ob, .int .u32 oc, .int .i64 na, .int .u32 nb, .int .u32 nc, .int .i64 z] 49)).alloc (by simp <;> omega) (.cells #[.slice none 0 0, .slice none 0 0] 31)).alloc (by simp <;> omega) (.cells #[.int .i64 0, .int .u32 0, .int .u32 0] 45))
  have MM := Lib.hid (h.addlt.below (((((Below.refl w.heap.size w).alloc (by simp <;> omega) (.cells #[.slice y1 np np, .slice y2 nv nv] 31)).alloc (by simp <;> omega) (.cells #[.int .i64 ((k : Int) + 1), .int .i64 2, .int .i64 p, .int .i64 oa, .int .u32 ob, .int .u32 oc, .int .i64 na, .int .u32 nb, .int .u32 nc, .int .i64 z] 49)).alloc (by simp <;> omega) (.cells #[.slice none 0 0, .slice none 0 0] 31)).alloc (by simp <;> omega) (.cells #[.int .i64 0, .int .u32 0, .int .u32 0] 45)))
  clear h G
  go_enter Try.func14, Try.ntmps14
  go_upto_region 1 with fail
  generalize ((((w.alloc (.cells #[.slice y1 np np, .slice y2 nv nv] 31)).alloc (.cells #[.int .i64 ((k : Int) + 1), .int .i64 2, .int .i64 p, .int .i64 oa, .int .u32 ob, .int .u32 oc, .int .i64 na, .int .u32 nb, .int .u32 nc, .int .i64 z] 49)).alloc (.cells #[.slice none 0 0, .slice none 0 0] 31)).alloc (.cells #[.int .i64 0, .int .u32 0, .int .u32 0] 45)) = W0 at *
  obtain ⟨b5, hb5⟩ : ∃ b, w.heap.size + 1 + 1 + 1 = b := ⟨_, rfl⟩
  obtain ⟨b4, hb4⟩ : ∃ b, w.heap.size + 1 + 1 = b := ⟨_, rfl⟩
  obtain ⟨b3, hb3⟩ : ∃ b, w.heap.size + 1 = b := ⟨_, rfl⟩
  obtain ⟨b2, hb2⟩ : ∃ b, w.heap.size = b := ⟨_, rfl⟩
  have hbq := hb2
  rw [hb5] at R5 ⊢
  rw [hb4] at R4 hb5 ⊢
  rw [hb3] at B3 hb4 ⊢
  rw [hb2] at B2 hb3 ⊢
  obtain ⟨d0, d1, d2, d3, d4, d5, d6, d7, d8, d9⟩ := B3.out.all10
  go_upto_region 2 with fail
  clear d0 d1 d2 d3 d4 d5 d6 d7 d8 d9
  have hlt_b8 := BB.out.size
  have hlt_b8_B2 := B2.out.lt
  have hlt_b8_B3 := B3.out.lt
  have hlt_b8_R4 := R4.out.lt
  have hlt_b8_R5 := R5.out.lt
  have B2' := Lib.hid (B2.out.below (below_new W0 (.cells #[.int .i64 2, .int .i64 p, .int .i64 oa, .int .u32 ob, .int .u32 oc, .int .i64 na, .int .u32 nb, .int .u32 nc] 47)))
  have B3' := Lib.hid (B3.out.below (below_new W0 (.cells #[.int .i64 2, .int .i64 p, .int .i64 oa, .int .u32 ob, .int .u32 oc, .int .i64 na, .int .u32 nb, .int .u32 nc] 47)))
  have R4' := Lib.hid (R4.out.below (below_new W0 (.cells #[.int .i64 2, .int .i64 p, .int .i64 oa, .int .u32 ob, .int .u32 oc, .int .i64 na, .int .u32 nb, .int .u32 nc] 47)))
  have R5' := Lib.hid (R5.out.below (below_new W0 (.cells #[.int .i64 2, .int .i64 p, .int .i64 oa, .int .u32 ob, .int .u32 oc, .int .i64 na, .int .u32 nb, .int .u32 nc] 47)))
  have MM' := Lib.hid (MM.out.below (below_new W0 (.cells #[.int .i64 2, .int .i64 p, .int .i64 oa, .int .u32 ob, .int .u32 oc, .int .i64 na, .int .u32 nb, .int .u32 nc] 47)))
  have BB' := Lib.hid (BB.out.trans ((below_new W0 (.cells #[.int .i64 2, .int .i64 p, .int .i64 oa, .int .u32 ob, .int .u32 oc, .int .i64 na, .int .u32 nb, .int .u32 nc] 47)).mono BB.out.size))
  clear B2
  have B2 := B2'
  clear B2'
  clear B3
  have B3 := B3'
  clear B3'
  clear R4
  have R4 := R4'
  clear R4'
  clear R5
  have R5 := R5'
  clear R5'
  clear MM
  have MM := MM'
  clear MM'
  clear BB
  have BB := BB'
  clear BB'
  have B8 := Lib.hid (Box.new W0 #[.int .i64 2, .int .i64 p, .int .i64 oa, .int .u32 ob, .int .u32 oc, .int .i64 na, .int .u32 nb, .int .u32 nc] 47 rfl)
  have hsz_b8 : (World.alloc W0 (.cells #[.int .i64 2, .int .i64 p, .int .i64 oa, .int .u32 ob, .int .u32 oc, .int .i64 na, .int .u32 nb, .int .u32 nc] 47)).heap.size = (World.heap W0).size + 1 := by simp
  generalize World.alloc W0 (.cells #[.int .i64 2, .int .i64 p, .int .i64 oa, .int .u32 ob, .int .u32 oc, .int .i64 na, .int .u32 nb, .int .u32 nc] 47) = a0 at *
  generalize World.heap W0 = hp_b8 at *
  generalize hp_b8.size = b8 at *
  obtain ⟨d0, d1, d2, d3, d4, d5, d6, d7, d8, d9⟩ := B3.out.all10
  obtain ⟨e0, e1, e2, e3, e4, e5, e6, e7⟩ := B8.out.all8
  obtain ⟨⟨m0, m1⟩, -⟩ := B2.out.cells2
  go_wp2_with fail
  clear d0 d1 d2 d3 d4 d5 d6 d7 d8 d9 e0 e1 e2 e3 e4 e5 e6 e7 m0 m1
  have q4 := R4.out.lt
  have q5 := R5.out.lt
  refine (load_acq _ _ M N k p z _ _ MM.out HG.out (by omega) (by rw [HNV.out]; exact hk) (by rw [HNP.out]; exact hpn) z0 z1).mono ?_
  rintro e a1 ⟨vv, rfl, hm, hb⟩
  have B2' := Lib.hid (B2.out.below (hb))
  have B3' := Lib.hid (B3.out.below (hb))
  have R4' := Lib.hid (R4.out.below (hb))
  have R5' := Lib.hid (R5.out.below (hb))
  have MM' := Lib.hid (MM.out.below (hb))
  have B8' := Lib.hid (B8.out.below (hb))
  have BB' := Lib.hid (BB.out.trans ((hb).mono BB.out.size))
  clear B2
  have B2 := B2'
  clear B2'
  clear B3
  have B3 := B3'
  clear B3'
  clear R4
  have R4 := R4'
  clear R4'
  clear R5
  have R5 := R5'
  clear R5'
  clear MM
  have MM := MM'
  clear MM'
  clear B8
  have B8 := B8'
  clear B8'
  clear BB
  have BB := BB'
  clear BB'
  clear hb
  have MN := Lib.hid (hm)
  clear hm MM
  rw [HI.out, HWD.out]
  rw [HI.out] at MN
  obtain ⟨_, c2, -, e2⟩ := MN.out.sl (np := np) (nv := nv) HNP.out (by simp [Mem.readAt, HNV.out])
  subst e2
  go_upto_region 6 with fail
  have hlt_b9 := BB.out.size
  have hlt_b9_B2 := B2.out.lt
  have hlt_b9_B3 := B3.out.lt
  have hlt_b9_R4 := R4.out.lt
  have hlt_b9_R5 := R5.out.lt
  have hlt_b9_B8 := B8.out.lt
  have B2' := Lib.hid (B2.out.below (below_new a1 (.cells #[.slice y1 np np, .slice c2 nv nv] 31)))
  have B3' := Lib.hid (B3.out.below (below_new a1 (.cells #[.slice y1 np np, .slice c2 nv nv] 31)))
  have R4' := Lib.hid (R4.out.below (below_new a1 (.cells #[.slice y1 np np, .slice c2 nv nv] 31)))
  have R5' := Lib.hid (R5.out.below (below_new a1 (.cells #[.slice y1 np np, .slice c2 nv nv] 31)))
  have B8' := Lib.hid (B8.out.below (below_new a1 (.cells #[.slice y1 np np, .slice c2 nv nv] 31)))
  have MN' := Lib.hid (MN.out.below (below_new a1 (.cells #[.slice y1 np np, .slice c2 nv nv] 31)))
  have BB' := Lib.hid (BB.out.trans ((below_new a1 (.cells #[.slice y1 np np, .slice c2 nv nv] 31)).mono BB.out.size))
  clear B2
  have B2 := B2'
  clear B2'
  clear B3
  have B3 := B3'
  clear B3'
  clear R4
  have R4 := R4'
  clear R4'
  clear R5
  have R5 := R5'
  clear R5'
  clear B8
  have B8 := B8'
  clear B8'
  clear MN
  have MN := MN'
  clear MN'
  clear BB
  have BB := BB'
  clear BB'
  have B9 := Lib.hid (Box.new a1 #[.slice y1 np np, .slice c2 nv nv] 31 rfl)
  have hsz_b9 : (World.alloc a1 (.cells #[.slice y1 np np, .slice c2 nv nv] 31)).heap.size = (World.heap a1).size + 1 := by simp
  generalize World.alloc a1 (.cells #[.slice y1 np np, .slice c2 nv nv] 31) = a2 at *
  generalize World.heap a1 = hp_b9 at *
  generalize hp_b9.size = b9 at *
  have hlt_b10 := BB.out.size
  have B2' := Lib.hid (B2.out.below (below_new a2 (.cells #[.int .i64 xv, .int .u32 xe, .int .u32 xr] 45)))
  have B3' := Lib.hid (B3.out.below (below_new a2 (.cells #[.int .i64 xv, .int .u32 xe, .int .u32 xr] 45)))
  have R4' := Lib.hid (R4.out.below (below_new a2 (.cells #[.int .i64 xv, .int .u32 xe, .int .u32 xr] 45)))
  have R5' := Lib.hid (R5.out.below (below_new a2 (.cells #[.int .i64 xv, .int .u32 xe, .int .u32 xr] 45)))
  have B8' := Lib.hid (B8.out.below (below_new a2 (.cells #[.int .i64 xv, .int .u32 xe, .int .u32 xr] 45)))
  have MN' := Lib.hid (MN.out.below (below_new a2 (.cells #[.int .i64 xv, .int .u32 xe, .int .u32 xr] 45)))
  have B9' := Lib.hid (B9.out.below (below_new a2 (.cells #[.int .i64 xv, .int .u32 xe, .int .u32 xr] 45)))
  have BB' := Lib.hid (BB.out.trans ((below_new a2 (.cells #[.int .i64 xv, .int .u32 xe, .int .u32 xr] 45)).mono BB.out.size))
  clear B2
  have B2 := B2'
  clear B2'
  clear B3
  have B3 := B3'
  clear B3'
  clear R4
  have R4 := R4'
  clear R4'
  clear R5
  have R5 := R5'
  clear R5'
  clear B8
  have B8 := B8'
  clear B8'
  clear MN
  have MN := MN'
  clear MN'
  clear B9
  have B9 := B9'
  clear B9'
  clear BB
  have BB := BB'
  clear BB'
  have B10 := Lib.hid (Box.new a2 #[.int .i64 xv, .int .u32 xe, .int .u32 xr] 45 (n := b9 + 1) hsz_b9.symm)
  have hsz_b10 : (World.alloc a2 (.cells #[.int .i64 xv, .int .u32 xe, .int .u32 xr] 45)).heap.size = b9 + 1 + 1 := by simp [hsz_b9]
  rw [hsz_b9] at hlt_b10
  generalize World.alloc a2 (.cells #[.int .i64 xv, .int .u32 xe, .int .u32 xr] 45) = a3 at *
  obtain ⟨b10, hq_b10⟩ : ∃ b, b9 + 1 = b := ⟨_, rfl⟩
  rw [hq_b10] at B10 hsz_b10 ⊢
  have B2' := Lib.hid (B2.out.below ((Below.refl _ _).drew))
  have B3' := Lib.hid (B3.out.below ((Below.refl _ _).drew))
  have R4' := Lib.hid (R4.out.below ((Below.refl _ _).drew))
  have R5' := Lib.hid (R5.out.below ((Below.refl _ _).drew))
  have B8' := Lib.hid (B8.out.below ((Below.refl _ _).drew))
  have MN' := Lib.hid (MN.out.below ((Below.refl _ _).drew))
  have B9' := Lib.hid (B9.out.below ((Below.refl _ _).drew))
  have B10' := Lib.hid (B10.out.below ((Below.refl _ _).drew))
  have BB' := Lib.hid (BB.out.trans (((Below.refl _ _).drew).mono BB.out.size))
  clear B2
  have B2 := B2'
  clear B2'
  clear B3
  have B3 := B3'
  clear B3'
  clear R4
  have R4 := R4'
  clear R4'
  clear R5
  have R5 := R5'
  clear R5'
  clear B8
  have B8 := B8'
  clear B8'
  clear MN
  have MN := MN'
  clear MN'
  clear B9
  have B9 := B9'
  clear B9'
  clear B10
  have B10 := B10'
  clear B10'
  clear BB
  have BB := BB'
  clear BB'
  refine wp_region_held_drew (S := fun w' => w'.cell? ⟨b9, 0, none⟩ = some (.slice y1 np np) ∧ w'.cell? ⟨b9, 1, none⟩ = some (.slice c2 nv nv) ∧ w'.cell? ⟨b10, 0, none⟩ = some (.int .i64 xv) ∧ w'.cell? ⟨b10, 1, none⟩ = some (.int .u32 xe) ∧ w'.cell? ⟨b10, 2, none⟩ = some (.int .u32 xr)) (by kernel_rfl) ⟨B9.out.cells2.1.1, B9.out.cells2.1.2, B10.out.cell 0, B10.out.cell 1, B10.out.cell 2⟩ (fun hHeld => ?_)
  generalize World.drew a3 = V0 at *
  refine wpAnyH_take (i := 0) (oi := { dst := some 39, op := Op.load 31 (Operand.tmp 9), type := 31, pos := "law.go:51", after := #[], guard := none }) (v := ?d1_1xv0) rfl (by kernel_rfl) (by kernel_rfl) (by kernel_rfl) (fun _ _ _ h => h) (Or.inl ⟨by rfl, ?d1_1xy0⟩) (by assumption) ?d1_1xr0
  case d1_1xy0 => (intro w hSw; (try dsimp only at hSw); go_simp; try with_reducible rfl)
  (try simp only [Act.put])
  (try simp only [List.setIfInBounds_toArray])
  (try simp only [List.set_cons_succ])
  (try simp only [List.set_cons_zero])
  refine wpAnyH_take (i := 1) (oi := { dst := some 40, op := Op.load 45 (Operand.tmp 10), type := 45, pos := "law.go:51", after := #[{ on := 5, ground := Ground.gcOnly Departure.lateStores }], guard := none }) (v := ?d1_2xv1) rfl (by kernel_rfl) (by kernel_rfl) (by kernel_rfl) (fun _ _ _ h => h) (Or.inl ⟨by rfl, ?d1_2xy1⟩) (by assumption) ?d1_2xr1
  case d1_2xy1 => (intro w hSw; (try dsimp only at hSw); go_simp; try with_reducible rfl)
  (try simp only [Act.put])
  (try simp only [List.setIfInBounds_toArray])
  (try simp only [List.set_cons_succ])
  (try simp only [List.set_cons_zero])
  refine wpAnyH_take (i := 2) (oi := { dst := some 41, op := Op.move (Operand.tmp 11), type := 32, pos := "law.go:51", after := #[{ on := 6, ground := Ground.gcOnly Departure.lateStores }], guard := none }) (v := ?d1_3xv2) rfl (by kernel_rfl) (by kernel_rfl) (by kernel_rfl) (fun _ _ _ h => h) (Or.inl ⟨by rfl, ?d1_3xy2⟩) (by assumption) ?d1_3xr2
  case d1_3xy2 => (intro w hSw; (try dsimp only at hSw); go_simp; try with_reducible rfl)
  (try simp only [Act.put])
  (try simp only [List.setIfInBounds_toArray])
  (try simp only [List.set_cons_succ])
  (try simp only [List.set_cons_zero])
  refine wpAnyH_take (i := 3) (oi := { dst := some 42, op := Op.binOp BinOp.eql 32 (Operand.tmp 41) (Operand.const (Value.int IntKind.i64 0)) 32, type := 4, pos := "law.go:51", after := #[{ on := 2, ground := Ground.data }, { on := 6, ground := Ground.gcOnly Departure.lateStores }], guard := none }) (v := ?d1_4xv3) rfl (by kernel_rfl) (by kernel_rfl) (by kernel_rfl) (fun _ _ _ h => h) (Or.inl ⟨by rfl, ?d1_4xy3⟩) (by assumption) ?d1_4xr3
  case d1_4xy3 => (intro w hSw; (try dsimp only at hSw); go_simp; try with_reducible rfl)
  (try simp only [Act.put])
  (try simp only [List.setIfInBounds_toArray])
  (try simp only [List.set_cons_succ])
  (try simp only [List.set_cons_zero])
  refine wpAnyH_take (i := 4) (oi := { dst := some 43, op := Op.move (Operand.tmp 11), type := 32, pos := "law.go:51", after := #[{ on := 7, ground := Ground.gcOnly Departure.lateStores }], guard := none }) (v := ?d1_5xv4) rfl (by kernel_rfl) (by kernel_rfl) (by kernel_rfl) (fun _ _ _ h => h) (Or.inl ⟨by rfl, ?d1_5xy4⟩) (by assumption) ?d1_5xr4
  case d1_5xy4 => (intro w hSw; (try dsimp only at hSw); go_simp; try with_reducible rfl)
  (try simp only [Act.put])
  (try simp only [List.setIfInBounds_toArray])
  (try simp only [List.set_cons_succ])
  (try simp only [List.set_cons_zero])
  refine wpAnyH_ready (rs := [5]) (by kernel_rfl) (by simp) ?_
  refine AllReadyH.cons (o := { dst := none, op := Op.store 31 (Operand.tmp 4) (Operand.tmp 39), type := 0, pos := "law.go:51", after := #[{ on := 0, ground := Ground.data }, { on := 0, ground := Ground.phase }, { on := 1, ground := Ground.textOnly Departure.lateStores }, { on := 2, ground := Ground.textOnly Departure.lateStores }, { on := 3, ground := Ground.textOnly Departure.lateStores }, { on := 4, ground := Ground.textOnly Departure.lateStores }], guard := none }) rfl (fun K hK => ?_) AllReadyH.nil
  obtain ⟨⟨m0, m1⟩, g0, g1⟩ := R4.out.cells2
  go_simp
  clear m0 g0 m1 g1
  have B2' := Lib.hid (B2.out.only (by omega) (((Only.refl b4 V0).set 0 (.slice y1 np np)).set 1 (.slice c2 nv nv)))
  have B3' := Lib.hid (B3.out.only (by omega) (((Only.refl b4 V0).set 0 (.slice y1 np np)).set 1 (.slice c2 nv nv)))
  have R4' := Lib.hid (((R4.out).set 0 (.slice y1 np np)).set 1 (.slice c2 nv nv))
  have R5' := Lib.hid (R5.out.only (by omega) (((Only.refl b4 V0).set 0 (.slice y1 np np)).set 1 (.slice c2 nv nv)))
  have B8' := Lib.hid (B8.out.only (by omega) (((Only.refl b4 V0).set 0 (.slice y1 np np)).set 1 (.slice c2 nv nv)))
  have MN' := Lib.hid (MN.out.only R4.out (by rintro (hq | hq) <;> omega) (((Only.refl b4 V0).set 0 (.slice y1 np np)).set 1 (.slice c2 nv nv)))
  have B9' := Lib.hid (B9.out.only (by omega) (((Only.refl b4 V0).set 0 (.slice y1 np np)).set 1 (.slice c2 nv nv)))
  have B10' := Lib.hid (B10.out.only (by omega) (((Only.refl b4 V0).set 0 (.slice y1 np np)).set 1 (.slice c2 nv nv)))
  have BB' := Lib.hid (((BB.out).put b4 (by omega) 0 (.slice y1 np np)).put b4 (by omega) 1 (.slice c2 nv nv))
  clear B2
  have B2 := B2'
  clear B2'
  clear B3
  have B3 := B3'
  clear B3'
  clear R4
  have R4 := R4'
  clear R4'
  clear R5
  have R5 := R5'
  clear R5'
  clear B8
  have B8 := B8'
  clear B8'
  clear MN
  have MN := MN'
  clear MN'
  clear B9
  have B9 := B9'
  clear B9'
  clear B10
  have B10 := B10'
  clear B10'
  clear BB
  have BB := BB'
  clear BB'
  generalize (World.setCell (World.setCell V0 ⟨b4, 0, none⟩ (.slice y1 np np)) ⟨b4, 1, none⟩ (.slice c2 nv nv)) = v1 at *
  refine hK.out _ _ ?_ (fun hHeld => ?_)
  · exact ⟨B9.out.cells2.1.1, B9.out.cells2.1.2, B10.out.cell 0, B10.out.cell 1, B10.out.cell 2⟩
  clear hK K
  (try simp only [Act.put])
  (try simp only [List.setIfInBounds_toArray])
  (try simp only [List.set_cons_succ])
  (try simp only [List.set_cons_zero])
  refine wpAnyH_ready (rs := [6]) (by kernel_rfl) (by simp) ?_
  refine AllReadyH.cons (o := { dst := none, op := Op.store 45 (Operand.tmp 5) (Operand.tmp 40), type := 0, pos := "law.go:51", after := #[{ on := 1, ground := Ground.data }, { on := 5, ground := Ground.chain }, { on := 0, ground := Ground.phase }, { on := 1, ground := Ground.phase }, { on := 2, ground := Ground.textOnly Departure.lateStores }, { on := 3, ground := Ground.textOnly Departure.lateStores }, { on := 4, ground := Ground.textOnly Departure.lateStores }, { on := 5, ground := Ground.phase }], guard := none }) rfl (fun K hK => ?_) AllReadyH.nil
  obtain ⟨⟨m0, m1, m2⟩, g0, g1, g2⟩ := R5.out.cells3
  go_simp
  clear m0 g0 m1 g1 m2 g2
  have B2' := Lib.hid (B2.out.only (by omega) ((((Only.refl b5 v1).set 0 (.int .i64 xv)).set 1 (.int .u32 xe)).set 2 (.int .u32 xr)))
  have B3' := Lib.hid (B3.out.only (by omega) ((((Only.refl b5 v1).set 0 (.int .i64 xv)).set 1 (.int .u32 xe)).set 2 (.int .u32 xr)))
  have R4' := Lib.hid (R4.out.only (by omega) ((((Only.refl b5 v1).set 0 (.int .i64 xv)).set 1 (.int .u32 xe)).set 2 (.int .u32 xr)))
  have R5' := Lib.hid ((((R5.out).set 0 (.int .i64 xv)).set 1 (.int .u32 xe)).set 2 (.int .u32 xr))
  have B8' := Lib.hid (B8.out.only (by omega) ((((Only.refl b5 v1).set 0 (.int .i64 xv)).set 1 (.int .u32 xe)).set 2 (.int .u32 xr)))
  have MN' := Lib.hid (MN.out.only R5.out (by rintro (hq | hq) <;> omega) ((((Only.refl b5 v1).set 0 (.int .i64 xv)).set 1 (.int .u32 xe)).set 2 (.int .u32 xr)))
  have B9' := Lib.hid (B9.out.only (by omega) ((((Only.refl b5 v1).set 0 (.int .i64 xv)).set 1 (.int .u32 xe)).set 2 (.int .u32 xr)))
  have B10' := Lib.hid (B10.out.only (by omega) ((((Only.refl b5 v1).set 0 (.int .i64 xv)).set 1 (.int .u32 xe)).set 2 (.int .u32 xr)))
  have BB' := Lib.hid ((((BB.out).put b5 (by omega) 0 (.int .i64 xv)).put b5 (by omega) 1 (.int .u32 xe)).put b5 (by omega) 2 (.int .u32 xr))
  clear B2
  have B2 := B2'
  clear B2'
  clear B3
  have B3 := B3'
  clear B3'
  clear R4
  have R4 := R4'
  clear R4'
  clear R5
  have R5 := R5'
  clear R5'
  clear B8
  have B8 := B8'
  clear B8'
  clear MN
  have MN := MN'
  clear MN'
  clear B9
  have B9 := B9'
  clear B9'
  clear B10
  have B10 := B10'
  clear B10'
  clear BB
  have BB := BB'
  clear BB'
  generalize (World.setCell (World.setCell (World.setCell v1 ⟨b5, 0, none⟩ (.int .i64 xv)) ⟨b5, 1, none⟩ (.int .u32 xe)) ⟨b5, 2, none⟩ (.int .u32 xr)) = v2 at *
  refine hK.out _ _ ?_ (fun hHeld => ?_)
  · exact ⟨B9.out.cells2.1.1, B9.out.cells2.1.2, B10.out.cell 0, B10.out.cell 1, B10.out.cell 2⟩
  clear hK K
  (try simp only [Act.put])
  (try simp only [List.setIfInBounds_toArray])
  (try simp only [List.set_cons_succ])
  (try simp only [List.set_cons_zero])
  refine wpAnyH_ready (rs := [7]) (by kernel_rfl) (by simp) ?_
  refine AllReadyH.cons (o := { dst := some 6, op := Op.assign (Operand.tmp 42), type := 4, pos := "law.go:51", after := #[{ on := 3, ground := Ground.data }, { on := 6, ground := Ground.chain }, { on := 0, ground := Ground.phase }, { on := 1, ground := Ground.phase }, { on := 2, ground := Ground.phase }, { on := 3, ground := Ground.phase }, { on := 4, ground := Ground.textOnly Departure.lateStores }, { on := 5, ground := Ground.phase }, { on := 6, ground := Ground.phase }], guard := none }) rfl (fun K hK => ?_) AllReadyH.nil
  go_simp
  refine hK.out _ _ ?_ (fun hHeld => ?_)
  · exact ⟨B9.out.cells2.1.1, B9.out.cells2.1.2, B10.out.cell 0, B10.out.cell 1, B10.out.cell 2⟩
  clear hK K
  (try simp only [Act.put])
  (try simp only [List.setIfInBounds_toArray])
  (try simp only [List.set_cons_succ])
  (try simp only [List.set_cons_zero])
  refine wpAnyH_ready (rs := [8]) (by kernel_rfl) (by simp) ?_
  refine AllReadyH.cons (o := { dst := some 7, op := Op.assign (Operand.tmp 43), type := 32, pos := "law.go:51", after := #[{ on := 4, ground := Ground.data }, { on := 7, ground := Ground.chain }, { on := 0, ground := Ground.phase }, { on := 1, ground := Ground.phase }, { on := 2, ground := Ground.phase }, { on := 3, ground := Ground.phase }, { on := 4, ground := Ground.phase }, { on := 5, ground := Ground.phase }, { on := 6, ground := Ground.phase }, { on := 7, ground := Ground.phase }], guard := none }) rfl (fun K hK => ?_) AllReadyH.nil
  go_simp
  refine hK.out _ _ ?_ (fun hHeld => ?_)
  · exact ⟨B9.out.cells2.1.1, B9.out.cells2.1.2, B10.out.cell 0, B10.out.cell 1, B10.out.cell 2⟩
  clear hK K
  (try simp only [Act.put])
  (try simp only [List.setIfInBounds_toArray])
  (try simp only [List.set_cons_succ])
  (try simp only [List.set_cons_zero])
  refine wpAnyH_done (by kernel_rfl) ?_ _
  obtain ⟨⟨m0, m1⟩, -⟩ := R4.out.cells2
  obtain ⟨⟨k0, k1, k2⟩, -⟩ := R5.out.cells3
  have F1 := MN.out.imp (D' := Dn D w) (fun b hb => by
    rcases hb with hb | hb
    · exact .inl hb.1
    · exact .inr (by omega))
  have F2 := BB.out
  go_wp2
  refine bodyPost_ret (v := .tuple #[.agg #[.slice y1 np np, .slice c2 nv nv], .agg #[.int .i64 xv, .int .u32 xe, .int .u32 xr], .bool true, .int .i64 0]) (by simp [results, Try.f14, go_sem, m0, m1, k0, k1, k2]) rfl ?_
  exact ⟨_, _, rfl, F1, F2⟩

set_option maxRecDepth 100000 in
set_option maxHeartbeats 3200000 in
theorem do_look (pv vv : Value) (M : Mem) (N k p : Nat) (oa ob oc na nb nc z : Int) (w : World) (D : Nat → Prop) (h : MD D w pv vv M) (G : M.Good N) (hN : N ≤ 999) (hk : k < M.vs.length) (hpn : p < M.hs.length) :
    Calls Try.prog 14 #[.agg #[pv, vv], .agg #[.int .i64 ((k : Int) + 1), .int .i64 5, .int .i64 p, .int .i64 oa, .int .u32 ob, .int .u32 oc, .int .i64 na, .int .u32 nb, .int .u32 nc, .int .i64 z]] w fun e w' => ∃ pv' vv', e = .returned (.tuple #[.agg #[pv', vv'], wordV (M.msg p ((M.hist p).length - 1)), .bool true, .int .i64 0]) ∧ MD (Dn D w) w' pv' vv' (M.readAt k p ((M.hist p).length - 1) true) ∧ Below w.heap.size w w' := by
  obtain ⟨np, hnp⟩ : ∃ n, M.hs.length = n := ⟨_, rfl⟩
  obtain ⟨nv, hnv⟩ : ∃ n, M.vs.length = n := ⟨_, rfl⟩
  obtain ⟨y1, y2, rfl, rfl⟩ := h.sl hnp hnv
  have HNP := Lib.hid hnp
  have HNV := Lib.hid hnv
  have HG := Lib.hid G
  rw [hnp] at hpn
  rw [hnv] at hk
  have hl1 := G.np
  have hl2 := G.nv
  rw [hnp] at hl1
  rw [hnv] at hl2
  clear hnp hnv
  rw [show wordV (M.msg p ((M.hist p).length - 1)) = .agg #[.int .i64 (M.msg p ((M.hist p).length - 1)).val, .int .u32 (M.msg p ((M.hist p).length - 1)).ver, .int .u32 (M.msg p ((M.hist p).length - 1)).ref] from rfl]
  obtain ⟨i, hi⟩ : ∃ i, ((M.hist p).length - 1) = i := ⟨_, rfl⟩
  rw [hi]
  have HI := Lib.hid hi
  obtain ⟨xv, hxv⟩ : ∃ x, (M.msg p i).val = x := ⟨_, rfl⟩
  obtain ⟨xe, hxe⟩ : ∃ x, (M.msg p i).ver = x := ⟨_, rfl⟩
  obtain ⟨xr, hxr⟩ : ∃ x, (M.msg p i).ref = x := ⟨_, rfl⟩
  rw [hxv, hxe, hxr]
  have HWD : Hid (wordV (M.msg p i) = .agg #[.int .i64 xv, .int .u32 xe, .int .u32 xr]) := Lib.hid (by unfold wordV; rw [hxv, hxe, hxr])
  clear hi hxv hxe hxr
  have B2 := Lib.hid (Box.alloc (Box.alloc (Box.alloc (Box.new w #[.slice y1 np np, .slice y2 nv nv] 31 (n := w.heap.size) (by simp)) (.cells #[.int .i64 ((k : Int) + 1), .int .i64 5, .int .i64 p, .int .i64 oa, .int .u32 ob, .int .u32 oc, .int .i64 na, .int .u32 nb, .int .u32 nc, .int .i64 z] 49)) (.cells #[.slice none 0 0, .slice none 0 0] 31)) (.cells #[.int .i64 0, .int .u32 0, .int .u32 0] 45))
  have B3 := Lib.hid (Box.alloc (Box.alloc (Box.new (w.alloc (.cells #[.slice y1 np np, .slice y2 nv nv] 31)) #[.int .i64 ((k : Int) + 1), .int .i64 5, .int .i64 p, .int .i64 oa, .int .u32 ob, .int .u32 oc, .int .i64 na, .int .u32 nb, .int .u32 nc, .int .i64 z] 49 (n := w.heap.size + 1) (by simp)) (.cells #[.slice none 0 0, .slice none 0 0] 31)) (.cells #[.int .i64 0, .int .u32 0, .int .u32 0] 45))
  have R4 := Lib.hid (Box.alloc (Box.new ((w.alloc (.cells #[.slice y1 np np, .slice y2 nv nv] 31)).alloc (.cells #[.int .i64 ((k : Int) + 1), .int .i64 5, .int .i64 p, .int .i64 oa, .int .u32 ob, .int .u32 oc, .int .i64 na, .int .u32 nb, .int .u32 nc, .int .i64 z] 49)) #[.slice none 0 0, .slice none 0 0] 31 (n := w.heap.size + 1 + 1) (by simp)) (.cells #[.int .i64 0, .int .u32 0, .int .u32 0] 45))
  have R5 := Lib.hid (Box.new (((w.alloc (.cells #[.slice y1 np np, .slice y2 nv nv] 31)).alloc (.cells #[.int .i64 ((k : Int) + 1), .int .i64 5, .int .i64 p, .int .i64 oa, .int .u32 ob, .int .u32 oc, .int .i64 na, .int .u32 nb, .int .u32 nc, .int .i64 z] 49)).alloc (.cells #[.slice none 0 0, .slice none 0 0] 31)) #[.int .i64 0, .int .u32 0, .int .u32 0] 45 (n := w.heap.size + 1 + 1 + 1) (by simp))
  have BB := Lib.hid (((((Below.refl w.heap.size w).alloc (by simp <;> omega) (.cells #[.slice y1 np np, .slice y2 nv nv] 31)).alloc (by simp <;> omega) (.cells #[.int .i64 ((k : Int) + 1), .int .i64 5, .int .i64 p, .int .i64 oa, .int .u32 ob, .int .u32 oc, .int .i64 na, .int .u32 nb, .int .u32 nc, .int .i64 z] 49)).alloc (by simp <;> omega) (.cells #[.slice none 0 0, .slice none 0 0] 31)).alloc (by simp <;> omega) (.cells #[.int .i64 0, .int .u32 0, .int .u32 0] 45))
  have MM := Lib.hid (h.addlt.below (((((Below.refl w.heap.size w).alloc (by simp <;> omega) (.cells #[.slice y1 np np, .slice y2 nv nv] 31)).alloc (by simp <;> omega) (.cells #[.int .i64 ((k : Int) + 1), .int .i64 5, .int .i64 p, .int .i64 oa, .int .u32 ob, .int .u32 oc, .int .i64 na, .int .u32 nb, .int .u32 nc, .int .i64 z] 49)).alloc (by simp <;> omega) (.cells #[.slice none 0 0, .slice none 0 0] 31)).alloc (by simp <;> omega) (.cells #[.int .i64 0, .int .u32 0, .int .u32 0] 45)))
  clear h G
  go_enter Try.func14, Try.ntmps14
  go_upto_region 1 with fail
  generalize ((((w.alloc (.cells #[.slice y1 np np, .slice y2 nv nv] 31)).alloc (.cells #[.int .i64 ((k : Int) + 1), .int .i64 5, .int .i64 p, .int .i64 oa, .int .u32 ob, .int .u32 oc, .int .i64 na, .int .u32 nb, .int .u32 nc, .int .i64 z] 49)).alloc (.cells #[.slice none 0 0, .slice none 0 0] 31)).alloc (.cells #[.int .i64 0, .int .u32 0, .int .u32 0] 45)) = W0 at *
  obtain ⟨b5, hb5⟩ : ∃ b, w.heap.size + 1 + 1 + 1 = b := ⟨_, rfl⟩
  obtain ⟨b4, hb4⟩ : ∃ b, w.heap.size + 1 + 1 = b := ⟨_, rfl⟩
  obtain ⟨b3, hb3⟩ : ∃ b, w.heap.size + 1 = b := ⟨_, rfl⟩
  obtain ⟨b2, hb2⟩ : ∃ b, w.heap.size = b := ⟨_, rfl⟩
  have hbq := hb2
  rw [hb5] at R5 ⊢
  rw [hb4] at R4 hb5 ⊢
  rw [hb3] at B3 hb4 ⊢
  rw [hb2] at B2 hb3 ⊢
  obtain ⟨d0, d1, d2, d3, d4, d5, d6, d7, d8, d9⟩ := B3.out.all10
  go_upto_region 2 with fail
  clear d0 d1 d2 d3 d4 d5 d6 d7 d8 d9
  have hlt_b8 := BB.out.size
  have hlt_b8_B2 := B2.out.lt
  have hlt_b8_B3 := B3.out.lt
  have hlt_b8_R4 := R4.out.lt
  have hlt_b8_R5 := R5.out.lt
  have B2' := Lib.hid (B2.out.below (below_new W0 (.cells #[.int .i64 5, .int .i64 p, .int .i64 oa, .int .u32 ob, .int .u32 oc, .int .i64 na, .int .u32 nb, .int .u32 nc] 47)))
  have B3' := Lib.hid (B3.out.below (below_new W0 (.cells #[.int .i64 5, .int .i64 p, .int .i64 oa, .int .u32 ob, .int .u32 oc, .int .i64 na, .int .u32 nb, .int .u32 nc] 47)))
  have R4' := Lib.hid (R4.out.below (below_new W0 (.cells #[.int .i64 5, .int .i64 p, .int .i64 oa, .int .u32 ob, .int .u32 oc, .int .i64 na, .int .u32 nb, .int .u32 nc] 47)))
  have R5' := Lib.hid (R5.out.below (below_new W0 (.cells #[.int .i64 5, .int .i64 p, .int .i64 oa, .int .u32 ob, .int .u32 oc, .int .i64 na, .int .u32 nb, .int .u32 nc] 47)))
  have MM' := Lib.hid (MM.out.below (below_new W0 (.cells #[.int .i64 5, .int .i64 p, .int .i64 oa, .int .u32 ob, .int .u32 oc, .int .i64 na, .int .u32 nb, .int .u32 nc] 47)))
  have BB' := Lib.hid (BB.out.trans ((below_new W0 (.cells #[.int .i64 5, .int .i64 p, .int .i64 oa, .int .u32 ob, .int .u32 oc, .int .i64 na, .int .u32 nb, .int .u32 nc] 47)).mono BB.out.size))
  clear B2
  have B2 := B2'
  clear B2'
  clear B3
  have B3 := B3'
  clear B3'
  clear R4
  have R4 := R4'
  clear R4'
  clear R5
  have R5 := R5'
  clear R5'
  clear MM
  have MM := MM'
  clear MM'
  clear BB
  have BB := BB'
  clear BB'
  have B8 := Lib.hid (Box.new W0 #[.int .i64 5, .int .i64 p, .int .i64 oa, .int .u32 ob, .int .u32 oc, .int .i64 na, .int .u32 nb, .int .u32 nc] 47 rfl)
  have hsz_b8 : (World.alloc W0 (.cells #[.int .i64 5, .int .i64 p, .int .i64 oa, .int .u32 ob, .int .u32 oc, .int .i64 na, .int .u32 nb, .int .u32 nc] 47)).heap.size = (World.heap W0).size + 1 := by simp
  generalize World.alloc W0 (.cells #[.int .i64 5, .int .i64 p, .int .i64 oa, .int .u32 ob, .int .u32 oc, .int .i64 na, .int .u32 nb, .int .u32 nc] 47) = a0 at *
  generalize World.heap W0 = hp_b8 at *
  generalize hp_b8.size = b8 at *
  obtain ⟨d0, d1, d2, d3, d4, d5, d6, d7, d8, d9⟩ := B3.out.all10
  obtain ⟨e0, e1, e2, e3, e4, e5, e6, e7⟩ := B8.out.all8
  obtain ⟨⟨m0, m1⟩, -⟩ := B2.out.cells2
  go_wp2_with fail
  clear d0 d1 d2 d3 d4 d5 d6 d7 d8 d9 e0 e1 e2 e3 e4 e5 e6 e7 m0 m1
  have q4 := R4.out.lt
  have q5 := R5.out.lt
  refine (look_ok _ _ M N k p _ _ MM.out HG.out (by omega) (by rw [HNV.out]; exact hk) (by rw [HNP.out]; exact hpn)).mono ?_
  rintro e a1 ⟨vv, rfl, hm, hb⟩
  have B2' := Lib.hid (B2.out.below (hb))
  have B3' := Lib.hid (B3.out.below (hb))
  have R4' := Lib.hid (R4.out.below (hb))
  have R5' := Lib.hid (R5.out.below (hb))
  have MM' := Lib.hid (MM.out.below (hb))
  have B8' := Lib.hid (B8.out.below (hb))
  have BB' := Lib.hid (BB.out.trans ((hb).mono BB.out.size))
  clear B2
  have B2 := B2'
  clear B2'
  clear B3
  have B3 := B3'
  clear B3'
  clear R4
  have R4 := R4'
  clear R4'
  clear R5
  have R5 := R5'
  clear R5'
  clear MM
  have MM := MM'
  clear MM'
  clear B8
  have B8 := B8'
  clear B8'
  clear BB
  have BB := BB'
  clear BB'
  clear hb
  have MN := Lib.hid (hm)
  clear hm MM
  rw [HI.out, HWD.out]
  rw [HI.out] at MN
  obtain ⟨_, c2, -, e2⟩ := MN.out.sl (np := np) (nv := nv) HNP.out (by simp [Mem.readAt, HNV.out])
  subst e2
  go_upto_region 13 with fail
  have hlt_b9 := BB.out.size
  have hlt_b9_B2 := B2.out.lt
  have hlt_b9_B3 := B3.out.lt
  have hlt_b9_R4 := R4.out.lt
  have hlt_b9_R5 := R5.out.lt
  have hlt_b9_B8 := B8.out.lt
  have B2' := Lib.hid (B2.out.below (below_new a1 (.cells #[.slice y1 np np, .slice c2 nv nv] 31)))
  have B3' := Lib.hid (B3.out.below (below_new a1 (.cells #[.slice y1 np np, .slice c2 nv nv] 31)))
  have R4' := Lib.hid (R4.out.below (below_new a1 (.cells #[.slice y1 np np, .slice c2 nv nv] 31)))
  have R5' := Lib.hid (R5.out.below (below_new a1 (.cells #[.slice y1 np np, .slice c2 nv nv] 31)))
  have B8' := Lib.hid (B8.out.below (below_new a1 (.cells #[.slice y1 np np, .slice c2 nv nv] 31)))
  have MN' := Lib.hid (MN.out.below (below_new a1 (.cells #[.slice y1 np np, .slice c2 nv nv] 31)))
  have BB' := Lib.hid (BB.out.trans ((below_new a1 (.cells #[.slice y1 np np, .slice c2 nv nv] 31)).mono BB.out.size))
  clear B2
  have B2 := B2'
  clear B2'
  clear B3
  have B3 := B3'
  clear B3'
  clear R4
  have R4 := R4'
  clear R4'
  clear R5
  have R5 := R5'
  clear R5'
  clear B8
  have B8 := B8'
  clear B8'
  clear MN
  have MN := MN'
  clear MN'
  clear BB
  have BB := BB'
  clear BB'
  have B9 := Lib.hid (Box.new a1 #[.slice y1 np np, .slice c2 nv nv] 31 rfl)
  have hsz_b9 : (World.alloc a1 (.cells #[.slice y1 np np, .slice c2 nv nv] 31)).heap.size = (World.heap a1).size + 1 := by simp
  generalize World.alloc a1 (.cells #[.slice y1 np np, .slice c2 nv nv] 31) = a2 at *
  generalize World.heap a1 = hp_b9 at *
  generalize hp_b9.size = b9 at *
  have hlt_b10 := BB.out.size
  have B2' := Lib.hid (B2.out.below (below_new a2 (.cells #[.int .i64 xv, .int .u32 xe, .int .u32 xr] 45)))
  have B3' := Lib.hid (B3.out.below (below_new a2 (.cells #[.int .i64 xv, .int .u32 xe, .int .u32 xr] 45)))
  have R4' := Lib.hid (R4.out.below (below_new a2 (.cells #[.int .i64 xv, .int .u32 xe, .int .u32 xr] 45)))
  have R5' := Lib.hid (R5.out.below (below_new a2 (.cells #[.int .i64 xv, .int .u32 xe, .int .u32 xr] 45)))
  have B8' := Lib.hid (B8.out.below (below_new a2 (.cells #[.int .i64 xv, .int .u32 xe, .int .u32 xr] 45)))
  have MN' := Lib.hid (MN.out.below (below_new a2 (.cells #[.int .i64 xv, .int .u32 xe, .int .u32 xr] 45)))
  have B9' := Lib.hid (B9.out.below (below_new a2 (.cells #[.int .i64 xv, .int .u32 xe, .int .u32 xr] 45)))
  have BB' := Lib.hid (BB.out.trans ((below_new a2 (.cells #[.int .i64 xv, .int .u32 xe, .int .u32 xr] 45)).mono BB.out.size))
  clear B2
  have B2 := B2'
  clear B2'
  clear B3
  have B3 := B3'
  clear B3'
  clear R4
  have R4 := R4'
  clear R4'
  clear R5
  have R5 := R5'
  clear R5'
  clear B8
  have B8 := B8'
  clear B8'
  clear MN
  have MN := MN'
  clear MN'
  clear B9
  have B9 := B9'
  clear B9'
  clear BB
  have BB := BB'
  clear BB'
  have B10 := Lib.hid (Box.new a2 #[.int .i64 xv, .int .u32 xe, .int .u32 xr] 45 (n := b9 + 1) hsz_b9.symm)
  have hsz_b10 : (World.alloc a2 (.cells #[.int .i64 xv, .int .u32 xe, .int .u32 xr] 45)).heap.size = b9 + 1 + 1 := by simp [hsz_b9]
  rw [hsz_b9] at hlt_b10
  generalize World.alloc a2 (.cells #[.int .i64 xv, .int .u32 xe, .int .u32 xr] 45) = a3 at *
  obtain ⟨b10, hq_b10⟩ : ∃ b, b9 + 1 = b := ⟨_, rfl⟩
  rw [hq_b10] at B10 hsz_b10 ⊢
  have B2' := Lib.hid (B2.out.below ((Below.refl _ _).drew))
  have B3' := Lib.hid (B3.out.below ((Below.refl _ _).drew))
  have R4' := Lib.hid (R4.out.below ((Below.refl _ _).drew))
  have R5' := Lib.hid (R5.out.below ((Below.refl _ _).drew))
  have B8' := Lib.hid (B8.out.below ((Below.refl _ _).drew))
  have MN' := Lib.hid (MN.out.below ((Below.refl _ _).drew))
  have B9' := Lib.hid (B9.out.below ((Below.refl _ _).drew))
  have B10' := Lib.hid (B10.out.below ((Below.refl _ _).drew))
  have BB' := Lib.hid (BB.out.trans (((Below.refl _ _).drew).mono BB.out.size))
  clear B2
  have B2 := B2'
  clear B2'
  clear B3
  have B3 := B3'
  clear B3'
  clear R4
  have R4 := R4'
  clear R4'
  clear R5
  have R5 := R5'
  clear R5'
  clear B8
  have B8 := B8'
  clear B8'
  clear MN
  have MN := MN'
  clear MN'
  clear B9
  have B9 := B9'
  clear B9'
  clear B10
  have B10 := B10'
  clear B10'
  clear BB
  have BB := BB'
  clear BB'
  refine wp_region_held_drew (S := fun w' => w'.cell? ⟨b9, 0, none⟩ = some (.slice y1 np np) ∧ w'.cell? ⟨b9, 1, none⟩ = some (.slice c2 nv nv) ∧ w'.cell? ⟨b10, 0, none⟩ = some (.int .i64 xv) ∧ w'.cell? ⟨b10, 1, none⟩ = some (.int .u32 xe) ∧ w'.cell? ⟨b10, 2, none⟩ = some (.int .u32 xr)) (by kernel_rfl) ⟨B9.out.cells2.1.1, B9.out.cells2.1.2, B10.out.cell 0, B10.out.cell 1, B10.out.cell 2⟩ (fun hHeld => ?_)
  generalize World.drew a3 = V0 at *
  refine wpAnyH_take (i := 0) (oi := { dst := some 78, op := Op.load 31 (Operand.tmp 14), type := 31, pos := "law.go:57", after := #[], guard := none }) (v := ?d1_1xv0) rfl (by kernel_rfl) (by kernel_rfl) (by kernel_rfl) (fun _ _ _ h => h) (Or.inl ⟨by rfl, ?d1_1xy0⟩) (by assumption) ?d1_1xr0
  case d1_1xy0 => (intro w hSw; (try dsimp only at hSw); go_simp; try with_reducible rfl)
  (try simp only [Act.put])
  (try simp only [List.setIfInBounds_toArray])
  (try simp only [List.set_cons_succ])
  (try simp only [List.set_cons_zero])
  refine wpAnyH_take (i := 1) (oi := { dst := some 79, op := Op.load 45 (Operand.tmp 15), type := 45, pos := "law.go:57", after := #[{ on := 5, ground := Ground.gcOnly Departure.lateStores }], guard := none }) (v := ?d1_2xv1) rfl (by kernel_rfl) (by kernel_rfl) (by kernel_rfl) (fun _ _ _ h => h) (Or.inl ⟨by rfl, ?d1_2xy1⟩) (by assumption) ?d1_2xr1
  case d1_2xy1 => (intro w hSw; (try dsimp only at hSw); go_simp; try with_reducible rfl)
  (try simp only [Act.put])
  (try simp only [List.setIfInBounds_toArray])
  (try simp only [List.set_cons_succ])
  (try simp only [List.set_cons_zero])
  refine wpAnyH_take (i := 2) (oi := { dst := some 80, op := Op.move (Operand.tmp 16), type := 32, pos := "law.go:57", after := #[{ on := 6, ground := Ground.gcOnly Departure.lateStores }], guard := none }) (v := ?d1_3xv2) rfl (by kernel_rfl) (by kernel_rfl) (by kernel_rfl) (fun _ _ _ h => h) (Or.inl ⟨by rfl, ?d1_3xy2⟩) (by assumption) ?d1_3xr2
  case d1_3xy2 => (intro w hSw; (try dsimp only at hSw); go_simp; try with_reducible rfl)
  (try simp only [Act.put])
  (try simp only [List.setIfInBounds_toArray])
  (try simp only [List.set_cons_succ])
  (try simp only [List.set_cons_zero])
  refine wpAnyH_take (i := 3) (oi := { dst := some 81, op := Op.binOp BinOp.eql 32 (Operand.tmp 80) (Operand.const (Value.int IntKind.i64 0)) 32, type := 4, pos := "law.go:57", after := #[{ on := 2, ground := Ground.data }, { on := 6, ground := Ground.gcOnly Departure.lateStores }], guard := none }) (v := ?d1_4xv3) rfl (by kernel_rfl) (by kernel_rfl) (by kernel_rfl) (fun _ _ _ h => h) (Or.inl ⟨by rfl, ?d1_4xy3⟩) (by assumption) ?d1_4xr3
  case d1_4xy3 => (intro w hSw; (try dsimp only at hSw); go_simp; try with_reducible rfl)
  (try simp only [Act.put])
  (try simp only [List.setIfInBounds_toArray])
  (try simp only [List.set_cons_succ])
  (try simp only [List.set_cons_zero])
  refine wpAnyH_take (i := 4) (oi := { dst := some 82, op := Op.move (Operand.tmp 16), type := 32, pos := "law.go:57", after := #[{ on := 7, ground := Ground.gcOnly Departure.lateStores }], guard := none }) (v := ?d1_5xv4) rfl (by kernel_rfl) (by kernel_rfl) (by kernel_rfl) (fun _ _ _ h => h) (Or.inl ⟨by rfl, ?d1_5xy4⟩) (by assumption) ?d1_5xr4
  case d1_5xy4 => (intro w hSw; (try dsimp only at hSw); go_simp; try with_reducible rfl)
  (try simp only [Act.put])
  (try simp only [List.setIfInBounds_toArray])
  (try simp only [List.set_cons_succ])
  (try simp only [List.set_cons_zero])
  refine wpAnyH_ready (rs := [5]) (by kernel_rfl) (by simp) ?_
  refine AllReadyH.cons (o := { dst := none, op := Op.store 31 (Operand.tmp 4) (Operand.tmp 78), type := 0, pos := "law.go:57", after := #[{ on := 0, ground := Ground.data }, { on := 0, ground := Ground.phase }, { on := 1, ground := Ground.textOnly Departure.lateStores }, { on := 2, ground := Ground.textOnly Departure.lateStores }, { on := 3, ground := Ground.textOnly Departure.lateStores }, { on := 4, ground := Ground.textOnly Departure.lateStores }], guard := none }) rfl (fun K hK => ?_) AllReadyH.nil
  obtain ⟨⟨m0, m1⟩, g0, g1⟩ := R4.out.cells2
  go_simp
  clear m0 g0 m1 g1
  have B2' := Lib.hid (B2.out.only (by omega) (((Only.refl b4 V0).set 0 (.slice y1 np np)).set 1 (.slice c2 nv nv)))
  have B3' := Lib.hid (B3.out.only (by omega) (((Only.refl b4 V0).set 0 (.slice y1 np np)).set 1 (.slice c2 nv nv)))
  have R4' := Lib.hid (((R4.out).set 0 (.slice y1 np np)).set 1 (.slice c2 nv nv))
  have R5' := Lib.hid (R5.out.only (by omega) (((Only.refl b4 V0).set 0 (.slice y1 np np)).set 1 (.slice c2 nv nv)))
  have B8' := Lib.hid (B8.out.only (by omega) (((Only.refl b4 V0).set 0 (.slice y1 np np)).set 1 (.slice c2 nv nv)))
  have MN' := Lib.hid (MN.out.only R4.out (by rintro (hq | hq) <;> omega) (((Only.refl b4 V0).set 0 (.slice y1 np np)).set 1 (.slice c2 nv nv)))
  have B9' := Lib.hid (B9.out.only (by omega) (((Only.refl b4 V0).set 0 (.slice y1 np np)).set 1 (.slice c2 nv nv)))
  have B10' := Lib.hid (B10.out.only (by omega) (((Only.refl b4 V0).set 0 (.slice y1 np np)).set 1 (.slice c2 nv nv)))
  have BB' := Lib.hid (((BB.out).put b4 (by omega) 0 (.slice y1 np np)).put b4 (by omega) 1 (.slice c2 nv nv))
  clear B2
  have B2 := B2'
  clear B2'
  clear B3
  have B3 := B3'
  clear B3'
  clear R4
  have R4 := R4'
  clear R4'
  clear R5
  have R5 := R5'
  clear R5'
  clear B8
  have B8 := B8'
  clear B8'
  clear MN
  have MN := MN'
  clear MN'
  clear B9
  have B9 := B9'
  clear B9'
  clear B10
  have B10 := B10'
  clear B10'
  clear BB
  have BB := BB'
  clear BB'
  generalize (World.setCell (World.setCell V0 ⟨b4, 0, none⟩ (.slice y1 np np)) ⟨b4, 1, none⟩ (.slice c2 nv nv)) = v1 at *
  refine hK.out _ _ ?_ (fun hHeld => ?_)
  · exact ⟨B9.out.cells2.1.1, B9.out.cells2.1.2, B10.out.cell 0, B10.out.cell 1, B10.out.cell 2⟩
  clear hK K
  (try simp only [Act.put])
  (try simp only [List.setIfInBounds_toArray])
  (try simp only [List.set_cons_succ])
  (try simp only [List.set_cons_zero])
  refine wpAnyH_ready (rs := [6]) (by kernel_rfl) (by simp) ?_
  refine AllReadyH.cons (o := { dst := none, op := Op.store 45 (Operand.tmp 5) (Operand.tmp 79), type := 0, pos := "law.go:57", after := #[{ on := 1, ground := Ground.data }, { on := 5, ground := Ground.chain }, { on := 0, ground := Ground.phase }, { on := 1, ground := Ground.phase }, { on := 2, ground := Ground.textOnly Departure.lateStores }, { on := 3, ground := Ground.textOnly Departure.lateStores }, { on := 4, ground := Ground.textOnly Departure.lateStores }, { on := 5, ground := Ground.phase }], guard := none }) rfl (fun K hK => ?_) AllReadyH.nil
  obtain ⟨⟨m0, m1, m2⟩, g0, g1, g2⟩ := R5.out.cells3
  go_simp
  clear m0 g0 m1 g1 m2 g2
  have B2' := Lib.hid (B2.out.only (by omega) ((((Only.refl b5 v1).set 0 (.int .i64 xv)).set 1 (.int .u32 xe)).set 2 (.int .u32 xr)))
  have B3' := Lib.hid (B3.out.only (by omega) ((((Only.refl b5 v1).set 0 (.int .i64 xv)).set 1 (.int .u32 xe)).set 2 (.int .u32 xr)))
  have R4' := Lib.hid (R4.out.only (by omega) ((((Only.refl b5 v1).set 0 (.int .i64 xv)).set 1 (.int .u32 xe)).set 2 (.int .u32 xr)))
  have R5' := Lib.hid ((((R5.out).set 0 (.int .i64 xv)).set 1 (.int .u32 xe)).set 2 (.int .u32 xr))
  have B8' := Lib.hid (B8.out.only (by omega) ((((Only.refl b5 v1).set 0 (.int .i64 xv)).set 1 (.int .u32 xe)).set 2 (.int .u32 xr)))
  have MN' := Lib.hid (MN.out.only R5.out (by rintro (hq | hq) <;> omega) ((((Only.refl b5 v1).set 0 (.int .i64 xv)).set 1 (.int .u32 xe)).set 2 (.int .u32 xr)))
  have B9' := Lib.hid (B9.out.only (by omega) ((((Only.refl b5 v1).set 0 (.int .i64 xv)).set 1 (.int .u32 xe)).set 2 (.int .u32 xr)))
  have B10' := Lib.hid (B10.out.only (by omega) ((((Only.refl b5 v1).set 0 (.int .i64 xv)).set 1 (.int .u32 xe)).set 2 (.int .u32 xr)))
  have BB' := Lib.hid ((((BB.out).put b5 (by omega) 0 (.int .i64 xv)).put b5 (by omega) 1 (.int .u32 xe)).put b5 (by omega) 2 (.int .u32 xr))
  clear B2
  have B2 := B2'
  clear B2'
  clear B3
  have B3 := B3'
  clear B3'
  clear R4
  have R4 := R4'
  clear R4'
  clear R5
  have R5 := R5'
  clear R5'
  clear B8
  have B8 := B8'
  clear B8'
  clear MN
  have MN := MN'
  clear MN'
  clear B9
  have B9 := B9'
  clear B9'
  clear B10
  have B10 := B10'
  clear B10'
  clear BB
  have BB := BB'
  clear BB'
  generalize (World.setCell (World.setCell (World.setCell v1 ⟨b5, 0, none⟩ (.int .i64 xv)) ⟨b5, 1, none⟩ (.int .u32 xe)) ⟨b5, 2, none⟩ (.int .u32 xr)) = v2 at *
  refine hK.out _ _ ?_ (fun hHeld => ?_)
  · exact ⟨B9.out.cells2.1.1, B9.out.cells2.1.2, B10.out.cell 0, B10.out.cell 1, B10.out.cell 2⟩
  clear hK K
  (try simp only [Act.put])
  (try simp only [List.setIfInBounds_toArray])
  (try simp only [List.set_cons_succ])
  (try simp only [List.set_cons_zero])
  refine wpAnyH_ready (rs := [7]) (by kernel_rfl) (by simp) ?_
  refine AllReadyH.cons (o := { dst := some 6, op := Op.assign (Operand.tmp 81), type := 4, pos := "law.go:57", after := #[{ on := 3, ground := Ground.data }, { on := 6, ground := Ground.chain }, { on := 0, ground := Ground.phase }, { on := 1, ground := Ground.phase }, { on := 2, ground := Ground.phase }, { on := 3, ground := Ground.phase }, { on := 4, ground := Ground.textOnly Departure.lateStores }, { on := 5, ground := Ground.phase }, { on := 6, ground := Ground.phase }], guard := none }) rfl (fun K hK => ?_) AllReadyH.nil
  go_simp
  refine hK.out _ _ ?_ (fun hHeld => ?_)
  · exact ⟨B9.out.cells2.1.1, B9.out.cells2.1.2, B10.out.cell 0, B10.out.cell 1, B10.out.cell 2⟩
  clear hK K
  (try simp only [Act.put])
  (try simp only [List.setIfInBounds_toArray])
  (try simp only [List.set_cons_succ])
  (try simp only [List.set_cons_zero])
  refine wpAnyH_ready (rs := [8]) (by kernel_rfl) (by simp) ?_
  refine AllReadyH.cons (o := { dst := some 7, op := Op.assign (Operand.tmp 82), type := 32, pos := "law.go:57", after := #[{ on := 4, ground := Ground.data }, { on := 7, ground := Ground.chain }, { on := 0, ground := Ground.phase }, { on := 1, ground := Ground.phase }, { on := 2, ground := Ground.phase }, { on := 3, ground := Ground.phase }, { on := 4, ground := Ground.phase }, { on := 5, ground := Ground.phase }, { on := 6, ground := Ground.phase }, { on := 7, ground := Ground.phase }], guard := none }) rfl (fun K hK => ?_) AllReadyH.nil
  go_simp
  refine hK.out _ _ ?_ (fun hHeld => ?_)
  · exact ⟨B9.out.cells2.1.1, B9.out.cells2.1.2, B10.out.cell 0, B10.out.cell 1, B10.out.cell 2⟩
  clear hK K
  (try simp only [Act.put])
  (try simp only [List.setIfInBounds_toArray])
  (try simp only [List.set_cons_succ])
  (try simp only [List.set_cons_zero])
  refine wpAnyH_done (by kernel_rfl) ?_ _
  obtain ⟨⟨m0, m1⟩, -⟩ := R4.out.cells2
  obtain ⟨⟨k0, k1, k2⟩, -⟩ := R5.out.cells3
  have F1 := MN.out.imp (D' := Dn D w) (fun b hb => by
    rcases hb with hb | hb
    · exact .inl hb.1
    · exact .inr (by omega))
  have F2 := BB.out
  go_wp2
  refine bodyPost_ret (v := .tuple #[.agg #[.slice y1 np np, .slice c2 nv nv], .agg #[.int .i64 xv, .int .u32 xe, .int .u32 xr], .bool true, .int .i64 0]) (by simp [results, Try.f14, go_sem, m0, m1, k0, k1, k2]) rfl ?_
  exact ⟨_, _, rfl, F1, F2⟩
end Go.Proofs.Ytbaljoehgdhhhaa
