/- do: stores and swaps, where the thread and the address exist. -/
import Derived.Test.YtbaljoehgdhhhaaDo
import Derived.Test.YtbaljoehgdhhhaaStore
namespace Go.Proofs.Ytbaljoehgdhhhaa
open Go.RowKit Go.Shelf Go.Maps

set_option maxRecDepth 100000 in
set_option maxHeartbeats 3200000 in
theorem do_store (pv vv : Value) (M : Mem) (N k p : Nat) (oa ob oc na nb nc z : Int) (w : World) (D : Nat → Prop) (h : MD D w pv vv M) (G : M.Good N) (hN : N ≤ 999) (hk : k < M.vs.length) (hpn : p < M.hs.length) :
    Calls Try.prog 14 #[.agg #[pv, vv], .agg #[.int .i64 ((k : Int) + 1), .int .i64 3, .int .i64 p, .int .i64 oa, .int .u32 ob, .int .u32 oc, .int .i64 na, .int .u32 nb, .int .u32 nc, .int .i64 z]] w fun e w' => ∃ pv' vv', e = .returned (.tuple #[.agg #[pv', vv'], .agg #[.int .i64 0, .int .u32 0, .int .u32 0], .bool true, .int .i64 0]) ∧ MD (Dn D w) w' pv' vv' (M.writeAt k p na nb nc false) ∧ Below w.heap.size w w' := by
  obtain ⟨np, hnp⟩ : ∃ n, M.hs.length = n := ⟨_, rfl⟩
  obtain ⟨nv, hnv⟩ : ∃ n, M.vs.length = n := ⟨_, rfl⟩
  obtain ⟨y1, y2, rfl, rfl⟩ := h.sl hnp hnv
  have HNP := Lib.hid hnp
  have HNV := Lib.hid hnv
  have HG := Lib.hid G
  rw [hnp] at hpn
  rw [hnv] at hk
  have hl1 := G.np
  have hl2 := G.nv
  rw [hnp] at hl1
  rw [hnv] at hl2
  clear hnp hnv
  have B2 := Lib.hid (Box.alloc (Box.alloc (Box.alloc (Box.new w #[.slice y1 np np, .slice y2 nv nv] 31 (n := w.heap.size) (by simp)) (.cells #[.int .i64 ((k : Int) + 1), .int .i64 3, .int .i64 p, .int .i64 oa, .int .u32 ob, .int .u32 oc, .int .i64 na, .int .u32 nb, .int .u32 nc, .int .i64 z] 49)) (.cells #[.slice none 0 0, .slice none 0 0] 31)) (.cells #[.int .i64 0, .int .u32 0, .int .u32 0] 45))
  have B3 := Lib.hid (Box.alloc (Box.alloc (Box.new (w.alloc (.cells #[.slice y1 np np, .slice y2 nv nv] 31)) #[.int .i64 ((k : Int) + 1), .int .i64 3, .int .i64 p, .int .i64 oa, .int .u32 ob, .int .u32 oc, .int .i64 na, .int .u32 nb, .int .u32 nc, .int .i64 z] 49 (n := w.heap.size + 1) (by simp)) (.cells #[.slice none 0 0, .slice none 0 0] 31)) (.cells #[.int .i64 0, .int .u32 0, .int .u32 0] 45))
  have R4 := Lib.hid (Box.alloc (Box.new ((w.alloc (.cells #[.slice y1 np np, .slice y2 nv nv] 31)).alloc (.cells #[.int .i64 ((k : Int) + 1), .int .i64 3, .int .i64 p, .int .i64 oa, .int .u32 ob, .int .u32 oc, .int .i64 na, .int .u32 nb, .int .u32 nc, .int .i64 z] 49)) #[.slice none 0 0, .slice none 0 0] 31 (n := w.heap.size + 1 + 1) (by simp)) (.cells #[.int .i64 0, .int .u32 0, .int .u32 0] 45))
  have R5 := Lib.hid (Box.new (((w.alloc (.cells #[.slice y1 np np, .slice y2 nv nv] 31)).alloc (.cells #[.int .i64 ((k : Int) + 1), .int .i64 3, .int .i64 p, .int .i64 oa, .int .u32 ob, .int .u32 oc, .int .i64 na, .int .u32 nb, .int .u32 nc, .int .i64 z] 49)).alloc (.cells #[.slice none 0 0, .slice none 0 0] 31)) #[.int .i64 0, .int .u32 0, .int .u32 0] 45 (n := w.heap.size + 1 + 1 + 1) (by simp))
  have BB := Lib.hid (((((Below.refl w.heap.size w).alloc (by simp <;> omega) (.cells #[.slice y1 np np, .slice y2 nv nv] 31)).alloc (by simp <;> omega) (.cells #[.int .i64 ((k : Int) + 1), .int .i64 3, .int .i64 p, .int .i64 oa, .int .u32 ob, .int .u32 oc, .int .i64 na, .int .u32 nb, .int .u32 nc, .int .i64 z] 49)).alloc (by simp <;> omega) (.cells #[.slice none 0 0, .slice none 0 0] 31)).alloc (by simp <;> omega) (.cells #[.int .i64 0, .int .u32 0, .int .u32 0] 45))
  have MM := Lib.hid (h.addlt.below (((((Below.refl w.heap.size w).alloc (by simp <;> omega) (.cells #[.slice y1 np np, .slice y2 nv nv] 31)).alloc (by simp <;> omega) (.cells #[.int .i64 ((k : Int) + 1), .int .i64 3, .int .i64 p, .int .i64 oa, .int .u32 ob, .int .u32 oc, .int .i64 na, .int .u32 nb, .int .u32 nc, .int .i64 z] 49)).alloc (by simp <;> omega) (.cells #[.slice none 0 0, .slice none 0 0] 31)).alloc (by simp <;> omega) (.cells #[.int .i64 0, .int .u32 0, .int .u32 0] 45)))
  clear h G
  go_enter Try.func14, Try.ntmps14
  go_upto_region 1 with fail
  generalize ((((w.alloc (.cells #[.slice y1 np np, .slice y2 nv nv] 31)).alloc (.cells #[.int .i64 ((k : Int) + 1), .int .i64 3, .int .i64 p, .int .i64 oa, .int .u32 ob, .int .u32 oc, .int .i64 na, .int .u32 nb, .int .u32 nc, .int .i64 z] 49)).alloc (.cells #[.slice none 0 0, .slice none 0 0] 31)).alloc (.cells #[.int .i64 0, .int .u32 0, .int .u32 0] 45)) = W0 at *
  obtain ⟨b5, hb5⟩ : ∃ b, w.heap.size + 1 + 1 + 1 = b := ⟨_, rfl⟩
  obtain ⟨b4, hb4⟩ : ∃ b, w.heap.size + 1 + 1 = b := ⟨_, rfl⟩
  obtain ⟨b3, hb3⟩ : ∃ b, w.heap.size + 1 = b := ⟨_, rfl⟩
  obtain ⟨b2, hb2⟩ : ∃ b, w.heap.size = b := ⟨_, rfl⟩
  have hbq := hb2
  rw [hb5] at R5 ⊢
  rw [hb4] at R4 hb5 ⊢
  rw [hb3] at B3 hb4 ⊢
  rw [hb2] at B2 hb3 ⊢
  obtain ⟨d0, d1, d2, d3, d4, d5, d6, d7, d8, d9⟩ := B3.out.all10
  go_upto_region 2 with fail
  clear d0 d1 d2 d3 d4 d5 d6 d7 d8 d9
  have hlt_b8 := BB.out.size
  have hlt_b8_B2 := B2.out.lt
  have hlt_b8_B3 := B3.out.lt
  have hlt_b8_R4 := R4.out.lt
  have hlt_b8_R5 := R5.out.lt
  have B2' := Lib.hid (B2.out.below (below_new W0 (.cells #[.int .i64 3, .int .i64 p, .int .i64 oa, .int .u32 ob, .int .u32 oc, .int .i64 na, .int .u32 nb, .int .u32 nc] 47)))
  have B3' := Lib.hid (B3.out.below (below_new W0 (.cells #[.int .i64 3, .int .i64 p, .int .i64 oa, .int .u32 ob, .int .u32 oc, .int .i64 na, .int .u32 nb, .int .u32 nc] 47)))
  have R4' := Lib.hid (R4.out.below (below_new W0 (.cells #[.int .i64 3, .int .i64 p, .int .i64 oa, .int .u32 ob, .int .u32 oc, .int .i64 na, .int .u32 nb, .int .u32 nc] 47)))
  have R5' := Lib.hid (R5.out.below (below_new W0 (.cells #[.int .i64 3, .int .i64 p, .int .i64 oa, .int .u32 ob, .int .u32 oc, .int .i64 na, .int .u32 nb, .int .u32 nc] 47)))
  have MM' := Lib.hid (MM.out.below (below_new W0 (.cells #[.int .i64 3, .int .i64 p, .int .i64 oa, .int .u32 ob, .int .u32 oc, .int .i64 na, .int .u32 nb, .int .u32 nc] 47)))
  have BB' := Lib.hid (BB.out.trans ((below_new W0 (.cells #[.int .i64 3, .int .i64 p, .int .i64 oa, .int .u32 ob, .int .u32 oc, .int .i64 na, .int .u32 nb, .int .u32 nc] 47)).mono BB.out.size))
  clear B2
  have B2 := B2'
  clear B2'
  clear B3
  have B3 := B3'
  clear B3'
  clear R4
  have R4 := R4'
  clear R4'
  clear R5
  have R5 := R5'
  clear R5'
  clear MM
  have MM := MM'
  clear MM'
  clear BB
  have BB := BB'
  clear BB'
  have B8 := Lib.hid (Box.new W0 #[.int .i64 3, .int .i64 p, .int .i64 oa, .int .u32 ob, .int .u32 oc, .int .i64 na, .int .u32 nb, .int .u32 nc] 47 rfl)
  have hsz_b8 : (World.alloc W0 (.cells #[.int .i64 3, .int .i64 p, .int .i64 oa, .int .u32 ob, .int .u32 oc, .int .i64 na, .int .u32 nb, .int .u32 nc] 47)).heap.size = (World.heap W0).size + 1 := by simp
  generalize World.alloc W0 (.cells #[.int .i64 3, .int .i64 p, .int .i64 oa, .int .u32 ob, .int .u32 oc, .int .i64 na, .int .u32 nb, .int .u32 nc] 47) = a0 at *
  generalize World.heap W0 = hp_b8 at *
  generalize hp_b8.size = b8 at *
  obtain ⟨d0, d1, d2, d3, d4, d5, d6, d7, d8, d9⟩ := B3.out.all10
  obtain ⟨e0, e1, e2, e3, e4, e5, e6, e7⟩ := B8.out.all8
  obtain ⟨⟨m0, m1⟩, -⟩ := B2.out.cells2
  go_wp2_with fail
  clear d0 d1 d2 d3 d4 d5 d6 d7 d8 d9 e0 e1 e2 e3 e4 e5 e6 e7 m0 m1
  have q4 := R4.out.lt
  have q5 := R5.out.lt
  refine (store_plain _ _ M N k p na nb nc _ _ MM.out HG.out (by omega) (by rw [HNV.out]; exact hk) (by rw [HNP.out]; exact hpn)).mono ?_
  rintro e a1 ⟨pv, vv, rfl, hm, hb⟩
  have B2' := Lib.hid (B2.out.below (hb))
  have B3' := Lib.hid (B3.out.below (hb))
  have R4' := Lib.hid (R4.out.below (hb))
  have R5' := Lib.hid (R5.out.below (hb))
  have MM' := Lib.hid (MM.out.below (hb))
  have B8' := Lib.hid (B8.out.below (hb))
  have BB' := Lib.hid (BB.out.trans ((hb).mono BB.out.size))
  clear B2
  have B2 := B2'
  clear B2'
  clear B3
  have B3 := B3'
  clear B3'
  clear R4
  have R4 := R4'
  clear R4'
  clear R5
  have R5 := R5'
  clear R5'
  clear MM
  have MM := MM'
  clear MM'
  clear B8
  have B8 := B8'
  clear B8'
  clear BB
  have BB := BB'
  clear BB'
  clear hb
  have MN := Lib.hid (hm)
  clear hm MM
  obtain ⟨c1, c2, e1, e2⟩ := MN.out.sl (np := np) (nv := nv) (by simp [Mem.writeAt, HNP.out]) (by simp [Mem.writeAt, HNV.out])
  subst e1 e2
  go_upto_region 10 with fail
  have hlt_b12 := BB.out.size
  have hlt_b12_B2 := B2.out.lt
  have hlt_b12_B3 := B3.out.lt
  have hlt_b12_R4 := R4.out.lt
  have hlt_b12_R5 := R5.out.lt
  have hlt_b12_B8 := B8.out.lt
  have B2' := Lib.hid (B2.out.below (below_new a1 (.cells #[.slice c1 np np, .slice c2 nv nv] 31)))
  have B3' := Lib.hid (B3.out.below (below_new a1 (.cells #[.slice c1 np np, .slice c2 nv nv] 31)))
  have R4' := Lib.hid (R4.out.below (below_new a1 (.cells #[.slice c1 np np, .slice c2 nv nv] 31)))
  have R5' := Lib.hid (R5.out.below (below_new a1 (.cells #[.slice c1 np np, .slice c2 nv nv] 31)))
  have B8' := Lib.hid (B8.out.below (below_new a1 (.cells #[.slice c1 np np, .slice c2 nv nv] 31)))
  have MN' := Lib.hid (MN.out.below (below_new a1 (.cells #[.slice c1 np np, .slice c2 nv nv] 31)))
  have BB' := Lib.hid (BB.out.trans ((below_new a1 (.cells #[.slice c1 np np, .slice c2 nv nv] 31)).mono BB.out.size))
  clear B2
  have B2 := B2'
  clear B2'
  clear B3
  have B3 := B3'
  clear B3'
  clear R4
  have R4 := R4'
  clear R4'
  clear R5
  have R5 := R5'
  clear R5'
  clear B8
  have B8 := B8'
  clear B8'
  clear MN
  have MN := MN'
  clear MN'
  clear BB
  have BB := BB'
  clear BB'
  have B12 := Lib.hid (Box.new a1 #[.slice c1 np np, .slice c2 nv nv] 31 rfl)
  have hsz_b12 : (World.alloc a1 (.cells #[.slice c1 np np, .slice c2 nv nv] 31)).heap.size = (World.heap a1).size + 1 := by simp
  generalize World.alloc a1 (.cells #[.slice c1 np np, .slice c2 nv nv] 31) = a2 at *
  generalize World.heap a1 = hp_b12 at *
  generalize hp_b12.size = b12 at *
  obtain ⟨⟨k0, k1⟩, f0, f1⟩ := R4.out.cells2
  have on := ((Only.refl b4 a2).set 0 (.slice c1 np np)).set 1 (.slice c2 nv nv)
  have r5 := R5.out.only (by omega) on
  obtain ⟨⟨q0, q1, q2⟩, s0, s1, s2⟩ := r5.cells3
  have r4 := (R4.out.set 0 (.slice c1 np np)).set 1 (.slice c2 nv nv)
  obtain ⟨⟨d0, d1, d2⟩, -⟩ := (((r5.set 0 (.int .i64 0)).set 1 (.int .u32 0)).set 2 (.int .u32 0)).cells3
  have on2 := (((Only.refl b5 (World.setCell (World.setCell a2 ⟨b4, 0, none⟩ (.slice c1 np np)) ⟨b4, 1, none⟩ (.slice c2 nv nv))).set 0 (.int .i64 0)).set 1 (.int .u32 0)).set 2 (.int .u32 0)
  have r6 := r4.only (by omega) on2
  obtain ⟨⟨e0, e1⟩, -⟩ := Box.cells2 r6
  have F1 := Lib.hid (((MN.out.only R4.out (by rintro (hq | hq) <;> omega) on).only r5 (by rintro (hq | hq) <;> omega) on2).imp (D' := Dn D w) (fun b hb => by
    rcases hb with hb | hb
    · exact .inl hb.1
    · exact .inr (by omega)))
  have F2 := Lib.hid (((((BB.out.put b4 (by omega) 0 (.slice c1 np np)).put b4 (by omega) 1 (.slice c2 nv nv)).put b5 (by omega) 0 (.int .i64 0)).put b5 (by omega) 1 (.int .u32 0)).put b5 (by omega) 2 (.int .u32 0))
  clear on on2 r4 r5 r6
  obtain ⟨⟨m0, m1⟩, -⟩ := B12.out.cells2
  clear B2 B3 R4 R5 B8 MN B12 BB
  go_wp2
  refine bodyPost_ret (v := .tuple #[.agg #[.slice c1 np np, .slice c2 nv nv], .agg #[.int .i64 0, .int .u32 0, .int .u32 0], .bool true, .int .i64 0]) (by simp [results, Try.f14, go_sem, e0, e1, d0, d1, d2]) rfl ?_
  exact ⟨_, _, rfl, F1.out, F2.out⟩

set_option maxRecDepth 100000 in
set_option maxHeartbeats 3200000 in
theorem do_rel (pv vv : Value) (M : Mem) (N k p : Nat) (oa ob oc na nb nc z : Int) (w : World) (D : Nat → Prop) (h : MD D w pv vv M) (G : M.Good N) (hN : N ≤ 999) (hk : k < M.vs.length) (hpn : p < M.hs.length) :
    Calls Try.prog 14 #[.agg #[pv, vv], .agg #[.int .i64 ((k : Int) + 1), .int .i64 4, .int .i64 p, .int .i64 oa, .int .u32 ob, .int .u32 oc, .int .i64 na, .int .u32 nb, .int .u32 nc, .int .i64 z]] w fun e w' => ∃ pv' vv', e = .returned (.tuple #[.agg #[pv', vv'], .agg #[.int .i64 0, .int .u32 0, .int .u32 0], .bool true, .int .i64 0]) ∧ MD (Dn D w) w' pv' vv' (M.writeAt k p na nb nc true) ∧ Below w.heap.size w w' := by
  obtain ⟨np, hnp⟩ : ∃ n, M.hs.length = n := ⟨_, rfl⟩
  obtain ⟨nv, hnv⟩ : ∃ n, M.vs.length = n := ⟨_, rfl⟩
  obtain ⟨y1, y2, rfl, rfl⟩ := h.sl hnp hnv
  have HNP := Lib.hid hnp
  have HNV := Lib.hid hnv
  have HG := Lib.hid G
  rw [hnp] at hpn
  rw [hnv] at hk
  have hl1 := G.np
  have hl2 := G.nv
  rw [hnp] at hl1
  rw [hnv] at hl2
  clear hnp hnv
  have B2 := Lib.hid (Box.alloc (Box.alloc (Box.alloc (Box.new w #[.slice y1 np np, .slice y2 nv nv] 31 (n := w.heap.size) (by simp)) (.cells #[.int .i64 ((k : Int) + 1), .int .i64 4, .int .i64 p, .int .i64 oa, .int .u32 ob, .int .u32 oc, .int .i64 na, .int .u32 nb, .int .u32 nc, .int .i64 z] 49)) (.cells #[.slice none 0 0, .slice none 0 0] 31)) (.cells #[.int .i64 0, .int .u32 0, .int .u32 0] 45))
  have B3 := Lib.hid (Box.alloc (Box.alloc (Box.new (w.alloc (.cells #[.slice y1 np np, .slice y2 nv nv] 31)) #[.int .i64 ((k : Int) + 1), .int .i64 4, .int .i64 p, .int .i64 oa, .int .u32 ob, .int .u32 oc, .int .i64 na, .int .u32 nb, .int .u32 nc, .int .i64 z] 49 (n := w.heap.size + 1) (by simp)) (.cells #[.slice none 0 0, .slice none 0 0] 31)) (.cells #[.int .i64 0, .int .u32 0, .int .u32 0] 45))
  have R4 := Lib.hid (Box.alloc (Box.new ((w.alloc (.cells #[.slice y1 np np, .slice y2 nv nv] 31)).alloc (.cells #[.int .i64 ((k : Int) + 1), .int .i64 4, .int .i64 p, .int .i64 oa, .int .u32 ob, .int .u32 oc, .int .i64 na, .int .u32 nb, .int .u32 nc, .int .i64 z] 49)) #[.slice none 0 0, .slice none 0 0] 31 (n := w.heap.size + 1 + 1) (by simp)) (.cells #[.int .i64 0, .int .u32 0, .int .u32 0] 45))
  have R5 := Lib.hid (Box.new (((w.alloc (.cells #[.slice y1 np np, .slice y2 nv nv] 31)).alloc (.cells #[.int .i64 ((k : Int) + 1), .int .i64 4, .int .i64 p, .int .i64 oa, .int .u32 ob, .int .u32 oc, .int .i64 na, .int .u32 nb, .int .u32 nc, .int .i64 z] 49)).alloc (.cells #[.slice none 0 0, .slice none 0 0] 31)) #[.int .i64 0, .int .u32 0, .int .u32 0] 45 (n := w.heap.size + 1 + 1 + 1) (by simp))
  have BB := Lib.hid (((((Below.refl w.heap.size w).alloc (by simp <;> omega) (.cells #[.slice y1 np np, .slice y2 nv nv] 31)).alloc (by simp <;> omega) (.cells #[.int .i64 ((k : Int) + 1), .int .i64 4, .int .i64 p, .int .i64 oa, .int .u32 ob, .int .u32 oc, .int .i64 na, .int .u32 nb, .int .u32 nc, .int .i64 z] 49)).alloc (by simp <;> omega) (.cells #[.slice none 0 0, .slice none 0 0] 31)).alloc (by simp <;> omega) (.cells #[.int .i64 0, .int .u32 0, .int .u32 0] 45))
  have MM := Lib.hid (h.addlt.below (((((Below.refl w.heap.size w).alloc (by simp <;> omega) (.cells #[.slice y1 np np, .slice y2 nv nv] 31)).alloc (by simp <;> omega) (.cells #[.int .i64 ((k : Int) + 1), .int .i64 4, .int .i64 p, .int .i64 oa, .int .u32 ob, .int .u32 oc, .int .i64 na, .int .u32 nb, .int .u32 nc, .int .i64 z] 49)).alloc (by simp <;> omega) (.cells #[.slice none 0 0, .slice none 0 0] 31)).alloc (by simp <;> omega) (.cells #[.int .i64 0, .int .u32 0, .int .u32 0] 45)))
  clear h G
  go_enter Try.func14, Try.ntmps14
  go_upto_region 1 with fail
  generalize ((((w.alloc (.cells #[.slice y1 np np, .slice y2 nv nv] 31)).alloc (.cells #[.int .i64 ((k : Int) + 1), .int .i64 4, .int .i64 p, .int .i64 oa, .int .u32 ob, .int .u32 oc, .int .i64 na, .int .u32 nb, .int .u32 nc, .int .i64 z] 49)).alloc (.cells #[.slice none 0 0, .slice none 0 0] 31)).alloc (.cells #[.int .i64 0, .int .u32 0, .int .u32 0] 45)) = W0 at *
  obtain ⟨b5, hb5⟩ : ∃ b, w.heap.size + 1 + 1 + 1 = b := ⟨_, rfl⟩
  obtain ⟨b4, hb4⟩ : ∃ b, w.heap.size + 1 + 1 = b := ⟨_, rfl⟩
  obtain ⟨b3, hb3⟩ : ∃ b, w.heap.size + 1 = b := ⟨_, rfl⟩
  obtain ⟨b2, hb2⟩ : ∃ b, w.heap.size = b := ⟨_, rfl⟩
  have hbq := hb2
  rw [hb5] at R5 ⊢
  rw [hb4] at R4 hb5 ⊢
  rw [hb3] at B3 hb4 ⊢
  rw [hb2] at B2 hb3 ⊢
  obtain ⟨d0, d1, d2, d3, d4, d5, d6, d7, d8, d9⟩ := B3.out.all10
  go_upto_region 2 with fail
  clear d0 d1 d2 d3 d4 d5 d6 d7 d8 d9
  have hlt_b8 := BB.out.size
  have hlt_b8_B2 := B2.out.lt
  have hlt_b8_B3 := B3.out.lt
  have hlt_b8_R4 := R4.out.lt
  have hlt_b8_R5 := R5.out.lt
  have B2' := Lib.hid (B2.out.below (below_new W0 (.cells #[.int .i64 4, .int .i64 p, .int .i64 oa, .int .u32 ob, .int .u32 oc, .int .i64 na, .int .u32 nb, .int .u32 nc] 47)))
  have B3' := Lib.hid (B3.out.below (below_new W0 (.cells #[.int .i64 4, .int .i64 p, .int .i64 oa, .int .u32 ob, .int .u32 oc, .int .i64 na, .int .u32 nb, .int .u32 nc] 47)))
  have R4' := Lib.hid (R4.out.below (below_new W0 (.cells #[.int .i64 4, .int .i64 p, .int .i64 oa, .int .u32 ob, .int .u32 oc, .int .i64 na, .int .u32 nb, .int .u32 nc] 47)))
  have R5' := Lib.hid (R5.out.below (below_new W0 (.cells #[.int .i64 4, .int .i64 p, .int .i64 oa, .int .u32 ob, .int .u32 oc, .int .i64 na, .int .u32 nb, .int .u32 nc] 47)))
  have MM' := Lib.hid (MM.out.below (below_new W0 (.cells #[.int .i64 4, .int .i64 p, .int .i64 oa, .int .u32 ob, .int .u32 oc, .int .i64 na, .int .u32 nb, .int .u32 nc] 47)))
  have BB' := Lib.hid (BB.out.trans ((below_new W0 (.cells #[.int .i64 4, .int .i64 p, .int .i64 oa, .int .u32 ob, .int .u32 oc, .int .i64 na, .int .u32 nb, .int .u32 nc] 47)).mono BB.out.size))
  clear B2
  have B2 := B2'
  clear B2'
  clear B3
  have B3 := B3'
  clear B3'
  clear R4
  have R4 := R4'
  clear R4'
  clear R5
  have R5 := R5'
  clear R5'
  clear MM
  have MM := MM'
  clear MM'
  clear BB
  have BB := BB'
  clear BB'
  have B8 := Lib.hid (Box.new W0 #[.int .i64 4, .int .i64 p, .int .i64 oa, .int .u32 ob, .int .u32 oc, .int .i64 na, .int .u32 nb, .int .u32 nc] 47 rfl)
  have hsz_b8 : (World.alloc W0 (.cells #[.int .i64 4, .int .i64 p, .int .i64 oa, .int .u32 ob, .int .u32 oc, .int .i64 na, .int .u32 nb, .int .u32 nc] 47)).heap.size = (World.heap W0).size + 1 := by simp
  generalize World.alloc W0 (.cells #[.int .i64 4, .int .i64 p, .int .i64 oa, .int .u32 ob, .int .u32 oc, .int .i64 na, .int .u32 nb, .int .u32 nc] 47) = a0 at *
  generalize World.heap W0 = hp_b8 at *
  generalize hp_b8.size = b8 at *
  obtain ⟨d0, d1, d2, d3, d4, d5, d6, d7, d8, d9⟩ := B3.out.all10
  obtain ⟨e0, e1, e2, e3, e4, e5, e6, e7⟩ := B8.out.all8
  obtain ⟨⟨m0, m1⟩, -⟩ := B2.out.cells2
  go_wp2_with fail
  clear d0 d1 d2 d3 d4 d5 d6 d7 d8 d9 e0 e1 e2 e3 e4 e5 e6 e7 m0 m1
  have q4 := R4.out.lt
  have q5 := R5.out.lt
  refine (store_rel _ _ M N k p na nb nc _ _ MM.out HG.out (by omega) (by rw [HNV.out]; exact hk) (by rw [HNP.out]; exact hpn)).mono ?_
  rintro e a1 ⟨pv, vv, rfl, hm, hb⟩
  have B2' := Lib.hid (B2.out.below (hb))
  have B3' := Lib.hid (B3.out.below (hb))
  have R4' := Lib.hid (R4.out.below (hb))
  have R5' := Lib.hid (R5.out.below (hb))
  have MM' := Lib.hid (MM.out.below (hb))
  have B8' := Lib.hid (B8.out.below (hb))
  have BB' := Lib.hid (BB.out.trans ((hb).mono BB.out.size))
  clear B2
  have B2 := B2'
  clear B2'
  clear B3
  have B3 := B3'
  clear B3'
  clear R4
  have R4 := R4'
  clear R4'
  clear R5
  have R5 := R5'
  clear R5'
  clear MM
  have MM := MM'
  clear MM'
  clear B8
  have B8 := B8'
  clear B8'
  clear BB
  have BB := BB'
  clear BB'
  clear hb
  have MN := Lib.hid (hm)
  clear hm MM
  obtain ⟨c1, c2, e1, e2⟩ := MN.out.sl (np := np) (nv := nv) (by simp [Mem.writeAt, HNP.out]) (by simp [Mem.writeAt, HNV.out])
  subst e1 e2
  go_upto_region 10 with fail
  have hlt_b12 := BB.out.size
  have hlt_b12_B2 := B2.out.lt
  have hlt_b12_B3 := B3.out.lt
  have hlt_b12_R4 := R4.out.lt
  have hlt_b12_R5 := R5.out.lt
  have hlt_b12_B8 := B8.out.lt
  have B2' := Lib.hid (B2.out.below (below_new a1 (.cells #[.slice c1 np np, .slice c2 nv nv] 31)))
  have B3' := Lib.hid (B3.out.below (below_new a1 (.cells #[.slice c1 np np, .slice c2 nv nv] 31)))
  have R4' := Lib.hid (R4.out.below (below_new a1 (.cells #[.slice c1 np np, .slice c2 nv nv] 31)))
  have R5' := Lib.hid (R5.out.below (below_new a1 (.cells #[.slice c1 np np, .slice c2 nv nv] 31)))
  have B8' := Lib.hid (B8.out.below (below_new a1 (.cells #[.slice c1 np np, .slice c2 nv nv] 31)))
  have MN' := Lib.hid (MN.out.below (below_new a1 (.cells #[.slice c1 np np, .slice c2 nv nv] 31)))
  have BB' := Lib.hid (BB.out.trans ((below_new a1 (.cells #[.slice c1 np np, .slice c2 nv nv] 31)).mono BB.out.size))
  clear B2
  have B2 := B2'
  clear B2'
  clear B3
  have B3 := B3'
  clear B3'
  clear R4
  have R4 := R4'
  clear R4'
  clear R5
  have R5 := R5'
  clear R5'
  clear B8
  have B8 := B8'
  clear B8'
  clear MN
  have MN := MN'
  clear MN'
  clear BB
  have BB := BB'
  clear BB'
  have B12 := Lib.hid (Box.new a1 #[.slice c1 np np, .slice c2 nv nv] 31 rfl)
  have hsz_b12 : (World.alloc a1 (.cells #[.slice c1 np np, .slice c2 nv nv] 31)).heap.size = (World.heap a1).size + 1 := by simp
  generalize World.alloc a1 (.cells #[.slice c1 np np, .slice c2 nv nv] 31) = a2 at *
  generalize World.heap a1 = hp_b12 at *
  generalize hp_b12.size = b12 at *
  obtain ⟨⟨k0, k1⟩, f0, f1⟩ := R4.out.cells2
  have on := ((Only.refl b4 a2).set 0 (.slice c1 np np)).set 1 (.slice c2 nv nv)
  have r5 := R5.out.only (by omega) on
  obtain ⟨⟨q0, q1, q2⟩, s0, s1, s2⟩ := r5.cells3
  have r4 := (R4.out.set 0 (.slice c1 np np)).set 1 (.slice c2 nv nv)
  obtain ⟨⟨d0, d1, d2⟩, -⟩ := (((r5.set 0 (.int .i64 0)).set 1 (.int .u32 0)).set 2 (.int .u32 0)).cells3
  have on2 := (((Only.refl b5 (World.setCell (World.setCell a2 ⟨b4, 0, none⟩ (.slice c1 np np)) ⟨b4, 1, none⟩ (.slice c2 nv nv))).set 0 (.int .i64 0)).set 1 (.int .u32 0)).set 2 (.int .u32 0)
  have r6 := r4.only (by omega) on2
  obtain ⟨⟨e0, e1⟩, -⟩ := Box.cells2 r6
  have F1 := Lib.hid (((MN.out.only R4.out (by rintro (hq | hq) <;> omega) on).only r5 (by rintro (hq | hq) <;> omega) on2).imp (D' := Dn D w) (fun b hb => by
    rcases hb with hb | hb
    · exact .inl hb.1
    · exact .inr (by omega)))
  have F2 := Lib.hid (((((BB.out.put b4 (by omega) 0 (.slice c1 np np)).put b4 (by omega) 1 (.slice c2 nv nv)).put b5 (by omega) 0 (.int .i64 0)).put b5 (by omega) 1 (.int .u32 0)).put b5 (by omega) 2 (.int .u32 0))
  clear on on2 r4 r5 r6
  obtain ⟨⟨m0, m1⟩, -⟩ := B12.out.cells2
  clear B2 B3 R4 R5 B8 MN B12 BB
  go_wp2
  refine bodyPost_ret (v := .tuple #[.agg #[.slice c1 np np, .slice c2 nv nv], .agg #[.int .i64 0, .int .u32 0, .int .u32 0], .bool true, .int .i64 0]) (by simp [results, Try.f14, go_sem, e0, e1, d0, d1, d2]) rfl ?_
  exact ⟨_, _, rfl, F1.out, F2.out⟩

set_option maxRecDepth 100000 in
set_option maxHeartbeats 3200000 in
theorem do_hit (pv vv : Value) (M : Mem) (N k p : Nat) (oa ob oc na nb nc z : Int) (w : World) (D : Nat → Prop) (h : MD D w pv vv M) (G : M.Good N) (hN : N ≤ 999) (hk : k < M.vs.length) (hpn : p < M.hs.length) (hw : (M.msg p ((M.hist p).length - 1)).val = oa ∧ (M.msg p ((M.hist p).length - 1)).ver = ob ∧ (M.msg p ((M.hist p).length - 1)).ref = oc) :
    Calls Try.prog 14 #[.agg #[pv, vv], .agg #[.int .i64 ((k : Int) + 1), .int .i64 6, .int .i64 p, .int .i64 oa, .int .u32 ob, .int .u32 oc, .int .i64 na, .int .u32 nb, .int .u32 nc, .int .i64 z]] w fun e w' => ∃ pv' vv', e = .returned (.tuple #[.agg #[pv', vv'], wordV (M.msg p ((M.hist p).length - 1)), .bool true, .int .i64 0]) ∧ MD (Dn D w) w' pv' vv' ((M.readAt k p ((M.hist p).length - 1) true).writeAt k p na nb nc true) ∧ Below w.heap.size w w' := by
  obtain ⟨np, hnp⟩ : ∃ n, M.hs.length = n := ⟨_, rfl⟩
  obtain ⟨nv, hnv⟩ : ∃ n, M.vs.length = n := ⟨_, rfl⟩
  obtain ⟨y1, y2, rfl, rfl⟩ := h.sl hnp hnv
  have HNP := Lib.hid hnp
  have HNV := Lib.hid hnv
  have HG := Lib.hid G
  rw [hnp] at hpn
  rw [hnv] at hk
  have hl1 := G.np
  have hl2 := G.nv
  rw [hnp] at hl1
  rw [hnv] at hl2
  clear hnp hnv
  rw [show wordV (M.msg p ((M.hist p).length - 1)) = .agg #[.int .i64 (M.msg p ((M.hist p).length - 1)).val, .int .u32 (M.msg p ((M.hist p).length - 1)).ver, .int .u32 (M.msg p ((M.hist p).length - 1)).ref] from rfl]
  obtain ⟨i, hi⟩ : ∃ i, ((M.hist p).length - 1) = i := ⟨_, rfl⟩
  rw [hi] at hw ⊢
  have HI := Lib.hid hi
  have HWW := Lib.hid hw
  obtain ⟨xv, hxv⟩ : ∃ x, (M.msg p i).val = x := ⟨_, rfl⟩
  obtain ⟨xe, hxe⟩ : ∃ x, (M.msg p i).ver = x := ⟨_, rfl⟩
  obtain ⟨xr, hxr⟩ : ∃ x, (M.msg p i).ref = x := ⟨_, rfl⟩
  rw [hxv, hxe, hxr]
  have HWD : Hid (wordV (M.msg p i) = .agg #[.int .i64 xv, .int .u32 xe, .int .u32 xr]) := Lib.hid (by unfold wordV; rw [hxv, hxe, hxr])
  clear hi hxv hxe hxr hw
  have B2 := Lib.hid (Box.alloc (Box.alloc (Box.alloc (Box.new w #[.slice y1 np np, .slice y2 nv nv] 31 (n := w.heap.size) (by simp)) (.cells #[.int .i64 ((k : Int) + 1), .int .i64 6, .int .i64 p, .int .i64 oa, .int .u32 ob, .int .u32 oc, .int .i64 na, .int .u32 nb, .int .u32 nc, .int .i64 z] 49)) (.cells #[.slice none 0 0, .slice none 0 0] 31)) (.cells #[.int .i64 0, .int .u32 0, .int .u32 0] 45))
  have B3 := Lib.hid (Box.alloc (Box.alloc (Box.new (w.alloc (.cells #[.slice y1 np np, .slice y2 nv nv] 31)) #[.int .i64 ((k : Int) + 1), .int .i64 6, .int .i64 p, .int .i64 oa, .int .u32 ob, .int .u32 oc, .int .i64 na, .int .u32 nb, .int .u32 nc, .int .i64 z] 49 (n := w.heap.size + 1) (by simp)) (.cells #[.slice none 0 0, .slice none 0 0] 31)) (.cells #[.int .i64 0, .int .u32 0, .int .u32 0] 45))
  have R4 := Lib.hid (Box.alloc (Box.new ((w.alloc (.cells #[.slice y1 np np, .slice y2 nv nv] 31)).alloc (.cells #[.int .i64 ((k : Int) + 1), .int .i64 6, .int .i64 p, .int .i64 oa, .int .u32 ob, .int .u32 oc, .int .i64 na, .int .u32 nb, .int .u32 nc, .int .i64 z] 49)) #[.slice none 0 0, .slice none 0 0] 31 (n := w.heap.size + 1 + 1) (by simp)) (.cells #[.int .i64 0, .int .u32 0, .int .u32 0] 45))
  have R5 := Lib.hid (Box.new (((w.alloc (.cells #[.slice y1 np np, .slice y2 nv nv] 31)).alloc (.cells #[.int .i64 ((k : Int) + 1), .int .i64 6, .int .i64 p, .int .i64 oa, .int .u32 ob, .int .u32 oc, .int .i64 na, .int .u32 nb, .int .u32 nc, .int .i64 z] 49)).alloc (.cells #[.slice none 0 0, .slice none 0 0] 31)) #[.int .i64 0, .int .u32 0, .int .u32 0] 45 (n := w.heap.size + 1 + 1 + 1) (by simp))
  have BB := Lib.hid (((((Below.refl w.heap.size w).alloc (by simp <;> omega) (.cells #[.slice y1 np np, .slice y2 nv nv] 31)).alloc (by simp <;> omega) (.cells #[.int .i64 ((k : Int) + 1), .int .i64 6, .int .i64 p, .int .i64 oa, .int .u32 ob, .int .u32 oc, .int .i64 na, .int .u32 nb, .int .u32 nc, .int .i64 z] 49)).alloc (by simp <;> omega) (.cells #[.slice none 0 0, .slice none 0 0] 31)).alloc (by simp <;> omega) (.cells #[.int .i64 0, .int .u32 0, .int .u32 0] 45))
  have MM := Lib.hid (h.addlt.below (((((Below.refl w.heap.size w).alloc (by simp <;> omega) (.cells #[.slice y1 np np, .slice y2 nv nv] 31)).alloc (by simp <;> omega) (.cells #[.int .i64 ((k : Int) + 1), .int .i64 6, .int .i64 p, .int .i64 oa, .int .u32 ob, .int .u32 oc, .int .i64 na, .int .u32 nb, .int .u32 nc, .int .i64 z] 49)).alloc (by simp <;> omega) (.cells #[.slice none 0 0, .slice none 0 0] 31)).alloc (by simp <;> omega) (.cells #[.int .i64 0, .int .u32 0, .int .u32 0] 45)))
  clear h G
  go_enter Try.func14, Try.ntmps14
  go_upto_region 1 with fail
  generalize ((((w.alloc (.cells #[.slice y1 np np, .slice y2 nv nv] 31)).alloc (.cells #[.int .i64 ((k : Int) + 1), .int .i64 6, .int .i64 p, .int .i64 oa, .int .u32 ob, .int .u32 oc, .int .i64 na, .int .u32 nb, .int .u32 nc, .int .i64 z] 49)).alloc (.cells #[.slice none 0 0, .slice none 0 0] 31)).alloc (.cells #[.int .i64 0, .int .u32 0, .int .u32 0] 45)) = W0 at *
  obtain ⟨b5, hb5⟩ : ∃ b, w.heap.size + 1 + 1 + 1 = b := ⟨_, rfl⟩
  obtain ⟨b4, hb4⟩ : ∃ b, w.heap.size + 1 + 1 = b := ⟨_, rfl⟩
  obtain ⟨b3, hb3⟩ : ∃ b, w.heap.size + 1 = b := ⟨_, rfl⟩
  obtain ⟨b2, hb2⟩ : ∃ b, w.heap.size = b := ⟨_, rfl⟩
  have hbq := hb2
  rw [hb5] at R5 ⊢
  rw [hb4] at R4 hb5 ⊢
  rw [hb3] at B3 hb4 ⊢
  rw [hb2] at B2 hb3 ⊢
  obtain ⟨d0, d1, d2, d3, d4, d5, d6, d7, d8, d9⟩ := B3.out.all10
  go_upto_region 2 with fail
  clear d0 d1 d2 d3 d4 d5 d6 d7 d8 d9
  have hlt_b8 := BB.out.size
  have hlt_b8_B2 := B2.out.lt
  have hlt_b8_B3 := B3.out.lt
  have hlt_b8_R4 := R4.out.lt
  have hlt_b8_R5 := R5.out.lt
  have B2' := Lib.hid (B2.out.below (below_new W0 (.cells #[.int .i64 6, .int .i64 p, .int .i64 oa, .int .u32 ob, .int .u32 oc, .int .i64 na, .int .u32 nb, .int .u32 nc] 47)))
  have B3' := Lib.hid (B3.out.below (below_new W0 (.cells #[.int .i64 6, .int .i64 p, .int .i64 oa, .int .u32 ob, .int .u32 oc, .int .i64 na, .int .u32 nb, .int .u32 nc] 47)))
  have R4' := Lib.hid (R4.out.below (below_new W0 (.cells #[.int .i64 6, .int .i64 p, .int .i64 oa, .int .u32 ob, .int .u32 oc, .int .i64 na, .int .u32 nb, .int .u32 nc] 47)))
  have R5' := Lib.hid (R5.out.below (below_new W0 (.cells #[.int .i64 6, .int .i64 p, .int .i64 oa, .int .u32 ob, .int .u32 oc, .int .i64 na, .int .u32 nb, .int .u32 nc] 47)))
  have MM' := Lib.hid (MM.out.below (below_new W0 (.cells #[.int .i64 6, .int .i64 p, .int .i64 oa, .int .u32 ob, .int .u32 oc, .int .i64 na, .int .u32 nb, .int .u32 nc] 47)))
  have BB' := Lib.hid (BB.out.trans ((below_new W0 (.cells #[.int .i64 6, .int .i64 p, .int .i64 oa, .int .u32 ob, .int .u32 oc, .int .i64 na, .int .u32 nb, .int .u32 nc] 47)).mono BB.out.size))
  clear B2
  have B2 := B2'
  clear B2'
  clear B3
  have B3 := B3'
  clear B3'
  clear R4
  have R4 := R4'
  clear R4'
  clear R5
  have R5 := R5'
  clear R5'
  clear MM
  have MM := MM'
  clear MM'
  clear BB
  have BB := BB'
  clear BB'
  have B8 := Lib.hid (Box.new W0 #[.int .i64 6, .int .i64 p, .int .i64 oa, .int .u32 ob, .int .u32 oc, .int .i64 na, .int .u32 nb, .int .u32 nc] 47 rfl)
  have hsz_b8 : (World.alloc W0 (.cells #[.int .i64 6, .int .i64 p, .int .i64 oa, .int .u32 ob, .int .u32 oc, .int .i64 na, .int .u32 nb, .int .u32 nc] 47)).heap.size = (World.heap W0).size + 1 := by simp
  generalize World.alloc W0 (.cells #[.int .i64 6, .int .i64 p, .int .i64 oa, .int .u32 ob, .int .u32 oc, .int .i64 na, .int .u32 nb, .int .u32 nc] 47) = a0 at *
  generalize World.heap W0 = hp_b8 at *
  generalize hp_b8.size = b8 at *
  obtain ⟨d0, d1, d2, d3, d4, d5, d6, d7, d8, d9⟩ := B3.out.all10
  obtain ⟨e0, e1, e2, e3, e4, e5, e6, e7⟩ := B8.out.all8
  obtain ⟨⟨m0, m1⟩, -⟩ := B2.out.cells2
  go_wp2_with fail
  clear d0 d1 d2 d3 d4 d5 d6 d7 d8 d9 e0 e1 e2 e3 e4 e5 e6 e7 m0 m1
  have q4 := R4.out.lt
  have q5 := R5.out.lt
  refine (swap_hit _ _ M N k p oa ob oc na nb nc _ _ MM.out HG.out (by omega) (by rw [HNV.out]; exact hk) (by rw [HNP.out]; exact hpn) (by rw [HI.out]; exact HWW.out)).mono ?_
  rintro e a1 ⟨pv, vv, rfl, hm, hb⟩
  have B2' := Lib.hid (B2.out.below (hb))
  have B3' := Lib.hid (B3.out.below (hb))
  have R4' := Lib.hid (R4.out.below (hb))
  have R5' := Lib.hid (R5.out.below (hb))
  have MM' := Lib.hid (MM.out.below (hb))
  have B8' := Lib.hid (B8.out.below (hb))
  have BB' := Lib.hid (BB.out.trans ((hb).mono BB.out.size))
  clear B2
  have B2 := B2'
  clear B2'
  clear B3
  have B3 := B3'
  clear B3'
  clear R4
  have R4 := R4'
  clear R4'
  clear R5
  have R5 := R5'
  clear R5'
  clear MM
  have MM := MM'
  clear MM'
  clear B8
  have B8 := B8'
  clear B8'
  clear BB
  have BB := BB'
  clear BB'
  clear hb
  have MN := Lib.hid (hm)
  clear hm MM
  rw [HI.out, HWD.out]
  rw [HI.out] at MN
  obtain ⟨c1, c2, e1, e2⟩ := MN.out.sl (np := np) (nv := nv) (by simp [Mem.writeAt, Mem.readAt, HNP.out]) (by simp [Mem.writeAt, Mem.readAt, HNV.out])
  subst e1 e2
  obtain ⟨⟨k0, k1⟩, f0, f1⟩ := R4.out.cells2
  have on := ((Only.refl b4 a1).set 0 (.slice c1 np np)).set 1 (.slice c2 nv nv)
  have r5 := R5.out.only (by omega) on
  obtain ⟨⟨q0, q1, q2⟩, s0, s1, s2⟩ := r5.cells3
  have r4 := (R4.out.set 0 (.slice c1 np np)).set 1 (.slice c2 nv nv)
  obtain ⟨⟨d0, d1, d2⟩, -⟩ := (((r5.set 0 (.int .i64 xv)).set 1 (.int .u32 xe)).set 2 (.int .u32 xr)).cells3
  have on2 := (((Only.refl b5 (World.setCell (World.setCell a1 ⟨b4, 0, none⟩ (.slice c1 np np)) ⟨b4, 1, none⟩ (.slice c2 nv nv))).set 0 (.int .i64 xv)).set 1 (.int .u32 xe)).set 2 (.int .u32 xr)
  have r6 := r4.only (by omega) on2
  obtain ⟨⟨e0, e1⟩, -⟩ := Box.cells2 r6
  have F1 := Lib.hid (((MN.out.only R4.out (by rintro (hq | hq) <;> omega) on).only r5 (by rintro (hq | hq) <;> omega) on2).imp (D' := Dn D w) (fun b hb => by
    rcases hb with hb | hb
    · exact .inl hb.1
    · exact .inr (by omega)))
  have F2 := Lib.hid (((((BB.out.put b4 (by omega) 0 (.slice c1 np np)).put b4 (by omega) 1 (.slice c2 nv nv)).put b5 (by omega) 0 (.int .i64 xv)).put b5 (by omega) 1 (.int .u32 xe)).put b5 (by omega) 2 (.int .u32 xr))
  clear on on2 r4 r5 r6
  clear B2 B3 R4 R5 B8 MN BB
  go_wp2
  refine bodyPost_ret (v := .tuple #[.agg #[.slice c1 np np, .slice c2 nv nv], .agg #[.int .i64 xv, .int .u32 xe, .int .u32 xr], .bool true, .int .i64 0]) (by simp [results, Try.f14, go_sem, e0, e1, d0, d1, d2]) rfl ?_
  exact ⟨_, _, rfl, F1.out, F2.out⟩

set_option maxRecDepth 100000 in
set_option maxHeartbeats 3200000 in
theorem do_miss (pv vv : Value) (M : Mem) (N k p : Nat) (oa ob oc na nb nc z : Int) (w : World) (D : Nat → Prop) (h : MD D w pv vv M) (G : M.Good N) (hN : N ≤ 999) (hk : k < M.vs.length) (hpn : p < M.hs.length) (hw : ¬ ((M.msg p ((M.hist p).length - 1)).val = oa ∧ (M.msg p ((M.hist p).length - 1)).ver = ob ∧ (M.msg p ((M.hist p).length - 1)).ref = oc)) :
    Calls Try.prog 14 #[.agg #[pv, vv], .agg #[.int .i64 ((k : Int) + 1), .int .i64 6, .int .i64 p, .int .i64 oa, .int .u32 ob, .int .u32 oc, .int .i64 na, .int .u32 nb, .int .u32 nc, .int .i64 z]] w fun e w' => ∃ pv' vv', e = .returned (.tuple #[.agg #[pv', vv'], wordV (M.msg p ((M.hist p).length - 1)), .bool false, .int .i64 0]) ∧ MD (Dn D w) w' pv' vv' (M.readAt k p ((M.hist p).length - 1) true) ∧ Below w.heap.size w w' := by
  obtain ⟨np, hnp⟩ : ∃ n, M.hs.length = n := ⟨_, rfl⟩
  obtain ⟨nv, hnv⟩ : ∃ n, M.vs.length = n := ⟨_, rfl⟩
  obtain ⟨y1, y2, rfl, rfl⟩ := h.sl hnp hnv
  have HNP := Lib.hid hnp
  have HNV := Lib.hid hnv
  have HG := Lib.hid G
  rw [hnp] at hpn
  rw [hnv] at hk
  have hl1 := G.np
  have hl2 := G.nv
  rw [hnp] at hl1
  rw [hnv] at hl2
  clear hnp hnv
  rw [show wordV (M.msg p ((M.hist p).length - 1)) = .agg #[.int .i64 (M.msg p ((M.hist p).length - 1)).val, .int .u32 (M.msg p ((M.hist p).length - 1)).ver, .int .u32 (M.msg p ((M.hist p).length - 1)).ref] from rfl]
  obtain ⟨i, hi⟩ : ∃ i, ((M.hist p).length - 1) = i := ⟨_, rfl⟩
  rw [hi] at hw ⊢
  have HI := Lib.hid hi
  have HWW := Lib.hid hw
  obtain ⟨xv, hxv⟩ : ∃ x, (M.msg p i).val = x := ⟨_, rfl⟩
  obtain ⟨xe, hxe⟩ : ∃ x, (M.msg p i).ver = x := ⟨_, rfl⟩
  obtain ⟨xr, hxr⟩ : ∃ x, (M.msg p i).ref = x := ⟨_, rfl⟩
  rw [hxv, hxe, hxr]
  have HWD : Hid (wordV (M.msg p i) = .agg #[.int .i64 xv, .int .u32 xe, .int .u32 xr]) := Lib.hid (by unfold wordV; rw [hxv, hxe, hxr])
  clear hi hxv hxe hxr hw
  have B2 := Lib.hid (Box.alloc (Box.alloc (Box.alloc (Box.new w #[.slice y1 np np, .slice y2 nv nv] 31 (n := w.heap.size) (by simp)) (.cells #[.int .i64 ((k : Int) + 1), .int .i64 6, .int .i64 p, .int .i64 oa, .int .u32 ob, .int .u32 oc, .int .i64 na, .int .u32 nb, .int .u32 nc, .int .i64 z] 49)) (.cells #[.slice none 0 0, .slice none 0 0] 31)) (.cells #[.int .i64 0, .int .u32 0, .int .u32 0] 45))
  have B3 := Lib.hid (Box.alloc (Box.alloc (Box.new (w.alloc (.cells #[.slice y1 np np, .slice y2 nv nv] 31)) #[.int .i64 ((k : Int) + 1), .int .i64 6, .int .i64 p, .int .i64 oa, .int .u32 ob, .int .u32 oc, .int .i64 na, .int .u32 nb, .int .u32 nc, .int .i64 z] 49 (n := w.heap.size + 1) (by simp)) (.cells #[.slice none 0 0, .slice none 0 0] 31)) (.cells #[.int .i64 0, .int .u32 0, .int .u32 0] 45))
  have R4 := Lib.hid (Box.alloc (Box.new ((w.alloc (.cells #[.slice y1 np np, .slice y2 nv nv] 31)).alloc (.cells #[.int .i64 ((k : Int) + 1), .int .i64 6, .int .i64 p, .int .i64 oa, .int .u32 ob, .int .u32 oc, .int .i64 na, .int .u32 nb, .int .u32 nc, .int .i64 z] 49)) #[.slice none 0 0, .slice none 0 0] 31 (n := w.heap.size + 1 + 1) (by simp)) (.cells #[.int .i64 0, .int .u32 0, .int .u32 0] 45))
  have R5 := Lib.hid (Box.new (((w.alloc (.cells #[.slice y1 np np, .slice y2 nv nv] 31)).alloc (.cells #[.int .i64 ((k : Int) + 1), .int .i64 6, .int .i64 p, .int .i64 oa, .int .u32 ob, .int .u32 oc, .int .i64 na, .int .u32 nb, .int .u32 nc, .int .i64 z] 49)).alloc (.cells #[.slice none 0 0, .slice none 0 0] 31)) #[.int .i64 0, .int .u32 0, .int .u32 0] 45 (n := w.heap.size + 1 + 1 + 1) (by simp))
  have BB := Lib.hid (((((Below.refl w.heap.size w).alloc (by simp <;> omega) (.cells #[.slice y1 np np, .slice y2 nv nv] 31)).alloc (by simp <;> omega) (.cells #[.int .i64 ((k : Int) + 1), .int .i64 6, .int .i64 p, .int .i64 oa, .int .u32 ob, .int .u32 oc, .int .i64 na, .int .u32 nb, .int .u32 nc, .int .i64 z] 49)).alloc (by simp <;> omega) (.cells #[.slice none 0 0, .slice none 0 0] 31)).alloc (by simp <;> omega) (.cells #[.int .i64 0, .int .u32 0, .int .u32 0] 45))
  have MM := Lib.hid (h.addlt.below (((((Below.refl w.heap.size w).alloc (by simp <;> omega) (.cells #[.slice y1 np np, .slice y2 nv nv] 31)).alloc (by simp <;> omega) (.cells #[.int .i64 ((k : Int) + 1), .int .i64 6, .int .i64 p, .int .i64 oa, .int .u32 ob, .int .u32 oc, .int .i64 na, .int .u32 nb, .int .u32 nc, .int .i64 z] 49)).alloc (by simp <;> omega) (.cells #[.slice none 0 0, .slice none 0 0] 31)).alloc (by simp <;> omega) (.cells #[.int .i64 0, .int .u32 0, .int .u32 0] 45)))
  clear h G
  go_enter Try.func14, Try.ntmps14
  go_upto_region 1 with fail
  generalize ((((w.alloc (.cells #[.slice y1 np np, .slice y2 nv nv] 31)).alloc (.cells #[.int .i64 ((k : Int) + 1), .int .i64 6, .int .i64 p, .int .i64 oa, .int .u32 ob, .int .u32 oc, .int .i64 na, .int .u32 nb, .int .u32 nc, .int .i64 z] 49)).alloc (.cells #[.slice none 0 0, .slice none 0 0] 31)).alloc (.cells #[.int .i64 0, .int .u32 0, .int .u32 0] 45)) = W0 at *
  obtain ⟨b5, hb5⟩ : ∃ b, w.heap.size + 1 + 1 + 1 = b := ⟨_, rfl⟩
  obtain ⟨b4, hb4⟩ : ∃ b, w.heap.size + 1 + 1 = b := ⟨_, rfl⟩
  obtain ⟨b3, hb3⟩ : ∃ b, w.heap.size + 1 = b := ⟨_, rfl⟩
  obtain ⟨b2, hb2⟩ : ∃ b, w.heap.size = b := ⟨_, rfl⟩
  have hbq := hb2
  rw [hb5] at R5 ⊢
  rw [hb4] at R4 hb5 ⊢
  rw [hb3] at B3 hb4 ⊢
  rw [hb2] at B2 hb3 ⊢
  obtain ⟨d0, d1, d2, d3, d4, d5, d6, d7, d8, d9⟩ := B3.out.all10
  go_upto_region 2 with fail
  clear d0 d1 d2 d3 d4 d5 d6 d7 d8 d9
  have hlt_b8 := BB.out.size
  have hlt_b8_B2 := B2.out.lt
  have hlt_b8_B3 := B3.out.lt
  have hlt_b8_R4 := R4.out.lt
  have hlt_b8_R5 := R5.out.lt
  have B2' := Lib.hid (B2.out.below (below_new W0 (.cells #[.int .i64 6, .int .i64 p, .int .i64 oa, .int .u32 ob, .int .u32 oc, .int .i64 na, .int .u32 nb, .int .u32 nc] 47)))
  have B3' := Lib.hid (B3.out.below (below_new W0 (.cells #[.int .i64 6, .int .i64 p, .int .i64 oa, .int .u32 ob, .int .u32 oc, .int .i64 na, .int .u32 nb, .int .u32 nc] 47)))
  have R4' := Lib.hid (R4.out.below (below_new W0 (.cells #[.int .i64 6, .int .i64 p, .int .i64 oa, .int .u32 ob, .int .u32 oc, .int .i64 na, .int .u32 nb, .int .u32 nc] 47)))
  have R5' := Lib.hid (R5.out.below (below_new W0 (.cells #[.int .i64 6, .int .i64 p, .int .i64 oa, .int .u32 ob, .int .u32 oc, .int .i64 na, .int .u32 nb, .int .u32 nc] 47)))
  have MM' := Lib.hid (MM.out.below (below_new W0 (.cells #[.int .i64 6, .int .i64 p, .int .i64 oa, .int .u32 ob, .int .u32 oc, .int .i64 na, .int .u32 nb, .int .u32 nc] 47)))
  have BB' := Lib.hid (BB.out.trans ((below_new W0 (.cells #[.int .i64 6, .int .i64 p, .int .i64 oa, .int .u32 ob, .int .u32 oc, .int .i64 na, .int .u32 nb, .int .u32 nc] 47)).mono BB.out.size))
  clear B2
  have B2 := B2'
  clear B2'
  clear B3
  have B3 := B3'
  clear B3'
  clear R4
  have R4 := R4'
  clear R4'
  clear R5
  have R5 := R5'
  clear R5'
  clear MM
  have MM := MM'
  clear MM'
  clear BB
  have BB := BB'
  clear BB'
  have B8 := Lib.hid (Box.new W0 #[.int .i64 6, .int .i64 p, .int .i64 oa, .int .u32 ob, .int .u32 oc, .int .i64 na, .int .u32 nb, .int .u32 nc] 47 rfl)
  have hsz_b8 : (World.alloc W0 (.cells #[.int .i64 6, .int .i64 p, .int .i64 oa, .int .u32 ob, .int .u32 oc, .int .i64 na, .int .u32 nb, .int .u32 nc] 47)).heap.size = (World.heap W0).size + 1 := by simp
  generalize World.alloc W0 (.cells #[.int .i64 6, .int .i64 p, .int .i64 oa, .int .u32 ob, .int .u32 oc, .int .i64 na, .int .u32 nb, .int .u32 nc] 47) = a0 at *
  generalize World.heap W0 = hp_b8 at *
  generalize hp_b8.size = b8 at *
  obtain ⟨d0, d1, d2, d3, d4, d5, d6, d7, d8, d9⟩ := B3.out.all10
  obtain ⟨e0, e1, e2, e3, e4, e5, e6, e7⟩ := B8.out.all8
  obtain ⟨⟨m0, m1⟩, -⟩ := B2.out.cells2
  go_wp2_with fail
  clear d0 d1 d2 d3 d4 d5 d6 d7 d8 d9 e0 e1 e2 e3 e4 e5 e6 e7 m0 m1
  have q4 := R4.out.lt
  have q5 := R5.out.lt
  refine (swap_miss _ _ M N k p oa ob oc na nb nc _ _ MM.out HG.out (by omega) (by rw [HNV.out]; exact hk) (by rw [HNP.out]; exact hpn) (by rw [HI.out]; exact HWW.out)).mono ?_
  rintro e a1 ⟨pv, vv, rfl, hm, hb⟩
  have B2' := Lib.hid (B2.out.below (hb))
  have B3' := Lib.hid (B3.out.below (hb))
  have R4' := Lib.hid (R4.out.below (hb))
  have R5' := Lib.hid (R5.out.below (hb))
  have MM' := Lib.hid (MM.out.below (hb))
  have B8' := Lib.hid (B8.out.below (hb))
  have BB' := Lib.hid (BB.out.trans ((hb).mono BB.out.size))
  clear B2
  have B2 := B2'
  clear B2'
  clear B3
  have B3 := B3'
  clear B3'
  clear R4
  have R4 := R4'
  clear R4'
  clear R5
  have R5 := R5'
  clear R5'
  clear MM
  have MM := MM'
  clear MM'
  clear B8
  have B8 := B8'
  clear B8'
  clear BB
  have BB := BB'
  clear BB'
  clear hb
  have MN := Lib.hid (hm)
  clear hm MM
  rw [HI.out, HWD.out]
  rw [HI.out] at MN
  obtain ⟨c1, c2, e1, e2⟩ := MN.out.sl (np := np) (nv := nv) (by simp [Mem.readAt, HNP.out]) (by simp [Mem.readAt, HNV.out])
  subst e1 e2
  obtain ⟨⟨k0, k1⟩, f0, f1⟩ := R4.out.cells2
  have on := ((Only.refl b4 a1).set 0 (.slice c1 np np)).set 1 (.slice c2 nv nv)
  have r5 := R5.out.only (by omega) on
  obtain ⟨⟨q0, q1, q2⟩, s0, s1, s2⟩ := r5.cells3
  have r4 := (R4.out.set 0 (.slice c1 np np)).set 1 (.slice c2 nv nv)
  obtain ⟨⟨d0, d1, d2⟩, -⟩ := (((r5.set 0 (.int .i64 xv)).set 1 (.int .u32 xe)).set 2 (.int .u32 xr)).cells3
  have on2 := (((Only.refl b5 (World.setCell (World.setCell a1 ⟨b4, 0, none⟩ (.slice c1 np np)) ⟨b4, 1, none⟩ (.slice c2 nv nv))).set 0 (.int .i64 xv)).set 1 (.int .u32 xe)).set 2 (.int .u32 xr)
  have r6 := r4.only (by omega) on2
  obtain ⟨⟨e0, e1⟩, -⟩ := Box.cells2 r6
  have F1 := Lib.hid (((MN.out.only R4.out (by rintro (hq | hq) <;> omega) on).only r5 (by rintro (hq | hq) <;> omega) on2).imp (D' := Dn D w) (fun b hb => by
    rcases hb with hb | hb
    · exact .inl hb.1
    · exact .inr (by omega)))
  have F2 := Lib.hid (((((BB.out.put b4 (by omega) 0 (.slice c1 np np)).put b4 (by omega) 1 (.slice c2 nv nv)).put b5 (by omega) 0 (.int .i64 xv)).put b5 (by omega) 1 (.int .u32 xe)).put b5 (by omega) 2 (.int .u32 xr))
  clear on on2 r4 r5 r6
  clear B2 B3 R4 R5 B8 MN BB
  go_wp2
  refine bodyPost_ret (v := .tuple #[.agg #[.slice c1 np np, .slice c2 nv nv], .agg #[.int .i64 xv, .int .u32 xe, .int .u32 xr], .bool false, .int .i64 0]) (by simp [results, Try.f14, go_sem, e0, e1, d0, d1, d2]) rfl ?_
  exact ⟨_, _, rfl, F1.out, F2.out⟩
end Go.Proofs.Ytbaljoehgdhhhaa
