/- MemoryRefuses: the walk, part 5. -/
import Derived.Test.YtbaljoehgdhhhaaRefuse0
namespace Go.Proofs.Ytbaljoehgdhhhaa
open Go.RowKit Go.Shelf Go.Maps

set_option maxRecDepth 100000 in
set_option maxHeartbeats 6400000 in
theorem refuses_right_ok (T bF oF c1 : Nat) (ws : List Wd) (v : Value) (l : List DoV) (t op at_ oa ob oc na nb nc z : Int) (x : Nat) (w : World) (h0 : 0 < ws.length) (h1 : ws.length ≤ 8) (t0 : 1 ≤ T) (t1 : T ≤ 8)
    (hF : IsWords w (.slice (some ⟨bF, oF, none⟩) ws.length c1) ws) (hd : IsDos w v l) (hl : l.length ≤ 40) (hok : DosOk l) (p0 : -9223372036854775808 ≤ at_) (p1 : at_ < 9223372036854775808) (z0 : -9223372036854775808 ≤ z) (z1 : z < 9223372036854775808) (ho : 1 ≤ op ∧ op ≤ 6) (ht : 1 ≤ t ∧ t ≤ T) (ha : 0 ≤ at_ ∧ at_ < ws.length) (hx : 1 ≤ x ∧ x ≤ 8) :
    Calls Try.prog 8 #[.agg #[.int .i64 T, .slice (some ⟨bF, oF, none⟩) ws.length c1, v], .agg #[.int .i64 t, .int .i64 op, .int .i64 at_, .int .i64 oa, .int .u32 ob, .int .u32 oc, .int .i64 na, .int .u32 nb, .int .u32 nc, .int .i64 z], .int .i64 x] w fun e w' => e = .returned (.bool true) ∧ Below w.heap.size w w' := by
  obtain ⟨y2, c2, rfl⟩ := hd.slice
  obtain ⟨M, hM⟩ : ∃ M, (newMem T ws).ress l = M := ⟨_, rfl⟩
  have hg := ress_good (newMem_good T ws (by omega) t1) l
  rw [hM] at hg
  have hr := res_word M ⟨t, op, at_, oa, ob, oc, na, nb, nc, z⟩
  have hrg := hg.1.res ⟨t, op, at_, oa, ob, oc, na, nb, nc, z⟩
  obtain ⟨n1, hn1⟩ : ∃ n, ws.length = n := ⟨_, rfl⟩
  obtain ⟨n2, hn2⟩ : ∃ n, l.length = n := ⟨_, rfl⟩
  have e1 : M.hs.length = n1 := by rw [hg.2.1]; simp [newMem, hn1]
  have e2 : M.vs.length = T := by rw [hg.2.2]; simp [newMem]
  have her : errOf M.hs.length M.vs.length t at_ = 0 := by rw [e1, e2]; unfold errOf; rw [if_neg (by omega), if_neg (by omega)]
  have hr0 : (M.res ⟨t, op, at_, oa, ob, oc, na, nb, nc, z⟩).2.2.2 = 0 := by unfold Mem.res; simp only; rw [if_neg (by omega), if_neg (by rw [her]; decide)]; (repeat' split) <;> rfl
  obtain ⟨wa, wb, wc, hwd⟩ := hr
  obtain ⟨dn, hdn⟩ : ∃ b, (M.res ⟨t, op, at_, oa, ob, oc, na, nb, nc, z⟩).2.2.1 = b := ⟨_, rfl⟩
  have HR0 := Lib.hid hr0
  have HWD := Lib.hid hwd
  have HDN := Lib.hid hdn
  have HM := Lib.hid hM
  have HG := Lib.hid hg.1
  have HRG := Lib.hid hrg
  have E1 := Lib.hid e1
  have E2 := Lib.hid e2
  have HN1 := Lib.hid hn1
  have HN2 := Lib.hid hn2
  have HOK := Lib.hid hok
  have HW1 := Lib.hid h0
  have hbb := b2 w (.cells #[.int .i64 T, .slice (some ⟨bF, oF, none⟩) n1 c1, .slice y2 n2 c2] 25) (.cells #[.int .i64 t, .int .i64 op, .int .i64 at_, .int .i64 oa, .int .u32 ob, .int .u32 oc, .int .i64 na, .int .u32 nb, .int .u32 nc, .int .i64 z] 49)
  have FF := Lib.hid (hF.below hbb)
  have DD := Lib.hid (hd.below hbb)
  rw [hn1] at h0 h1 FF ⊢
  rw [hn2] at hl DD ⊢
  (try rw [hn1] at ha)
  have qN := neqW
  have X3 := Lib.hid (Box.alloc (Box.new w #[.int .i64 T, .slice (some ⟨bF, oF, none⟩) n1 c1, .slice y2 n2 c2] 25 rfl) (.cells #[.int .i64 t, .int .i64 op, .int .i64 at_, .int .i64 oa, .int .u32 ob, .int .u32 oc, .int .i64 na, .int .u32 nb, .int .u32 nc, .int .i64 z] 49))
  have X4 := Lib.hid (Box.new (w.alloc (.cells #[.int .i64 T, .slice (some ⟨bF, oF, none⟩) n1 c1, .slice y2 n2 c2] 25)) #[.int .i64 t, .int .i64 op, .int .i64 at_, .int .i64 oa, .int .u32 ob, .int .u32 oc, .int .i64 na, .int .u32 nb, .int .u32 nc, .int .i64 z] 49 (n := w.heap.size + 1) (by simp))
  have BB := Lib.hid hbb
  have hgl : 1 + l.length ≤ 41 := by rw [hn2]; omega
  clear hbb hF hd hok hg hrg hM hr0 hwd hdn her
  go_enter Try.func8, Try.ntmps8
  go_wp2_with fail
  generalize (w.alloc (.cells #[.int .i64 T, .slice (some ⟨bF, oF, none⟩) n1 c1, .slice y2 n2 c2] 25)).alloc (.cells #[.int .i64 t, .int .i64 op, .int .i64 at_, .int .i64 oa, .int .u32 ob, .int .u32 oc, .int .i64 na, .int .u32 nb, .int .u32 nc, .int .i64 z] 49) = W0 at *
  obtain ⟨b4, hb4⟩ : ∃ br, w.heap.size + 1 = br := ⟨_, rfl⟩
  obtain ⟨b3, hb3⟩ : ∃ bp, w.heap.size = bp := ⟨_, rfl⟩
  have hbq := hb3
  rw [hb4] at X4 ⊢
  rw [hb3] at X3 hb4 ⊢
  refine (awake_any _).mono ?_
  rintro e a0 ⟨rfl, hb⟩
  replace X3 := Lib.hid (X3.out.below (hb))
  replace X4 := Lib.hid (X4.out.below (hb))
  replace FF := Lib.hid (FF.out.below (hb))
  replace DD := Lib.hid (DD.out.below (hb))
  replace BB := Lib.hid (BB.out.trans ((hb).mono BB.out.size))
  clear hb
  obtain ⟨⟨m0, m1, m2⟩, -⟩ := X3.out.cells3
  go_wp2_with fail
  clear m0 m1 m2
  have hbg : Calls Try.prog 16 #[.agg #[.int .i64 T, .slice (some ⟨bF, oF, none⟩) n1 c1, .slice y2 n2 c2]] a0 fun e w' => ∃ pv vv, e = .returned (.tuple #[.agg #[pv, vv], .bool true]) ∧ MD (fun b => a0.heap.size ≤ b) w' pv vv M ∧ Below a0.heap.size a0 w' := by
    rcases FF.out with ⟨a', c', he', hw'⟩ | ⟨b', o', c', he', hbl, hcc⟩
    · exfalso; have hz := HN1.out; rw [hw'] at hz; simp at hz; omega
    · rw [HN1.out] at he'
      simp only [Value.slice.injEq, Option.some.injEq, Addr.mk.injEq, and_true] at he'
      obtain ⟨⟨rfl, rfl⟩, -, rfl⟩ := he'
      have hq := begun_ok T bF oF c1 ws (.slice y2 n2 c2) l a0 HW1.out (by rw [HN1.out]; omega) t0 t1 hbl hcc DD.out (by rw [HN2.out]; omega) HOK.out
      rw [HN1.out, HM.out] at hq
      exact hq
  refine (hbg).mono ?_
  rintro e a1 ⟨pv, vv, rfl, hm, hb⟩
  replace X3 := Lib.hid (X3.out.below (hb))
  replace X4 := Lib.hid (X4.out.below (hb))
  replace FF := Lib.hid (FF.out.below (hb))
  replace DD := Lib.hid (DD.out.below (hb))
  replace BB := Lib.hid (BB.out.trans ((hb).mono BB.out.size))
  clear hb
  have MM := Lib.hid (hm)
  clear hm hbg
  obtain ⟨u1, u2, e1, e2⟩ := MM.out.sl E1.out E2.out
  subst e1 e2
  go_upto_region 4 with fail
  have hlt_b7 := BB.out.size
  have hlt_b7_X3 := X3.out.lt
  have hlt_b7_X4 := X4.out.lt
  replace X3 := Lib.hid (X3.out.below (below_new a1 (.cells #[.slice u1 n1 n1, .slice u2 T T] 31)))
  replace X4 := Lib.hid (X4.out.below (below_new a1 (.cells #[.slice u1 n1 n1, .slice u2 T T] 31)))
  replace FF := Lib.hid (FF.out.below (below_new a1 (.cells #[.slice u1 n1 n1, .slice u2 T T] 31)))
  replace DD := Lib.hid (DD.out.below (below_new a1 (.cells #[.slice u1 n1 n1, .slice u2 T T] 31)))
  replace MM := Lib.hid (MM.out.below (below_new a1 (.cells #[.slice u1 n1 n1, .slice u2 T T] 31)))
  replace BB := Lib.hid (BB.out.trans ((below_new a1 (.cells #[.slice u1 n1 n1, .slice u2 T T] 31)).mono BB.out.size))
  have B7 := Lib.hid (Box.new a1 #[.slice u1 n1 n1, .slice u2 T T] 31 rfl)
  have hsz_b7 : (World.alloc a1 (.cells #[.slice u1 n1 n1, .slice u2 T T] 31)).heap.size = (World.heap a1).size + 1 := by simp
  generalize World.alloc a1 (.cells #[.slice u1 n1 n1, .slice u2 T T] 31) = a2 at *
  generalize World.heap a1 = hp_b7 at *
  generalize hp_b7.size = b7 at *
  obtain ⟨⟨g0, g1⟩, -⟩ := B7.out.cells2
  go_wp2_with fail
  clear g0 g1
  refine (size_any u1 u2 n1 T _).mono ?_
  rintro e a3 ⟨rfl, hb⟩
  replace X3 := Lib.hid (X3.out.below (hb))
  replace X4 := Lib.hid (X4.out.below (hb))
  replace FF := Lib.hid (FF.out.below (hb))
  replace DD := Lib.hid (DD.out.below (hb))
  replace MM := Lib.hid (MM.out.below (hb))
  replace B7 := Lib.hid (B7.out.below (hb))
  replace BB := Lib.hid (BB.out.trans ((hb).mono BB.out.size))
  clear hb
  obtain ⟨⟨g0, g1⟩, -⟩ := B7.out.cells2
  obtain ⟨d0, d1, d2, d3, d4, d5, d6, d7, d8, d9⟩ := X4.out.all10
  go_wp2_with fail
  clear g0 g1
  clear d0 d1 d2 d3 d4 d5 d6 d7 d8 d9
  refine (do_any _ _ M (1 + l.length) ⟨t, op, at_, oa, ob, oc, na, nb, nc, z⟩ _ _ MM.out HG.out (by omega) ⟨⟨p0, p1⟩, z0, z1⟩).mono ?_
  rintro e a4 ⟨pv, vv, rfl, hm, hb⟩
  replace X3 := Lib.hid (X3.out.below (hb))
  replace X4 := Lib.hid (X4.out.below (hb))
  replace FF := Lib.hid (FF.out.below (hb))
  replace DD := Lib.hid (DD.out.below (hb))
  replace MM := Lib.hid (MM.out.below (hb))
  replace B7 := Lib.hid (B7.out.below (hb))
  replace BB := Lib.hid (BB.out.trans ((hb).mono BB.out.size))
  clear hb
  have MK := Lib.hid (hm)
  clear hm
  rw [HR0.out, HWD.out, HDN.out]
  obtain ⟨v1, v2, e1, e2⟩ := MK.out.sl (np := n1) (nv := T) (by rw [HRG.out.2.1, E1.out]) (by rw [HRG.out.2.2, E2.out])
  subst e1 e2
  go_upto_region 8 with fail
  have hlt_b11 := BB.out.size
  have hlt_b11_X3 := X3.out.lt
  have hlt_b11_X4 := X4.out.lt
  have hlt_b11_B7 := B7.out.lt
  replace X3 := Lib.hid (X3.out.below (below_new a4 (.cells #[.slice v1 n1 n1, .slice v2 T T] 31)))
  replace X4 := Lib.hid (X4.out.below (below_new a4 (.cells #[.slice v1 n1 n1, .slice v2 T T] 31)))
  replace FF := Lib.hid (FF.out.below (below_new a4 (.cells #[.slice v1 n1 n1, .slice v2 T T] 31)))
  replace DD := Lib.hid (DD.out.below (below_new a4 (.cells #[.slice v1 n1 n1, .slice v2 T T] 31)))
  replace MM := Lib.hid (MM.out.below (below_new a4 (.cells #[.slice v1 n1 n1, .slice v2 T T] 31)))
  replace B7 := Lib.hid (B7.out.below (below_new a4 (.cells #[.slice v1 n1 n1, .slice v2 T T] 31)))
  replace MK := Lib.hid (MK.out.below (below_new a4 (.cells #[.slice v1 n1 n1, .slice v2 T T] 31)))
  replace BB := Lib.hid (BB.out.trans ((below_new a4 (.cells #[.slice v1 n1 n1, .slice v2 T T] 31)).mono BB.out.size))
  have B11 := Lib.hid (Box.new a4 #[.slice v1 n1 n1, .slice v2 T T] 31 rfl)
  have hsz_b11 : (World.alloc a4 (.cells #[.slice v1 n1 n1, .slice v2 T T] 31)).heap.size = (World.heap a4).size + 1 := by simp
  generalize World.alloc a4 (.cells #[.slice v1 n1 n1, .slice v2 T T] 31) = a5 at *
  generalize World.heap a4 = hp_b11 at *
  generalize hp_b11.size = b11 at *
  have hlt_b12 := BB.out.size
  replace X3 := Lib.hid (X3.out.below (below_new a5 (.cells #[.int .i64 wa, .int .u32 wb, .int .u32 wc] 45)))
  replace X4 := Lib.hid (X4.out.below (below_new a5 (.cells #[.int .i64 wa, .int .u32 wb, .int .u32 wc] 45)))
  replace FF := Lib.hid (FF.out.below (below_new a5 (.cells #[.int .i64 wa, .int .u32 wb, .int .u32 wc] 45)))
  replace DD := Lib.hid (DD.out.below (below_new a5 (.cells #[.int .i64 wa, .int .u32 wb, .int .u32 wc] 45)))
  replace MM := Lib.hid (MM.out.below (below_new a5 (.cells #[.int .i64 wa, .int .u32 wb, .int .u32 wc] 45)))
  replace B7 := Lib.hid (B7.out.below (below_new a5 (.cells #[.int .i64 wa, .int .u32 wb, .int .u32 wc] 45)))
  replace MK := Lib.hid (MK.out.below (below_new a5 (.cells #[.int .i64 wa, .int .u32 wb, .int .u32 wc] 45)))
  replace B11 := Lib.hid (B11.out.below (below_new a5 (.cells #[.int .i64 wa, .int .u32 wb, .int .u32 wc] 45)))
  replace BB := Lib.hid (BB.out.trans ((below_new a5 (.cells #[.int .i64 wa, .int .u32 wb, .int .u32 wc] 45)).mono BB.out.size))
  have B12 := Lib.hid (Box.new a5 #[.int .i64 wa, .int .u32 wb, .int .u32 wc] 45 (n := b11 + 1) hsz_b11.symm)
  have hsz_b12 : (World.alloc a5 (.cells #[.int .i64 wa, .int .u32 wb, .int .u32 wc] 45)).heap.size = b11 + 1 + 1 := by simp [hsz_b11]
  rw [hsz_b11] at hlt_b12
  generalize World.alloc a5 (.cells #[.int .i64 wa, .int .u32 wb, .int .u32 wc] 45) = a6 at *
  obtain ⟨b12, hq_b12⟩ : ∃ b, b11 + 1 = b := ⟨_, rfl⟩
  rw [hq_b12] at B12 hsz_b12 ⊢
  obtain ⟨d0, d1, d2, d3, d4, d5, d6, d7, d8, d9⟩ := X4.out.all10
  obtain ⟨⟨h0', h1', h2'⟩, -⟩ := B12.out.cells3
  obtain ⟨⟨g0, g1⟩, -⟩ := B7.out.cells2
  obtain ⟨⟨m0, m1, m2⟩, -⟩ := X3.out.cells3
  go_wp2_with fail
  clear d0 d1 d2 d3 d4 d5 d6 d7 d8 d9
  clear h0' h1' h2'
  clear g0 g1
  clear m0 m1 m2
  skip
  have hnw : Calls Try.prog 11 #[.int .i64 (x : Int), .slice (some ⟨bF, oF, none⟩) n1 c1] a6 fun e w' => ∃ pv vv, e = .returned (.tuple #[.agg #[pv, vv], .int .i64 0]) ∧ MD (fun b => a6.heap.size ≤ b) w' pv vv (newMem x ws) ∧ Below a6.heap.size a6 w' := by
    rcases FF.out with ⟨a', c', he', hw'⟩ | ⟨b', o', c', he', hbl, hcc⟩
    · exfalso; have hz := HN1.out; rw [hw'] at hz; simp at hz; omega
    · rw [HN1.out] at he'
      simp only [Value.slice.injEq, Option.some.injEq, Addr.mk.injEq, and_true] at he'
      obtain ⟨⟨rfl, rfl⟩, -, rfl⟩ := he'
      have hq := new_ok x bF oF c1 ws a6 HW1.out (by rw [HN1.out]; omega) hx.1 hx.2 hbl hcc
      rw [HN1.out] at hq
      exact hq
  refine (hnw).mono ?_
  rintro e a7 ⟨pv, vv, rfl, hm, hb⟩
  replace X3 := Lib.hid (X3.out.below (hb))
  replace X4 := Lib.hid (X4.out.below (hb))
  replace FF := Lib.hid (FF.out.below (hb))
  replace DD := Lib.hid (DD.out.below (hb))
  replace MM := Lib.hid (MM.out.below (hb))
  replace B7 := Lib.hid (B7.out.below (hb))
  replace MK := Lib.hid (MK.out.below (hb))
  replace B11 := Lib.hid (B11.out.below (hb))
  replace B12 := Lib.hid (B12.out.below (hb))
  replace BB := Lib.hid (BB.out.trans ((hb).mono BB.out.size))
  clear hb
  clear hnw
  obtain ⟨s1, s2, e1, e2⟩ : ∃ u1 u2, pv = .slice u1 n1 n1 ∧ vv = .slice u2 x x := hm.sl (by simp [newMem, HN1.out]) (by simp [newMem])
  subst e1 e2
  clear hm
  go_upto_region 19 with fail
  have hlt_b20 := BB.out.size
  have hlt_b20_X3 := X3.out.lt
  have hlt_b20_X4 := X4.out.lt
  have hlt_b20_B7 := B7.out.lt
  have hlt_b20_B11 := B11.out.lt
  have hlt_b20_B12 := B12.out.lt
  replace X3 := Lib.hid (X3.out.below (below_new a7 (.cells #[.slice s1 n1 n1, .slice s2 x x] 31)))
  replace X4 := Lib.hid (X4.out.below (below_new a7 (.cells #[.slice s1 n1 n1, .slice s2 x x] 31)))
  replace FF := Lib.hid (FF.out.below (below_new a7 (.cells #[.slice s1 n1 n1, .slice s2 x x] 31)))
  replace DD := Lib.hid (DD.out.below (below_new a7 (.cells #[.slice s1 n1 n1, .slice s2 x x] 31)))
  replace MM := Lib.hid (MM.out.below (below_new a7 (.cells #[.slice s1 n1 n1, .slice s2 x x] 31)))
  replace B7 := Lib.hid (B7.out.below (below_new a7 (.cells #[.slice s1 n1 n1, .slice s2 x x] 31)))
  replace MK := Lib.hid (MK.out.below (below_new a7 (.cells #[.slice s1 n1 n1, .slice s2 x x] 31)))
  replace B11 := Lib.hid (B11.out.below (below_new a7 (.cells #[.slice s1 n1 n1, .slice s2 x x] 31)))
  replace B12 := Lib.hid (B12.out.below (below_new a7 (.cells #[.slice s1 n1 n1, .slice s2 x x] 31)))
  replace BB := Lib.hid (BB.out.trans ((below_new a7 (.cells #[.slice s1 n1 n1, .slice s2 x x] 31)).mono BB.out.size))
  have B20 := Lib.hid (Box.new a7 #[.slice s1 n1 n1, .slice s2 x x] 31 rfl)
  have hsz_b20 : (World.alloc a7 (.cells #[.slice s1 n1 n1, .slice s2 x x] 31)).heap.size = (World.heap a7).size + 1 := by simp
  generalize World.alloc a7 (.cells #[.slice s1 n1 n1, .slice s2 x x] 31) = a8 at *
  generalize World.heap a7 = hp_b20 at *
  generalize hp_b20.size = b20 at *
  go_wp2_with fail
  refine (new_err 1 none 0 0 _ (by decide)).mono ?_
  rintro e a9 ⟨rfl, hb⟩
  replace X3 := Lib.hid (X3.out.below (hb))
  replace X4 := Lib.hid (X4.out.below (hb))
  replace FF := Lib.hid (FF.out.below (hb))
  replace DD := Lib.hid (DD.out.below (hb))
  replace MM := Lib.hid (MM.out.below (hb))
  replace B7 := Lib.hid (B7.out.below (hb))
  replace MK := Lib.hid (MK.out.below (hb))
  replace B11 := Lib.hid (B11.out.below (hb))
  replace B12 := Lib.hid (B12.out.below (hb))
  replace B20 := Lib.hid (B20.out.below (hb))
  replace BB := Lib.hid (BB.out.trans ((hb).mono BB.out.size))
  clear hb
  rw [show newErr 1 0 = 8 from rfl]
  go_upto_region 20 with fail
  have hlt_b22 := BB.out.size
  have hlt_b22_X3 := X3.out.lt
  have hlt_b22_X4 := X4.out.lt
  have hlt_b22_B7 := B7.out.lt
  have hlt_b22_B11 := B11.out.lt
  have hlt_b22_B12 := B12.out.lt
  have hlt_b22_B20 := B20.out.lt
  replace X3 := Lib.hid (X3.out.below (below_new a9 (.cells #[.slice none 0 0, .slice none 0 0] 31)))
  replace X4 := Lib.hid (X4.out.below (below_new a9 (.cells #[.slice none 0 0, .slice none 0 0] 31)))
  replace FF := Lib.hid (FF.out.below (below_new a9 (.cells #[.slice none 0 0, .slice none 0 0] 31)))
  replace DD := Lib.hid (DD.out.below (below_new a9 (.cells #[.slice none 0 0, .slice none 0 0] 31)))
  replace MM := Lib.hid (MM.out.below (below_new a9 (.cells #[.slice none 0 0, .slice none 0 0] 31)))
  replace B7 := Lib.hid (B7.out.below (below_new a9 (.cells #[.slice none 0 0, .slice none 0 0] 31)))
  replace MK := Lib.hid (MK.out.below (below_new a9 (.cells #[.slice none 0 0, .slice none 0 0] 31)))
  replace B11 := Lib.hid (B11.out.below (below_new a9 (.cells #[.slice none 0 0, .slice none 0 0] 31)))
  replace B12 := Lib.hid (B12.out.below (below_new a9 (.cells #[.slice none 0 0, .slice none 0 0] 31)))
  replace B20 := Lib.hid (B20.out.below (below_new a9 (.cells #[.slice none 0 0, .slice none 0 0] 31)))
  replace BB := Lib.hid (BB.out.trans ((below_new a9 (.cells #[.slice none 0 0, .slice none 0 0] 31)).mono BB.out.size))
  have B22 := Lib.hid (Box.new a9 #[.slice none 0 0, .slice none 0 0] 31 rfl)
  have hsz_b22 : (World.alloc a9 (.cells #[.slice none 0 0, .slice none 0 0] 31)).heap.size = (World.heap a9).size + 1 := by simp
  generalize World.alloc a9 (.cells #[.slice none 0 0, .slice none 0 0] 31) = a10 at *
  generalize World.heap a9 = hp_b22 at *
  generalize hp_b22.size = b22 at *
  have F2 := BB.out
  clear X3 X4 FF DD MM B7 MK B11 B12 B20 B22 BB
  go_wp2
  all_goals go_ret
  all_goals exact ⟨by first | (simp; done) | (simp; omega) | (simp; intros; omega), by first | exact F2 | (rw [← hbq]; exact F2)⟩

set_option maxRecDepth 100000 in
set_option maxHeartbeats 6400000 in
theorem refuses_right_bad (T bF oF c1 : Nat) (ws : List Wd) (v : Value) (l : List DoV) (t op at_ oa ob oc na nb nc z x : Int) (w : World) (h0 : 0 < ws.length) (h1 : ws.length ≤ 8) (t0 : 1 ≤ T) (t1 : T ≤ 8)
    (hF : IsWords w (.slice (some ⟨bF, oF, none⟩) ws.length c1) ws) (hd : IsDos w v l) (hl : l.length ≤ 40) (hok : DosOk l) (p0 : -9223372036854775808 ≤ at_) (p1 : at_ < 9223372036854775808) (z0 : -9223372036854775808 ≤ z) (z1 : z < 9223372036854775808) (ho : 1 ≤ op ∧ op ≤ 6) (ht : 1 ≤ t ∧ t ≤ T) (ha : 0 ≤ at_ ∧ at_ < ws.length) (hx : x < 1 ∨ 8 < x) :
    Calls Try.prog 8 #[.agg #[.int .i64 T, .slice (some ⟨bF, oF, none⟩) ws.length c1, v], .agg #[.int .i64 t, .int .i64 op, .int .i64 at_, .int .i64 oa, .int .u32 ob, .int .u32 oc, .int .i64 na, .int .u32 nb, .int .u32 nc, .int .i64 z], .int .i64 x] w fun e w' => e = .returned (.bool true) ∧ Below w.heap.size w w' := by
  obtain ⟨y2, c2, rfl⟩ := hd.slice
  obtain ⟨M, hM⟩ : ∃ M, (newMem T ws).ress l = M := ⟨_, rfl⟩
  have hg := ress_good (newMem_good T ws (by omega) t1) l
  rw [hM] at hg
  have hr := res_word M ⟨t, op, at_, oa, ob, oc, na, nb, nc, z⟩
  have hrg := hg.1.res ⟨t, op, at_, oa, ob, oc, na, nb, nc, z⟩
  obtain ⟨n1, hn1⟩ : ∃ n, ws.length = n := ⟨_, rfl⟩
  obtain ⟨n2, hn2⟩ : ∃ n, l.length = n := ⟨_, rfl⟩
  have e1 : M.hs.length = n1 := by rw [hg.2.1]; simp [newMem, hn1]
  have e2 : M.vs.length = T := by rw [hg.2.2]; simp [newMem]
  have her : errOf M.hs.length M.vs.length t at_ = 0 := by rw [e1, e2]; unfold errOf; rw [if_neg (by omega), if_neg (by omega)]
  have hr0 : (M.res ⟨t, op, at_, oa, ob, oc, na, nb, nc, z⟩).2.2.2 = 0 := by unfold Mem.res; simp only; rw [if_neg (by omega), if_neg (by rw [her]; decide)]; (repeat' split) <;> rfl
  obtain ⟨wa, wb, wc, hwd⟩ := hr
  obtain ⟨dn, hdn⟩ : ∃ b, (M.res ⟨t, op, at_, oa, ob, oc, na, nb, nc, z⟩).2.2.1 = b := ⟨_, rfl⟩
  have HR0 := Lib.hid hr0
  have HWD := Lib.hid hwd
  have HDN := Lib.hid hdn
  have HM := Lib.hid hM
  have HG := Lib.hid hg.1
  have HRG := Lib.hid hrg
  have E1 := Lib.hid e1
  have E2 := Lib.hid e2
  have HN1 := Lib.hid hn1
  have HN2 := Lib.hid hn2
  have HOK := Lib.hid hok
  have HW1 := Lib.hid h0
  have hbb := b2 w (.cells #[.int .i64 T, .slice (some ⟨bF, oF, none⟩) n1 c1, .slice y2 n2 c2] 25) (.cells #[.int .i64 t, .int .i64 op, .int .i64 at_, .int .i64 oa, .int .u32 ob, .int .u32 oc, .int .i64 na, .int .u32 nb, .int .u32 nc, .int .i64 z] 49)
  have FF := Lib.hid (hF.below hbb)
  have DD := Lib.hid (hd.below hbb)
  rw [hn1] at h0 h1 FF ⊢
  rw [hn2] at hl DD ⊢
  (try rw [hn1] at ha)
  have qN := neqW
  have X3 := Lib.hid (Box.alloc (Box.new w #[.int .i64 T, .slice (some ⟨bF, oF, none⟩) n1 c1, .slice y2 n2 c2] 25 rfl) (.cells #[.int .i64 t, .int .i64 op, .int .i64 at_, .int .i64 oa, .int .u32 ob, .int .u32 oc, .int .i64 na, .int .u32 nb, .int .u32 nc, .int .i64 z] 49))
  have X4 := Lib.hid (Box.new (w.alloc (.cells #[.int .i64 T, .slice (some ⟨bF, oF, none⟩) n1 c1, .slice y2 n2 c2] 25)) #[.int .i64 t, .int .i64 op, .int .i64 at_, .int .i64 oa, .int .u32 ob, .int .u32 oc, .int .i64 na, .int .u32 nb, .int .u32 nc, .int .i64 z] 49 (n := w.heap.size + 1) (by simp))
  have BB := Lib.hid hbb
  have hgl : 1 + l.length ≤ 41 := by rw [hn2]; omega
  clear hbb hF hd hok hg hrg hM hr0 hwd hdn her
  go_enter Try.func8, Try.ntmps8
  go_wp2_with fail
  generalize (w.alloc (.cells #[.int .i64 T, .slice (some ⟨bF, oF, none⟩) n1 c1, .slice y2 n2 c2] 25)).alloc (.cells #[.int .i64 t, .int .i64 op, .int .i64 at_, .int .i64 oa, .int .u32 ob, .int .u32 oc, .int .i64 na, .int .u32 nb, .int .u32 nc, .int .i64 z] 49) = W0 at *
  obtain ⟨b4, hb4⟩ : ∃ br, w.heap.size + 1 = br := ⟨_, rfl⟩
  obtain ⟨b3, hb3⟩ : ∃ bp, w.heap.size = bp := ⟨_, rfl⟩
  have hbq := hb3
  rw [hb4] at X4 ⊢
  rw [hb3] at X3 hb4 ⊢
  refine (awake_any _).mono ?_
  rintro e a0 ⟨rfl, hb⟩
  replace X3 := Lib.hid (X3.out.below (hb))
  replace X4 := Lib.hid (X4.out.below (hb))
  replace FF := Lib.hid (FF.out.below (hb))
  replace DD := Lib.hid (DD.out.below (hb))
  replace BB := Lib.hid (BB.out.trans ((hb).mono BB.out.size))
  clear hb
  obtain ⟨⟨m0, m1, m2⟩, -⟩ := X3.out.cells3
  go_wp2_with fail
  clear m0 m1 m2
  have hbg : Calls Try.prog 16 #[.agg #[.int .i64 T, .slice (some ⟨bF, oF, none⟩) n1 c1, .slice y2 n2 c2]] a0 fun e w' => ∃ pv vv, e = .returned (.tuple #[.agg #[pv, vv], .bool true]) ∧ MD (fun b => a0.heap.size ≤ b) w' pv vv M ∧ Below a0.heap.size a0 w' := by
    rcases FF.out with ⟨a', c', he', hw'⟩ | ⟨b', o', c', he', hbl, hcc⟩
    · exfalso; have hz := HN1.out; rw [hw'] at hz; simp at hz; omega
    · rw [HN1.out] at he'
      simp only [Value.slice.injEq, Option.some.injEq, Addr.mk.injEq, and_true] at he'
      obtain ⟨⟨rfl, rfl⟩, -, rfl⟩ := he'
      have hq := begun_ok T bF oF c1 ws (.slice y2 n2 c2) l a0 HW1.out (by rw [HN1.out]; omega) t0 t1 hbl hcc DD.out (by rw [HN2.out]; omega) HOK.out
      rw [HN1.out, HM.out] at hq
      exact hq
  refine (hbg).mono ?_
  rintro e a1 ⟨pv, vv, rfl, hm, hb⟩
  replace X3 := Lib.hid (X3.out.below (hb))
  replace X4 := Lib.hid (X4.out.below (hb))
  replace FF := Lib.hid (FF.out.below (hb))
  replace DD := Lib.hid (DD.out.below (hb))
  replace BB := Lib.hid (BB.out.trans ((hb).mono BB.out.size))
  clear hb
  have MM := Lib.hid (hm)
  clear hm hbg
  obtain ⟨u1, u2, e1, e2⟩ := MM.out.sl E1.out E2.out
  subst e1 e2
  go_upto_region 4 with fail
  have hlt_b7 := BB.out.size
  have hlt_b7_X3 := X3.out.lt
  have hlt_b7_X4 := X4.out.lt
  replace X3 := Lib.hid (X3.out.below (below_new a1 (.cells #[.slice u1 n1 n1, .slice u2 T T] 31)))
  replace X4 := Lib.hid (X4.out.below (below_new a1 (.cells #[.slice u1 n1 n1, .slice u2 T T] 31)))
  replace FF := Lib.hid (FF.out.below (below_new a1 (.cells #[.slice u1 n1 n1, .slice u2 T T] 31)))
  replace DD := Lib.hid (DD.out.below (below_new a1 (.cells #[.slice u1 n1 n1, .slice u2 T T] 31)))
  replace MM := Lib.hid (MM.out.below (below_new a1 (.cells #[.slice u1 n1 n1, .slice u2 T T] 31)))
  replace BB := Lib.hid (BB.out.trans ((below_new a1 (.cells #[.slice u1 n1 n1, .slice u2 T T] 31)).mono BB.out.size))
  have B7 := Lib.hid (Box.new a1 #[.slice u1 n1 n1, .slice u2 T T] 31 rfl)
  have hsz_b7 : (World.alloc a1 (.cells #[.slice u1 n1 n1, .slice u2 T T] 31)).heap.size = (World.heap a1).size + 1 := by simp
  generalize World.alloc a1 (.cells #[.slice u1 n1 n1, .slice u2 T T] 31) = a2 at *
  generalize World.heap a1 = hp_b7 at *
  generalize hp_b7.size = b7 at *
  obtain ⟨⟨g0, g1⟩, -⟩ := B7.out.cells2
  go_wp2_with fail
  clear g0 g1
  refine (size_any u1 u2 n1 T _).mono ?_
  rintro e a3 ⟨rfl, hb⟩
  replace X3 := Lib.hid (X3.out.below (hb))
  replace X4 := Lib.hid (X4.out.below (hb))
  replace FF := Lib.hid (FF.out.below (hb))
  replace DD := Lib.hid (DD.out.below (hb))
  replace MM := Lib.hid (MM.out.below (hb))
  replace B7 := Lib.hid (B7.out.below (hb))
  replace BB := Lib.hid (BB.out.trans ((hb).mono BB.out.size))
  clear hb
  obtain ⟨⟨g0, g1⟩, -⟩ := B7.out.cells2
  obtain ⟨d0, d1, d2, d3, d4, d5, d6, d7, d8, d9⟩ := X4.out.all10
  go_wp2_with fail
  clear g0 g1
  clear d0 d1 d2 d3 d4 d5 d6 d7 d8 d9
  refine (do_any _ _ M (1 + l.length) ⟨t, op, at_, oa, ob, oc, na, nb, nc, z⟩ _ _ MM.out HG.out (by omega) ⟨⟨p0, p1⟩, z0, z1⟩).mono ?_
  rintro e a4 ⟨pv, vv, rfl, hm, hb⟩
  replace X3 := Lib.hid (X3.out.below (hb))
  replace X4 := Lib.hid (X4.out.below (hb))
  replace FF := Lib.hid (FF.out.below (hb))
  replace DD := Lib.hid (DD.out.below (hb))
  replace MM := Lib.hid (MM.out.below (hb))
  replace B7 := Lib.hid (B7.out.below (hb))
  replace BB := Lib.hid (BB.out.trans ((hb).mono BB.out.size))
  clear hb
  have MK := Lib.hid (hm)
  clear hm
  rw [HR0.out, HWD.out, HDN.out]
  obtain ⟨v1, v2, e1, e2⟩ := MK.out.sl (np := n1) (nv := T) (by rw [HRG.out.2.1, E1.out]) (by rw [HRG.out.2.2, E2.out])
  subst e1 e2
  go_upto_region 8 with fail
  have hlt_b11 := BB.out.size
  have hlt_b11_X3 := X3.out.lt
  have hlt_b11_X4 := X4.out.lt
  have hlt_b11_B7 := B7.out.lt
  replace X3 := Lib.hid (X3.out.below (below_new a4 (.cells #[.slice v1 n1 n1, .slice v2 T T] 31)))
  replace X4 := Lib.hid (X4.out.below (below_new a4 (.cells #[.slice v1 n1 n1, .slice v2 T T] 31)))
  replace FF := Lib.hid (FF.out.below (below_new a4 (.cells #[.slice v1 n1 n1, .slice v2 T T] 31)))
  replace DD := Lib.hid (DD.out.below (below_new a4 (.cells #[.slice v1 n1 n1, .slice v2 T T] 31)))
  replace MM := Lib.hid (MM.out.below (below_new a4 (.cells #[.slice v1 n1 n1, .slice v2 T T] 31)))
  replace B7 := Lib.hid (B7.out.below (below_new a4 (.cells #[.slice v1 n1 n1, .slice v2 T T] 31)))
  replace MK := Lib.hid (MK.out.below (below_new a4 (.cells #[.slice v1 n1 n1, .slice v2 T T] 31)))
  replace BB := Lib.hid (BB.out.trans ((below_new a4 (.cells #[.slice v1 n1 n1, .slice v2 T T] 31)).mono BB.out.size))
  have B11 := Lib.hid (Box.new a4 #[.slice v1 n1 n1, .slice v2 T T] 31 rfl)
  have hsz_b11 : (World.alloc a4 (.cells #[.slice v1 n1 n1, .slice v2 T T] 31)).heap.size = (World.heap a4).size + 1 := by simp
  generalize World.alloc a4 (.cells #[.slice v1 n1 n1, .slice v2 T T] 31) = a5 at *
  generalize World.heap a4 = hp_b11 at *
  generalize hp_b11.size = b11 at *
  have hlt_b12 := BB.out.size
  replace X3 := Lib.hid (X3.out.below (below_new a5 (.cells #[.int .i64 wa, .int .u32 wb, .int .u32 wc] 45)))
  replace X4 := Lib.hid (X4.out.below (below_new a5 (.cells #[.int .i64 wa, .int .u32 wb, .int .u32 wc] 45)))
  replace FF := Lib.hid (FF.out.below (below_new a5 (.cells #[.int .i64 wa, .int .u32 wb, .int .u32 wc] 45)))
  replace DD := Lib.hid (DD.out.below (below_new a5 (.cells #[.int .i64 wa, .int .u32 wb, .int .u32 wc] 45)))
  replace MM := Lib.hid (MM.out.below (below_new a5 (.cells #[.int .i64 wa, .int .u32 wb, .int .u32 wc] 45)))
  replace B7 := Lib.hid (B7.out.below (below_new a5 (.cells #[.int .i64 wa, .int .u32 wb, .int .u32 wc] 45)))
  replace MK := Lib.hid (MK.out.below (below_new a5 (.cells #[.int .i64 wa, .int .u32 wb, .int .u32 wc] 45)))
  replace B11 := Lib.hid (B11.out.below (below_new a5 (.cells #[.int .i64 wa, .int .u32 wb, .int .u32 wc] 45)))
  replace BB := Lib.hid (BB.out.trans ((below_new a5 (.cells #[.int .i64 wa, .int .u32 wb, .int .u32 wc] 45)).mono BB.out.size))
  have B12 := Lib.hid (Box.new a5 #[.int .i64 wa, .int .u32 wb, .int .u32 wc] 45 (n := b11 + 1) hsz_b11.symm)
  have hsz_b12 : (World.alloc a5 (.cells #[.int .i64 wa, .int .u32 wb, .int .u32 wc] 45)).heap.size = b11 + 1 + 1 := by simp [hsz_b11]
  rw [hsz_b11] at hlt_b12
  generalize World.alloc a5 (.cells #[.int .i64 wa, .int .u32 wb, .int .u32 wc] 45) = a6 at *
  obtain ⟨b12, hq_b12⟩ : ∃ b, b11 + 1 = b := ⟨_, rfl⟩
  rw [hq_b12] at B12 hsz_b12 ⊢
  obtain ⟨d0, d1, d2, d3, d4, d5, d6, d7, d8, d9⟩ := X4.out.all10
  obtain ⟨⟨h0', h1', h2'⟩, -⟩ := B12.out.cells3
  obtain ⟨⟨g0, g1⟩, -⟩ := B7.out.cells2
  obtain ⟨⟨m0, m1, m2⟩, -⟩ := X3.out.cells3
  go_wp2_with fail
  clear d0 d1 d2 d3 d4 d5 d6 d7 d8 d9
  clear h0' h1' h2'
  clear g0 g1
  clear m0 m1 m2
  skip
  have hne : newErr x n1 = 3 := by unfold newErr; rw [if_pos hx]
  refine (new_err x _ n1 c1 _ (by rw [hne]; decide)).mono ?_
  rintro e a7 ⟨rfl, hb⟩
  replace X3 := Lib.hid (X3.out.below (hb))
  replace X4 := Lib.hid (X4.out.below (hb))
  replace FF := Lib.hid (FF.out.below (hb))
  replace DD := Lib.hid (DD.out.below (hb))
  replace MM := Lib.hid (MM.out.below (hb))
  replace B7 := Lib.hid (B7.out.below (hb))
  replace MK := Lib.hid (MK.out.below (hb))
  replace B11 := Lib.hid (B11.out.below (hb))
  replace B12 := Lib.hid (B12.out.below (hb))
  replace BB := Lib.hid (BB.out.trans ((hb).mono BB.out.size))
  clear hb
  rw [hne]
  go_upto_region 19 with fail
  have hlt_b20 := BB.out.size
  have hlt_b20_X3 := X3.out.lt
  have hlt_b20_X4 := X4.out.lt
  have hlt_b20_B7 := B7.out.lt
  have hlt_b20_B11 := B11.out.lt
  have hlt_b20_B12 := B12.out.lt
  replace X3 := Lib.hid (X3.out.below (below_new a7 (.cells #[.slice none 0 0, .slice none 0 0] 31)))
  replace X4 := Lib.hid (X4.out.below (below_new a7 (.cells #[.slice none 0 0, .slice none 0 0] 31)))
  replace FF := Lib.hid (FF.out.below (below_new a7 (.cells #[.slice none 0 0, .slice none 0 0] 31)))
  replace DD := Lib.hid (DD.out.below (below_new a7 (.cells #[.slice none 0 0, .slice none 0 0] 31)))
  replace MM := Lib.hid (MM.out.below (below_new a7 (.cells #[.slice none 0 0, .slice none 0 0] 31)))
  replace B7 := Lib.hid (B7.out.below (below_new a7 (.cells #[.slice none 0 0, .slice none 0 0] 31)))
  replace MK := Lib.hid (MK.out.below (below_new a7 (.cells #[.slice none 0 0, .slice none 0 0] 31)))
  replace B11 := Lib.hid (B11.out.below (below_new a7 (.cells #[.slice none 0 0, .slice none 0 0] 31)))
  replace B12 := Lib.hid (B12.out.below (below_new a7 (.cells #[.slice none 0 0, .slice none 0 0] 31)))
  replace BB := Lib.hid (BB.out.trans ((below_new a7 (.cells #[.slice none 0 0, .slice none 0 0] 31)).mono BB.out.size))
  have B20 := Lib.hid (Box.new a7 #[.slice none 0 0, .slice none 0 0] 31 rfl)
  have hsz_b20 : (World.alloc a7 (.cells #[.slice none 0 0, .slice none 0 0] 31)).heap.size = (World.heap a7).size + 1 := by simp
  generalize World.alloc a7 (.cells #[.slice none 0 0, .slice none 0 0] 31) = a8 at *
  generalize World.heap a7 = hp_b20 at *
  generalize hp_b20.size = b20 at *
  go_wp2_with fail
  refine (new_err 1 none 0 0 _ (by decide)).mono ?_
  rintro e a9 ⟨rfl, hb⟩
  replace X3 := Lib.hid (X3.out.below (hb))
  replace X4 := Lib.hid (X4.out.below (hb))
  replace FF := Lib.hid (FF.out.below (hb))
  replace DD := Lib.hid (DD.out.below (hb))
  replace MM := Lib.hid (MM.out.below (hb))
  replace B7 := Lib.hid (B7.out.below (hb))
  replace MK := Lib.hid (MK.out.below (hb))
  replace B11 := Lib.hid (B11.out.below (hb))
  replace B12 := Lib.hid (B12.out.below (hb))
  replace B20 := Lib.hid (B20.out.below (hb))
  replace BB := Lib.hid (BB.out.trans ((hb).mono BB.out.size))
  clear hb
  rw [show newErr 1 0 = 8 from rfl]
  go_upto_region 20 with fail
  have hlt_b22 := BB.out.size
  have hlt_b22_X3 := X3.out.lt
  have hlt_b22_X4 := X4.out.lt
  have hlt_b22_B7 := B7.out.lt
  have hlt_b22_B11 := B11.out.lt
  have hlt_b22_B12 := B12.out.lt
  have hlt_b22_B20 := B20.out.lt
  replace X3 := Lib.hid (X3.out.below (below_new a9 (.cells #[.slice none 0 0, .slice none 0 0] 31)))
  replace X4 := Lib.hid (X4.out.below (below_new a9 (.cells #[.slice none 0 0, .slice none 0 0] 31)))
  replace FF := Lib.hid (FF.out.below (below_new a9 (.cells #[.slice none 0 0, .slice none 0 0] 31)))
  replace DD := Lib.hid (DD.out.below (below_new a9 (.cells #[.slice none 0 0, .slice none 0 0] 31)))
  replace MM := Lib.hid (MM.out.below (below_new a9 (.cells #[.slice none 0 0, .slice none 0 0] 31)))
  replace B7 := Lib.hid (B7.out.below (below_new a9 (.cells #[.slice none 0 0, .slice none 0 0] 31)))
  replace MK := Lib.hid (MK.out.below (below_new a9 (.cells #[.slice none 0 0, .slice none 0 0] 31)))
  replace B11 := Lib.hid (B11.out.below (below_new a9 (.cells #[.slice none 0 0, .slice none 0 0] 31)))
  replace B12 := Lib.hid (B12.out.below (below_new a9 (.cells #[.slice none 0 0, .slice none 0 0] 31)))
  replace B20 := Lib.hid (B20.out.below (below_new a9 (.cells #[.slice none 0 0, .slice none 0 0] 31)))
  replace BB := Lib.hid (BB.out.trans ((below_new a9 (.cells #[.slice none 0 0, .slice none 0 0] 31)).mono BB.out.size))
  have B22 := Lib.hid (Box.new a9 #[.slice none 0 0, .slice none 0 0] 31 rfl)
  have hsz_b22 : (World.alloc a9 (.cells #[.slice none 0 0, .slice none 0 0] 31)).heap.size = (World.heap a9).size + 1 := by simp
  generalize World.alloc a9 (.cells #[.slice none 0 0, .slice none 0 0] 31) = a10 at *
  generalize World.heap a9 = hp_b22 at *
  generalize hp_b22.size = b22 at *
  have F2 := BB.out
  clear X3 X4 FF DD MM B7 MK B11 B12 B20 B22 BB
  go_wp2
  all_goals go_ret
  all_goals exact ⟨by first | (simp; done) | (simp; omega) | (simp; intros; omega), by first | exact F2 | (rw [← hbq]; exact F2)⟩
end Go.Proofs.Ytbaljoehgdhhhaa
