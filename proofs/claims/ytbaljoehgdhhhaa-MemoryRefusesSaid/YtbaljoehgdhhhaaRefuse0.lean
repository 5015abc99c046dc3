/- MemoryRefuses: the walk. -/
import Derived.Test.YtbaljoehgdhhhaaAwake
import Derived.Test.YtbaljoehgdhhhaaBegunNo
import Derived.Deep.CutBlock
namespace Go.Proofs.Ytbaljoehgdhhhaa
open Go.RowKit Go.Shelf Go.Maps

theorem res_word (M : Mem) (d : DoV) : ∃ a b c, (M.res d).2.1 = .agg #[.int .i64 a, .int .u32 b, .int .u32 c] := by
  unfold Mem.res
  repeat' split
  all_goals first | exact ⟨0, 0, 0, rfl⟩ | exact ⟨_, _, _, rfl⟩

set_option maxRecDepth 100000 in
set_option maxHeartbeats 6400000 in
theorem refuses_none (T bF oF c1 : Nat) (ws : List Wd) (v : Value) (l : List DoV) (t op at_ oa ob oc na nb nc z x : Int) (w : World) (h0 : 0 < ws.length) (h1 : ws.length ≤ 8) (t0 : 1 ≤ T) (t1 : T ≤ 8)
    (hF : IsWords w (.slice (some ⟨bF, oF, none⟩) ws.length c1) ws) (hd : IsDos w v l) (hl : l.length ≤ 40) (hok : DosOk l) (p0 : -9223372036854775808 ≤ at_) (p1 : at_ < 9223372036854775808) (z0 : -9223372036854775808 ≤ z) (z1 : z < 9223372036854775808) (ho : op < 1 ∨ 6 < op)  :
    Calls Try.prog 8 #[.agg #[.int .i64 T, .slice (some ⟨bF, oF, none⟩) ws.length c1, v], .agg #[.int .i64 t, .int .i64 op, .int .i64 at_, .int .i64 oa, .int .u32 ob, .int .u32 oc, .int .i64 na, .int .u32 nb, .int .u32 nc, .int .i64 z], .int .i64 x] w fun e w' => e = .returned (.bool true) ∧ Below w.heap.size w w' := by
  obtain ⟨y2, c2, rfl⟩ := hd.slice
  obtain ⟨M, hM⟩ : ∃ M, (newMem T ws).ress l = M := ⟨_, rfl⟩
  have hg := ress_good (newMem_good T ws (by omega) t1) l
  rw [hM] at hg
  have hr := res_word M ⟨t, op, at_, oa, ob, oc, na, nb, nc, z⟩
  have hrg := hg.1.res ⟨t, op, at_, oa, ob, oc, na, nb, nc, z⟩
  obtain ⟨n1, hn1⟩ : ∃ n, ws.length = n := ⟨_, rfl⟩
  obtain ⟨n2, hn2⟩ : ∃ n, l.length = n := ⟨_, rfl⟩
  have e1 : M.hs.length = n1 := by rw [hg.2.1]; simp [newMem, hn1]
  have e2 : M.vs.length = T := by rw [hg.2.2]; simp [newMem]
  have hres : M.res ⟨t, op, at_, oa, ob, oc, na, nb, nc, z⟩ = (M, zeroW, false, 0) := by unfold Mem.res; rw [if_pos ho]
  have HRS := Lib.hid hres
  clear hr
  have HM := Lib.hid hM
  have HG := Lib.hid hg.1
  have HRG := Lib.hid hrg
  have E1 := Lib.hid e1
  have E2 := Lib.hid e2
  have HN1 := Lib.hid hn1
  have HN2 := Lib.hid hn2
  have HOK := Lib.hid hok
  have HW1 := Lib.hid h0
  have hbb := b2 w (.cells #[.int .i64 T, .slice (some ⟨bF, oF, none⟩) n1 c1, .slice y2 n2 c2] 25) (.cells #[.int .i64 t, .int .i64 op, .int .i64 at_, .int .i64 oa, .int .u32 ob, .int .u32 oc, .int .i64 na, .int .u32 nb, .int .u32 nc, .int .i64 z] 49)
  have FF := Lib.hid (hF.below hbb)
  have DD := Lib.hid (hd.below hbb)
  rw [hn1] at h0 h1 FF ⊢
  rw [hn2] at hl DD ⊢
  (try rw [hn1] at ha)
  have qN := neqW
  have X3 := Lib.hid (Box.alloc (Box.new w #[.int .i64 T, .slice (some ⟨bF, oF, none⟩) n1 c1, .slice y2 n2 c2] 25 rfl) (.cells #[.int .i64 t, .int .i64 op, .int .i64 at_, .int .i64 oa, .int .u32 ob, .int .u32 oc, .int .i64 na, .int .u32 nb, .int .u32 nc, .int .i64 z] 49))
  have X4 := Lib.hid (Box.new (w.alloc (.cells #[.int .i64 T, .slice (some ⟨bF, oF, none⟩) n1 c1, .slice y2 n2 c2] 25)) #[.int .i64 t, .int .i64 op, .int .i64 at_, .int .i64 oa, .int .u32 ob, .int .u32 oc, .int .i64 na, .int .u32 nb, .int .u32 nc, .int .i64 z] 49 (n := w.heap.size + 1) (by simp))
  have BB := Lib.hid hbb
  have hgl : 1 + l.length ≤ 41 := by rw [hn2]; omega
  clear hbb hF hd hok hg hrg hM hres
  go_enter Try.func8, Try.ntmps8
  go_wp2_with fail
  generalize (w.alloc (.cells #[.int .i64 T, .slice (some ⟨bF, oF, none⟩) n1 c1, .slice y2 n2 c2] 25)).alloc (.cells #[.int .i64 t, .int .i64 op, .int .i64 at_, .int .i64 oa, .int .u32 ob, .int .u32 oc, .int .i64 na, .int .u32 nb, .int .u32 nc, .int .i64 z] 49) = W0 at *
  obtain ⟨b4, hb4⟩ : ∃ br, w.heap.size + 1 = br := ⟨_, rfl⟩
  obtain ⟨b3, hb3⟩ : ∃ bp, w.heap.size = bp := ⟨_, rfl⟩
  have hbq := hb3
  rw [hb4] at X4 ⊢
  rw [hb3] at X3 hb4 ⊢
  refine (awake_any _).mono ?_
  rintro e a0 ⟨rfl, hb⟩
  have X3' := Lib.hid (X3.out.below (hb))
  have X4' := Lib.hid (X4.out.below (hb))
  have FF' := Lib.hid (FF.out.below (hb))
  have DD' := Lib.hid (DD.out.below (hb))
  have BB' := Lib.hid (BB.out.trans ((hb).mono BB.out.size))
  clear X3
  have X3 := X3'
  clear X3'
  clear X4
  have X4 := X4'
  clear X4'
  clear FF
  have FF := FF'
  clear FF'
  clear DD
  have DD := DD'
  clear DD'
  clear BB
  have BB := BB'
  clear BB'
  clear hb
  obtain ⟨⟨m0, m1, m2⟩, -⟩ := X3.out.cells3
  go_wp2_with fail
  clear m0 m1 m2
  have hbg : Calls Try.prog 16 #[.agg #[.int .i64 T, .slice (some ⟨bF, oF, none⟩) n1 c1, .slice y2 n2 c2]] a0 fun e w' => ∃ pv vv, e = .returned (.tuple #[.agg #[pv, vv], .bool true]) ∧ MD (fun b => a0.heap.size ≤ b) w' pv vv M ∧ Below a0.heap.size a0 w' := by
    rcases FF.out with ⟨a', c', he', hw'⟩ | ⟨b', o', c', he', hbl, hcc⟩
    · exfalso; have hz := HN1.out; rw [hw'] at hz; simp at hz; omega
    · rw [HN1.out] at he'
      simp only [Value.slice.injEq, Option.some.injEq, Addr.mk.injEq, and_true] at he'
      obtain ⟨⟨rfl, rfl⟩, -, rfl⟩ := he'
      have hq := begun_ok T bF oF c1 ws (.slice y2 n2 c2) l a0 HW1.out (by rw [HN1.out]; omega) t0 t1 hbl hcc DD.out (by rw [HN2.out]; omega) HOK.out
      rw [HN1.out, HM.out] at hq
      exact hq
  refine (hbg).mono ?_
  rintro e a1 ⟨pv, vv, rfl, hm, hb⟩
  have X3' := Lib.hid (X3.out.below (hb))
  have X4' := Lib.hid (X4.out.below (hb))
  have FF' := Lib.hid (FF.out.below (hb))
  have DD' := Lib.hid (DD.out.below (hb))
  have BB' := Lib.hid (BB.out.trans ((hb).mono BB.out.size))
  clear X3
  have X3 := X3'
  clear X3'
  clear X4
  have X4 := X4'
  clear X4'
  clear FF
  have FF := FF'
  clear FF'
  clear DD
  have DD := DD'
  clear DD'
  clear BB
  have BB := BB'
  clear BB'
  clear hb
  have MM := Lib.hid (hm)
  clear hm hbg
  obtain ⟨u1, u2, e1, e2⟩ := MM.out.sl E1.out E2.out
  subst e1 e2
  go_upto_region 4 with fail
  have hlt_b7 := BB.out.size
  have hlt_b7_X3 := X3.out.lt
  have hlt_b7_X4 := X4.out.lt
  have X3' := Lib.hid (X3.out.below (below_new a1 (.cells #[.slice u1 n1 n1, .slice u2 T T] 31)))
  have X4' := Lib.hid (X4.out.below (below_new a1 (.cells #[.slice u1 n1 n1, .slice u2 T T] 31)))
  have FF' := Lib.hid (FF.out.below (below_new a1 (.cells #[.slice u1 n1 n1, .slice u2 T T] 31)))
  have DD' := Lib.hid (DD.out.below (below_new a1 (.cells #[.slice u1 n1 n1, .slice u2 T T] 31)))
  have MM' := Lib.hid (MM.out.below (below_new a1 (.cells #[.slice u1 n1 n1, .slice u2 T T] 31)))
  have BB' := Lib.hid (BB.out.trans ((below_new a1 (.cells #[.slice u1 n1 n1, .slice u2 T T] 31)).mono BB.out.size))
  clear X3
  have X3 := X3'
  clear X3'
  clear X4
  have X4 := X4'
  clear X4'
  clear FF
  have FF := FF'
  clear FF'
  clear DD
  have DD := DD'
  clear DD'
  clear MM
  have MM := MM'
  clear MM'
  clear BB
  have BB := BB'
  clear BB'
  have B7 := Lib.hid (Box.new a1 #[.slice u1 n1 n1, .slice u2 T T] 31 rfl)
  have hsz_b7 : (World.alloc a1 (.cells #[.slice u1 n1 n1, .slice u2 T T] 31)).heap.size = (World.heap a1).size + 1 := by simp
  generalize World.alloc a1 (.cells #[.slice u1 n1 n1, .slice u2 T T] 31) = a2 at *
  generalize World.heap a1 = hp_b7 at *
  generalize hp_b7.size = b7 at *
  obtain ⟨⟨g0, g1⟩, -⟩ := B7.out.cells2
  go_wp2_with fail
  clear g0 g1
  refine (size_any u1 u2 n1 T _).mono ?_
  rintro e a3 ⟨rfl, hb⟩
  have X3' := Lib.hid (X3.out.below (hb))
  have X4' := Lib.hid (X4.out.below (hb))
  have FF' := Lib.hid (FF.out.below (hb))
  have DD' := Lib.hid (DD.out.below (hb))
  have MM' := Lib.hid (MM.out.below (hb))
  have B7' := Lib.hid (B7.out.below (hb))
  have BB' := Lib.hid (BB.out.trans ((hb).mono BB.out.size))
  clear X3
  have X3 := X3'
  clear X3'
  clear X4
  have X4 := X4'
  clear X4'
  clear FF
  have FF := FF'
  clear FF'
  clear DD
  have DD := DD'
  clear DD'
  clear MM
  have MM := MM'
  clear MM'
  clear B7
  have B7 := B7'
  clear B7'
  clear BB
  have BB := BB'
  clear BB'
  clear hb
  obtain ⟨⟨g0, g1⟩, -⟩ := B7.out.cells2
  obtain ⟨d0, d1, d2, d3, d4, d5, d6, d7, d8, d9⟩ := X4.out.all10
  go_wp2_with fail
  clear g0 g1
  clear d0 d1 d2 d3 d4 d5 d6 d7 d8 d9
  refine (do_any _ _ M (1 + l.length) ⟨t, op, at_, oa, ob, oc, na, nb, nc, z⟩ _ _ MM.out HG.out (by omega) ⟨⟨p0, p1⟩, z0, z1⟩).mono ?_
  rintro e a4 ⟨pv, vv, rfl, hm, hb⟩
  have X3' := Lib.hid (X3.out.below (hb))
  have X4' := Lib.hid (X4.out.below (hb))
  have FF' := Lib.hid (FF.out.below (hb))
  have DD' := Lib.hid (DD.out.below (hb))
  have MM' := Lib.hid (MM.out.below (hb))
  have B7' := Lib.hid (B7.out.below (hb))
  have BB' := Lib.hid (BB.out.trans ((hb).mono BB.out.size))
  clear X3
  have X3 := X3'
  clear X3'
  clear X4
  have X4 := X4'
  clear X4'
  clear FF
  have FF := FF'
  clear FF'
  clear DD
  have DD := DD'
  clear DD'
  clear MM
  have MM := MM'
  clear MM'
  clear B7
  have B7 := B7'
  clear B7'
  clear BB
  have BB := BB'
  clear BB'
  clear hb
  have MK := Lib.hid (hm)
  clear hm
  rw [HRS.out] at MK ⊢
  simp only at MK ⊢
  obtain ⟨v1, v2, e1, e2⟩ := MK.out.sl E1.out E2.out
  subst e1 e2
  unfold zeroW
  go_upto_region 8 with fail
  have hlt_b11 := BB.out.size
  have hlt_b11_X3 := X3.out.lt
  have hlt_b11_X4 := X4.out.lt
  have hlt_b11_B7 := B7.out.lt
  have X3' := Lib.hid (X3.out.below (below_new a4 (.cells #[.slice v1 n1 n1, .slice v2 T T] 31)))
  have X4' := Lib.hid (X4.out.below (below_new a4 (.cells #[.slice v1 n1 n1, .slice v2 T T] 31)))
  have FF' := Lib.hid (FF.out.below (below_new a4 (.cells #[.slice v1 n1 n1, .slice v2 T T] 31)))
  have DD' := Lib.hid (DD.out.below (below_new a4 (.cells #[.slice v1 n1 n1, .slice v2 T T] 31)))
  have MM' := Lib.hid (MM.out.below (below_new a4 (.cells #[.slice v1 n1 n1, .slice v2 T T] 31)))
  have B7' := Lib.hid (B7.out.below (below_new a4 (.cells #[.slice v1 n1 n1, .slice v2 T T] 31)))
  have MK' := Lib.hid (MK.out.below (below_new a4 (.cells #[.slice v1 n1 n1, .slice v2 T T] 31)))
  have BB' := Lib.hid (BB.out.trans ((below_new a4 (.cells #[.slice v1 n1 n1, .slice v2 T T] 31)).mono BB.out.size))
  clear X3
  have X3 := X3'
  clear X3'
  clear X4
  have X4 := X4'
  clear X4'
  clear FF
  have FF := FF'
  clear FF'
  clear DD
  have DD := DD'
  clear DD'
  clear MM
  have MM := MM'
  clear MM'
  clear B7
  have B7 := B7'
  clear B7'
  clear MK
  have MK := MK'
  clear MK'
  clear BB
  have BB := BB'
  clear BB'
  have B11 := Lib.hid (Box.new a4 #[.slice v1 n1 n1, .slice v2 T T] 31 rfl)
  have hsz_b11 : (World.alloc a4 (.cells #[.slice v1 n1 n1, .slice v2 T T] 31)).heap.size = (World.heap a4).size + 1 := by simp
  generalize World.alloc a4 (.cells #[.slice v1 n1 n1, .slice v2 T T] 31) = a5 at *
  generalize World.heap a4 = hp_b11 at *
  generalize hp_b11.size = b11 at *
  have hlt_b12 := BB.out.size
  have X3' := Lib.hid (X3.out.below (below_new a5 (.cells #[.int .i64 0, .int .u32 0, .int .u32 0] 45)))
  have X4' := Lib.hid (X4.out.below (below_new a5 (.cells #[.int .i64 0, .int .u32 0, .int .u32 0] 45)))
  have FF' := Lib.hid (FF.out.below (below_new a5 (.cells #[.int .i64 0, .int .u32 0, .int .u32 0] 45)))
  have DD' := Lib.hid (DD.out.below (below_new a5 (.cells #[.int .i64 0, .int .u32 0, .int .u32 0] 45)))
  have MM' := Lib.hid (MM.out.below (below_new a5 (.cells #[.int .i64 0, .int .u32 0, .int .u32 0] 45)))
  have B7' := Lib.hid (B7.out.below (below_new a5 (.cells #[.int .i64 0, .int .u32 0, .int .u32 0] 45)))
  have MK' := Lib.hid (MK.out.below (below_new a5 (.cells #[.int .i64 0, .int .u32 0, .int .u32 0] 45)))
  have B11' := Lib.hid (B11.out.below (below_new a5 (.cells #[.int .i64 0, .int .u32 0, .int .u32 0] 45)))
  have BB' := Lib.hid (BB.out.trans ((below_new a5 (.cells #[.int .i64 0, .int .u32 0, .int .u32 0] 45)).mono BB.out.size))
  clear X3
  have X3 := X3'
  clear X3'
  clear X4
  have X4 := X4'
  clear X4'
  clear FF
  have FF := FF'
  clear FF'
  clear DD
  have DD := DD'
  clear DD'
  clear MM
  have MM := MM'
  clear MM'
  clear B7
  have B7 := B7'
  clear B7'
  clear MK
  have MK := MK'
  clear MK'
  clear B11
  have B11 := B11'
  clear B11'
  clear BB
  have BB := BB'
  clear BB'
  have B12 := Lib.hid (Box.new a5 #[.int .i64 0, .int .u32 0, .int .u32 0] 45 (n := b11 + 1) hsz_b11.symm)
  have hsz_b12 : (World.alloc a5 (.cells #[.int .i64 0, .int .u32 0, .int .u32 0] 45)).heap.size = b11 + 1 + 1 := by simp [hsz_b11]
  rw [hsz_b11] at hlt_b12
  generalize World.alloc a5 (.cells #[.int .i64 0, .int .u32 0, .int .u32 0] 45) = a6 at *
  obtain ⟨b12, hq_b12⟩ : ∃ b, b11 + 1 = b := ⟨_, rfl⟩
  rw [hq_b12] at B12 hsz_b12 ⊢
  obtain ⟨d0, d1, d2, d3, d4, d5, d6, d7, d8, d9⟩ := X4.out.all10
  have F2 := BB.out
  rcases ho with ho | ho
  · go_wp2
    all_goals (go_ret; exact ⟨by simp, by first | exact F2 | (rw [← hbq]; exact F2)⟩)
  · go_wp2
    all_goals (go_ret; exact ⟨by simp, by first | exact F2 | (rw [← hbq]; exact F2)⟩)

set_option maxRecDepth 100000 in
set_option maxHeartbeats 3200000 in
theorem refuses_err (T : Int) (y1 y2 : Option Addr) (n1 c1 n2 c2 : Nat) (t op at_ oa ob oc na nb nc z x : Int) (w : World) (he : newErr T n1 ≠ 0) :
    Calls Try.prog 8 #[.agg #[.int .i64 T, .slice y1 n1 c1, .slice y2 n2 c2], .agg #[.int .i64 t, .int .i64 op, .int .i64 at_, .int .i64 oa, .int .u32 ob, .int .u32 oc, .int .i64 na, .int .u32 nb, .int .u32 nc, .int .i64 z], .int .i64 x] w fun e w' => e = .returned (.bool true) ∧ Below w.heap.size w w' := by
  have HE := Lib.hid he
  clear he
  have X3 := Lib.hid (Box.alloc (Box.new w #[.int .i64 T, .slice y1 n1 c1, .slice y2 n2 c2] 25 rfl) (.cells #[.int .i64 t, .int .i64 op, .int .i64 at_, .int .i64 oa, .int .u32 ob, .int .u32 oc, .int .i64 na, .int .u32 nb, .int .u32 nc, .int .i64 z] 49))
  have BB := Lib.hid (b2 w (.cells #[.int .i64 T, .slice y1 n1 c1, .slice y2 n2 c2] 25) (.cells #[.int .i64 t, .int .i64 op, .int .i64 at_, .int .i64 oa, .int .u32 ob, .int .u32 oc, .int .i64 na, .int .u32 nb, .int .u32 nc, .int .i64 z] 49))
  go_enter Try.func8, Try.ntmps8
  go_wp2_with fail
  generalize (w.alloc (.cells #[.int .i64 T, .slice y1 n1 c1, .slice y2 n2 c2] 25)).alloc (.cells #[.int .i64 t, .int .i64 op, .int .i64 at_, .int .i64 oa, .int .u32 ob, .int .u32 oc, .int .i64 na, .int .u32 nb, .int .u32 nc, .int .i64 z] 49) = W0 at *
  obtain ⟨b3, hb3⟩ : ∃ bp, w.heap.size = bp := ⟨_, rfl⟩
  have hbq := hb3
  rw [hb3] at X3 ⊢
  refine (awake_any _).mono ?_
  rintro e a0 ⟨rfl, hb⟩
  have X3' := Lib.hid (X3.out.below (hb))
  have BB' := Lib.hid (BB.out.trans ((hb).mono BB.out.size))
  clear X3
  have X3 := X3'
  clear X3'
  clear BB
  have BB := BB'
  clear BB'
  clear hb
  obtain ⟨⟨m0, m1, m2⟩, -⟩ := X3.out.cells3
  go_wp2_with fail
  clear m0 m1 m2
  refine (begun_err T y1 y2 n1 c1 n2 c2 _ HE.out).mono ?_
  rintro e a1 ⟨rfl, hb⟩
  have X3' := Lib.hid (X3.out.below (hb))
  have BB' := Lib.hid (BB.out.trans ((hb).mono BB.out.size))
  clear X3
  have X3 := X3'
  clear X3'
  clear BB
  have BB := BB'
  clear BB'
  clear hb
  go_upto_region 4 with fail
  have hlt_b7 := BB.out.size
  have hlt_b7_X3 := X3.out.lt
  have X3' := Lib.hid (X3.out.below (below_new a1 (.cells #[.slice none 0 0, .slice none 0 0] 31)))
  have BB' := Lib.hid (BB.out.trans ((below_new a1 (.cells #[.slice none 0 0, .slice none 0 0] 31)).mono BB.out.size))
  clear X3
  have X3 := X3'
  clear X3'
  clear BB
  have BB := BB'
  clear BB'
  have B7 := Lib.hid (Box.new a1 #[.slice none 0 0, .slice none 0 0] 31 rfl)
  have hsz_b7 : (World.alloc a1 (.cells #[.slice none 0 0, .slice none 0 0] 31)).heap.size = (World.heap a1).size + 1 := by simp
  generalize World.alloc a1 (.cells #[.slice none 0 0, .slice none 0 0] 31) = a2 at *
  generalize World.heap a1 = hp_b7 at *
  generalize hp_b7.size = b7 at *
  have F2 := BB.out
  clear X3 B7 BB
  go_wp2
  go_ret
  exact ⟨by simp, by first | exact F2 | (rw [← hbq]; exact F2)⟩

set_option maxRecDepth 100000 in
set_option maxHeartbeats 3200000 in
theorem refuses_many (T bF oF c1 : Nat) (ws : List Wd) (y2 : Option Addr) (n2 c2 : Nat) (t op at_ oa ob oc na nb nc z x : Int) (w : World) (h0 : 0 < ws.length) (h1 : ws.length ≤ 4096) (t0 : 1 ≤ T) (t1 : T ≤ 8) (hF : IsWords w (.slice (some ⟨bF, oF, none⟩) ws.length c1) ws) (hf : ¬ (ws.length ≤ 8 ∧ n2 ≤ 40)) :
    Calls Try.prog 8 #[.agg #[.int .i64 T, .slice (some ⟨bF, oF, none⟩) ws.length c1, .slice y2 n2 c2], .agg #[.int .i64 t, .int .i64 op, .int .i64 at_, .int .i64 oa, .int .u32 ob, .int .u32 oc, .int .i64 na, .int .u32 nb, .int .u32 nc, .int .i64 z], .int .i64 x] w fun e w' => e = .returned (.bool true) ∧ Below w.heap.size w w' := by
  obtain ⟨n1, hn1⟩ : ∃ n, ws.length = n := ⟨_, rfl⟩
  have HN1 := Lib.hid hn1
  have HW1 := Lib.hid h0
  have HF0 := Lib.hid hf
  have FF := Lib.hid (hF.below (b2 w (.cells #[.int .i64 T, .slice (some ⟨bF, oF, none⟩) n1 c1, .slice y2 n2 c2] 25) (.cells #[.int .i64 t, .int .i64 op, .int .i64 at_, .int .i64 oa, .int .u32 ob, .int .u32 oc, .int .i64 na, .int .u32 nb, .int .u32 nc, .int .i64 z] 49)))
  rw [hn1] at h0 h1 FF ⊢
  clear hF hf
  have X3 := Lib.hid (Box.alloc (Box.new w #[.int .i64 T, .slice (some ⟨bF, oF, none⟩) n1 c1, .slice y2 n2 c2] 25 rfl) (.cells #[.int .i64 t, .int .i64 op, .int .i64 at_, .int .i64 oa, .int .u32 ob, .int .u32 oc, .int .i64 na, .int .u32 nb, .int .u32 nc, .int .i64 z] 49))
  have BB := Lib.hid (b2 w (.cells #[.int .i64 T, .slice (some ⟨bF, oF, none⟩) n1 c1, .slice y2 n2 c2] 25) (.cells #[.int .i64 t, .int .i64 op, .int .i64 at_, .int .i64 oa, .int .u32 ob, .int .u32 oc, .int .i64 na, .int .u32 nb, .int .u32 nc, .int .i64 z] 49))
  go_enter Try.func8, Try.ntmps8
  go_wp2_with fail
  generalize (w.alloc (.cells #[.int .i64 T, .slice (some ⟨bF, oF, none⟩) n1 c1, .slice y2 n2 c2] 25)).alloc (.cells #[.int .i64 t, .int .i64 op, .int .i64 at_, .int .i64 oa, .int .u32 ob, .int .u32 oc, .int .i64 na, .int .u32 nb, .int .u32 nc, .int .i64 z] 49) = W0 at *
  obtain ⟨b3, hb3⟩ : ∃ bp, w.heap.size = bp := ⟨_, rfl⟩
  have hbq := hb3
  rw [hb3] at X3 ⊢
  refine (awake_any _).mono ?_
  rintro e a0 ⟨rfl, hb⟩
  have X3' := Lib.hid (X3.out.below (hb))
  have FF' := Lib.hid (FF.out.below (hb))
  have BB' := Lib.hid (BB.out.trans ((hb).mono BB.out.size))
  clear X3
  have X3 := X3'
  clear X3'
  clear FF
  have FF := FF'
  clear FF'
  clear BB
  have BB := BB'
  clear BB'
  clear hb
  obtain ⟨⟨m0, m1, m2⟩, -⟩ := X3.out.cells3
  go_wp2_with fail
  clear m0 m1 m2
  have hbg : Calls Try.prog 16 #[.agg #[.int .i64 T, .slice (some ⟨bF, oF, none⟩) n1 c1, .slice y2 n2 c2]] a0 fun e w' => ∃ p q np nv, e = .returned (.tuple #[.agg #[.slice p np np, .slice q nv nv], .bool false]) ∧ Below a0.heap.size a0 w' := by
    rcases FF.out with ⟨a', c', he', hw'⟩ | ⟨b', o', c', he', hbl, hcc⟩
    · exfalso; have hz := HN1.out; rw [hw'] at hz; simp at hz; omega
    · rw [HN1.out] at he'
      simp only [Value.slice.injEq, Option.some.injEq, Addr.mk.injEq, and_true] at he'
      obtain ⟨⟨rfl, rfl⟩, -, rfl⟩ := he'
      have hq := begun_many T bF oF c1 ws y2 n2 c2 a0 HW1.out (by rw [HN1.out]; omega) t0 t1 hbl hcc HF0.out
      rw [HN1.out] at hq
      exact hq
  refine (hbg).mono ?_
  rintro e a1 ⟨p, q, np, nv, rfl, hb⟩
  have X3' := Lib.hid (X3.out.below (hb))
  have FF' := Lib.hid (FF.out.below (hb))
  have BB' := Lib.hid (BB.out.trans ((hb).mono BB.out.size))
  clear X3
  have X3 := X3'
  clear X3'
  clear FF
  have FF := FF'
  clear FF'
  clear BB
  have BB := BB'
  clear BB'
  clear hb
  clear hbg
  go_upto_region 4 with fail
  have hlt_b7 := BB.out.size
  have hlt_b7_X3 := X3.out.lt
  have X3' := Lib.hid (X3.out.below (below_new a1 (.cells #[.slice p np np, .slice q nv nv] 31)))
  have FF' := Lib.hid (FF.out.below (below_new a1 (.cells #[.slice p np np, .slice q nv nv] 31)))
  have BB' := Lib.hid (BB.out.trans ((below_new a1 (.cells #[.slice p np np, .slice q nv nv] 31)).mono BB.out.size))
  clear X3
  have X3 := X3'
  clear X3'
  clear FF
  have FF := FF'
  clear FF'
  clear BB
  have BB := BB'
  clear BB'
  have B7 := Lib.hid (Box.new a1 #[.slice p np np, .slice q nv nv] 31 rfl)
  have hsz_b7 : (World.alloc a1 (.cells #[.slice p np np, .slice q nv nv] 31)).heap.size = (World.heap a1).size + 1 := by simp
  generalize World.alloc a1 (.cells #[.slice p np np, .slice q nv nv] 31) = a2 at *
  generalize World.heap a1 = hp_b7 at *
  generalize hp_b7.size = b7 at *
  have F2 := BB.out
  clear X3 FF B7 BB
  go_wp2
  go_ret
  exact ⟨by simp, by first | exact F2 | (rw [← hbq]; exact F2)⟩
end Go.Proofs.Ytbaljoehgdhhhaa
