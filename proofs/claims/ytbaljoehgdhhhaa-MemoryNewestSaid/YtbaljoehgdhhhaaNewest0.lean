/- MemoryNewest: the walk. -/
import Derived.Test.YtbaljoehgdhhhaaAwake
import Derived.Test.YtbaljoehgdhhhaaBegunNo
import Derived.Test.YtbaljoehgdhhhaaSound
import Derived.Test.YtbaljoehgdhhhaaSeen
import Derived.Deep.CutBlock
namespace Go.Proofs.Ytbaljoehgdhhhaa
open Go.RowKit Go.Shelf Go.Maps


set_option maxRecDepth 100000 in
set_option maxHeartbeats 6400000 in
theorem newest_tlow (T bF oF c1 : Nat) (ws : List Wd) (v : Value) (l : List DoV) (M : Mem) (hM : (newMem T ws).ress l = M) (t at_ : Int) (op oa ob oc na nb nc : Int) (w : World) (h0 : 0 < ws.length) (h1 : ws.length ≤ 8) (t0 : 1 ≤ T) (t1 : T ≤ 8)
    (hF : IsWords w (.slice (some ⟨bF, oF, none⟩) ws.length c1) ws) (hd : IsDos w v l) (hl : l.length ≤ 40) (hok : DosOk l) (ht : t < 1) :
    Calls Try.prog 6 #[.agg #[.int .i64 T, .slice (some ⟨bF, oF, none⟩) ws.length c1, v], .int .i64 t, .agg #[.int .i64 op, .int .i64 at_, .int .i64 oa, .int .u32 ob, .int .u32 oc, .int .i64 na, .int .u32 nb, .int .u32 nc]] w fun e w' => e = .returned (.bool true) ∧ Below w.heap.size w w' := by
  obtain ⟨y2, c2, rfl⟩ := hd.slice
  have hg := ress_good (newMem_good T ws (by omega) t1) l
  have hS := ress_sound (newMem_sound T ws) (newMem_good T ws (by omega) t1) l (by omega)
  rw [hM] at hg hS
  obtain ⟨n1, hn1⟩ : ∃ n, ws.length = n := ⟨_, rfl⟩
  obtain ⟨n2, hn2⟩ : ∃ n, l.length = n := ⟨_, rfl⟩
  have e1 : M.hs.length = n1 := by rw [hg.2.1]; simp [newMem, hn1]
  have e2 : M.vs.length = T := by rw [hg.2.2]; simp [newMem]
  have HM := Lib.hid hM
  have HG := Lib.hid hg.1
  have E1 := Lib.hid e1
  have E2 := Lib.hid e2
  have HN1 := Lib.hid hn1
  have HN2 := Lib.hid hn2
  have HOK := Lib.hid hok
  have HW1 := Lib.hid h0
  have hbb := b2 w (.cells #[.int .i64 T, .slice (some ⟨bF, oF, none⟩) n1 c1, .slice y2 n2 c2] 25) (.cells #[.int .i64 op, .int .i64 at_, .int .i64 oa, .int .u32 ob, .int .u32 oc, .int .i64 na, .int .u32 nb, .int .u32 nc] 47)
  have FF := Lib.hid (hF.below hbb)
  have DD := Lib.hid (hd.below hbb)
  have HGL := Lib.hid (show 1 + l.length ≤ 41 by omega)
  rw [hn1] at h0 h1 FF ⊢
  rw [hn2] at hl DD ⊢
  (try rw [hn1] at ha)
  (try rw [hn1] at hp)
  have qN := neqW
  have qE := eqlW
  have X3 := Lib.hid (Box.alloc (Box.new w #[.int .i64 T, .slice (some ⟨bF, oF, none⟩) n1 c1, .slice y2 n2 c2] 25 rfl) (.cells #[.int .i64 op, .int .i64 at_, .int .i64 oa, .int .u32 ob, .int .u32 oc, .int .i64 na, .int .u32 nb, .int .u32 nc] 47))
  have X5 := Lib.hid (Box.new (w.alloc (.cells #[.int .i64 T, .slice (some ⟨bF, oF, none⟩) n1 c1, .slice y2 n2 c2] 25)) #[.int .i64 op, .int .i64 at_, .int .i64 oa, .int .u32 ob, .int .u32 oc, .int .i64 na, .int .u32 nb, .int .u32 nc] 47 (n := w.heap.size + 1) (by simp))
  have BB := Lib.hid hbb
  clear hbb hF hd hok hg hM e1 e2 hn2 hS
  go_enter Try.func6, Try.ntmps6
  go_wp2_with fail
  generalize (w.alloc (.cells #[.int .i64 T, .slice (some ⟨bF, oF, none⟩) n1 c1, .slice y2 n2 c2] 25)).alloc (.cells #[.int .i64 op, .int .i64 at_, .int .i64 oa, .int .u32 ob, .int .u32 oc, .int .i64 na, .int .u32 nb, .int .u32 nc] 47) = W0 at *
  obtain ⟨b5, hb5⟩ : ∃ br, w.heap.size + 1 = br := ⟨_, rfl⟩
  obtain ⟨b3, hb3⟩ : ∃ bp, w.heap.size = bp := ⟨_, rfl⟩
  have hbq := hb3
  rw [hb5] at X5 ⊢
  rw [hb3] at X3 hb5 ⊢
  refine (awake_any _).mono ?_
  rintro e a0 ⟨rfl, hb⟩
  replace X3 := Lib.hid (X3.out.below (hb))
  replace X5 := Lib.hid (X5.out.below (hb))
  replace FF := Lib.hid (FF.out.below (hb))
  replace DD := Lib.hid (DD.out.below (hb))
  replace BB := Lib.hid (BB.out.trans ((hb).mono BB.out.size))
  clear hb
  obtain ⟨⟨m0, m1, m2⟩, -⟩ := X3.out.cells3
  go_wp2_with fail
  clear m0 m1 m2
  have hbg : Calls Try.prog 16 #[.agg #[.int .i64 T, .slice (some ⟨bF, oF, none⟩) n1 c1, .slice y2 n2 c2]] a0 fun e w' => ∃ pv vv, e = .returned (.tuple #[.agg #[pv, vv], .bool true]) ∧ MD (fun b => a0.heap.size ≤ b) w' pv vv M ∧ Below a0.heap.size a0 w' := by
    rcases FF.out with ⟨a', c', he', hw'⟩ | ⟨b', o', c', he', hbl, hcc⟩
    · exfalso; have hz := HN1.out; rw [hw'] at hz; simp at hz; omega
    · rw [HN1.out] at he'
      simp only [Value.slice.injEq, Option.some.injEq, Addr.mk.injEq, and_true] at he'
      obtain ⟨⟨rfl, rfl⟩, -, rfl⟩ := he'
      have hq := begun_ok T bF oF c1 ws (.slice y2 n2 c2) l a0 HW1.out (by rw [HN1.out]; omega) t0 t1 hbl hcc DD.out (by rw [HN2.out]; omega) HOK.out
      rw [HN1.out, HM.out] at hq
      exact hq
  refine (hbg).mono ?_
  rintro e a1 ⟨pv, vv, rfl, hm, hb⟩
  replace X3 := Lib.hid (X3.out.below (hb))
  replace X5 := Lib.hid (X5.out.below (hb))
  replace FF := Lib.hid (FF.out.below (hb))
  replace DD := Lib.hid (DD.out.below (hb))
  replace BB := Lib.hid (BB.out.trans ((hb).mono BB.out.size))
  clear hb
  have MM := Lib.hid (hm)
  clear hm hbg
  obtain ⟨u1, u2, e1, e2⟩ := MM.out.sl E1.out E2.out
  subst e1 e2
  go_upto_region 4 with fail
  have hlt_b7 := BB.out.size
  have hlt_b7_X3 := X3.out.lt
  have hlt_b7_X5 := X5.out.lt
  replace X3 := Lib.hid (X3.out.below (below_new a1 (.cells #[.slice u1 n1 n1, .slice u2 T T] 31)))
  replace X5 := Lib.hid (X5.out.below (below_new a1 (.cells #[.slice u1 n1 n1, .slice u2 T T] 31)))
  replace FF := Lib.hid (FF.out.below (below_new a1 (.cells #[.slice u1 n1 n1, .slice u2 T T] 31)))
  replace DD := Lib.hid (DD.out.below (below_new a1 (.cells #[.slice u1 n1 n1, .slice u2 T T] 31)))
  replace MM := Lib.hid (MM.out.below (below_new a1 (.cells #[.slice u1 n1 n1, .slice u2 T T] 31)))
  replace BB := Lib.hid (BB.out.trans ((below_new a1 (.cells #[.slice u1 n1 n1, .slice u2 T T] 31)).mono BB.out.size))
  have B7 := Lib.hid (Box.new a1 #[.slice u1 n1 n1, .slice u2 T T] 31 rfl)
  have hsz_b7 : (World.alloc a1 (.cells #[.slice u1 n1 n1, .slice u2 T T] 31)).heap.size = (World.heap a1).size + 1 := by simp
  generalize World.alloc a1 (.cells #[.slice u1 n1 n1, .slice u2 T T] 31) = a2 at *
  generalize World.heap a1 = hp_b7 at *
  generalize hp_b7.size = b7 at *
  clear FF
  clear DD
  clear X3
  obtain ⟨⟨g0, g1⟩, -⟩ := B7.out.cells2
  go_wp2_with fail
  clear g0 g1
  refine (size_any u1 u2 n1 T _).mono ?_
  rintro e a3 ⟨rfl, hb⟩
  replace X5 := Lib.hid (X5.out.below (hb))
  replace MM := Lib.hid (MM.out.below (hb))
  replace B7 := Lib.hid (B7.out.below (hb))
  replace BB := Lib.hid (BB.out.trans ((hb).mono BB.out.size))
  clear hb
  obtain ⟨d0, d1, d2, d3, d4, d5, d6, d7⟩ := X5.out.all8
  have F2 := BB.out
  go_wp2
  all_goals (go_ret; exact ⟨by simp, by first | exact F2 | (rw [← hbq]; exact F2)⟩)

set_option maxRecDepth 100000 in
set_option maxHeartbeats 6400000 in
theorem newest_thigh (T bF oF c1 : Nat) (ws : List Wd) (v : Value) (l : List DoV) (M : Mem) (hM : (newMem T ws).ress l = M) (t at_ : Int) (op oa ob oc na nb nc : Int) (w : World) (h0 : 0 < ws.length) (h1 : ws.length ≤ 8) (t0 : 1 ≤ T) (t1 : T ≤ 8)
    (hF : IsWords w (.slice (some ⟨bF, oF, none⟩) ws.length c1) ws) (hd : IsDos w v l) (hl : l.length ≤ 40) (hok : DosOk l) (ht : (T : Int) < t) :
    Calls Try.prog 6 #[.agg #[.int .i64 T, .slice (some ⟨bF, oF, none⟩) ws.length c1, v], .int .i64 t, .agg #[.int .i64 op, .int .i64 at_, .int .i64 oa, .int .u32 ob, .int .u32 oc, .int .i64 na, .int .u32 nb, .int .u32 nc]] w fun e w' => e = .returned (.bool true) ∧ Below w.heap.size w w' := by
  obtain ⟨y2, c2, rfl⟩ := hd.slice
  have hg := ress_good (newMem_good T ws (by omega) t1) l
  have hS := ress_sound (newMem_sound T ws) (newMem_good T ws (by omega) t1) l (by omega)
  rw [hM] at hg hS
  obtain ⟨n1, hn1⟩ : ∃ n, ws.length = n := ⟨_, rfl⟩
  obtain ⟨n2, hn2⟩ : ∃ n, l.length = n := ⟨_, rfl⟩
  have e1 : M.hs.length = n1 := by rw [hg.2.1]; simp [newMem, hn1]
  have e2 : M.vs.length = T := by rw [hg.2.2]; simp [newMem]
  have HM := Lib.hid hM
  have HG := Lib.hid hg.1
  have E1 := Lib.hid e1
  have E2 := Lib.hid e2
  have HN1 := Lib.hid hn1
  have HN2 := Lib.hid hn2
  have HOK := Lib.hid hok
  have HW1 := Lib.hid h0
  have hbb := b2 w (.cells #[.int .i64 T, .slice (some ⟨bF, oF, none⟩) n1 c1, .slice y2 n2 c2] 25) (.cells #[.int .i64 op, .int .i64 at_, .int .i64 oa, .int .u32 ob, .int .u32 oc, .int .i64 na, .int .u32 nb, .int .u32 nc] 47)
  have FF := Lib.hid (hF.below hbb)
  have DD := Lib.hid (hd.below hbb)
  have HGL := Lib.hid (show 1 + l.length ≤ 41 by omega)
  rw [hn1] at h0 h1 FF ⊢
  rw [hn2] at hl DD ⊢
  (try rw [hn1] at ha)
  (try rw [hn1] at hp)
  have qN := neqW
  have qE := eqlW
  have X3 := Lib.hid (Box.alloc (Box.new w #[.int .i64 T, .slice (some ⟨bF, oF, none⟩) n1 c1, .slice y2 n2 c2] 25 rfl) (.cells #[.int .i64 op, .int .i64 at_, .int .i64 oa, .int .u32 ob, .int .u32 oc, .int .i64 na, .int .u32 nb, .int .u32 nc] 47))
  have X5 := Lib.hid (Box.new (w.alloc (.cells #[.int .i64 T, .slice (some ⟨bF, oF, none⟩) n1 c1, .slice y2 n2 c2] 25)) #[.int .i64 op, .int .i64 at_, .int .i64 oa, .int .u32 ob, .int .u32 oc, .int .i64 na, .int .u32 nb, .int .u32 nc] 47 (n := w.heap.size + 1) (by simp))
  have BB := Lib.hid hbb
  clear hbb hF hd hok hg hM e1 e2 hn2 hS
  go_enter Try.func6, Try.ntmps6
  go_wp2_with fail
  generalize (w.alloc (.cells #[.int .i64 T, .slice (some ⟨bF, oF, none⟩) n1 c1, .slice y2 n2 c2] 25)).alloc (.cells #[.int .i64 op, .int .i64 at_, .int .i64 oa, .int .u32 ob, .int .u32 oc, .int .i64 na, .int .u32 nb, .int .u32 nc] 47) = W0 at *
  obtain ⟨b5, hb5⟩ : ∃ br, w.heap.size + 1 = br := ⟨_, rfl⟩
  obtain ⟨b3, hb3⟩ : ∃ bp, w.heap.size = bp := ⟨_, rfl⟩
  have hbq := hb3
  rw [hb5] at X5 ⊢
  rw [hb3] at X3 hb5 ⊢
  refine (awake_any _).mono ?_
  rintro e a0 ⟨rfl, hb⟩
  replace X3 := Lib.hid (X3.out.below (hb))
  replace X5 := Lib.hid (X5.out.below (hb))
  replace FF := Lib.hid (FF.out.below (hb))
  replace DD := Lib.hid (DD.out.below (hb))
  replace BB := Lib.hid (BB.out.trans ((hb).mono BB.out.size))
  clear hb
  obtain ⟨⟨m0, m1, m2⟩, -⟩ := X3.out.cells3
  go_wp2_with fail
  clear m0 m1 m2
  have hbg : Calls Try.prog 16 #[.agg #[.int .i64 T, .slice (some ⟨bF, oF, none⟩) n1 c1, .slice y2 n2 c2]] a0 fun e w' => ∃ pv vv, e = .returned (.tuple #[.agg #[pv, vv], .bool true]) ∧ MD (fun b => a0.heap.size ≤ b) w' pv vv M ∧ Below a0.heap.size a0 w' := by
    rcases FF.out with ⟨a', c', he', hw'⟩ | ⟨b', o', c', he', hbl, hcc⟩
    · exfalso; have hz := HN1.out; rw [hw'] at hz; simp at hz; omega
    · rw [HN1.out] at he'
      simp only [Value.slice.injEq, Option.some.injEq, Addr.mk.injEq, and_true] at he'
      obtain ⟨⟨rfl, rfl⟩, -, rfl⟩ := he'
      have hq := begun_ok T bF oF c1 ws (.slice y2 n2 c2) l a0 HW1.out (by rw [HN1.out]; omega) t0 t1 hbl hcc DD.out (by rw [HN2.out]; omega) HOK.out
      rw [HN1.out, HM.out] at hq
      exact hq
  refine (hbg).mono ?_
  rintro e a1 ⟨pv, vv, rfl, hm, hb⟩
  replace X3 := Lib.hid (X3.out.below (hb))
  replace X5 := Lib.hid (X5.out.below (hb))
  replace FF := Lib.hid (FF.out.below (hb))
  replace DD := Lib.hid (DD.out.below (hb))
  replace BB := Lib.hid (BB.out.trans ((hb).mono BB.out.size))
  clear hb
  have MM := Lib.hid (hm)
  clear hm hbg
  obtain ⟨u1, u2, e1, e2⟩ := MM.out.sl E1.out E2.out
  subst e1 e2
  go_upto_region 4 with fail
  have hlt_b7 := BB.out.size
  have hlt_b7_X3 := X3.out.lt
  have hlt_b7_X5 := X5.out.lt
  replace X3 := Lib.hid (X3.out.below (below_new a1 (.cells #[.slice u1 n1 n1, .slice u2 T T] 31)))
  replace X5 := Lib.hid (X5.out.below (below_new a1 (.cells #[.slice u1 n1 n1, .slice u2 T T] 31)))
  replace FF := Lib.hid (FF.out.below (below_new a1 (.cells #[.slice u1 n1 n1, .slice u2 T T] 31)))
  replace DD := Lib.hid (DD.out.below (below_new a1 (.cells #[.slice u1 n1 n1, .slice u2 T T] 31)))
  replace MM := Lib.hid (MM.out.below (below_new a1 (.cells #[.slice u1 n1 n1, .slice u2 T T] 31)))
  replace BB := Lib.hid (BB.out.trans ((below_new a1 (.cells #[.slice u1 n1 n1, .slice u2 T T] 31)).mono BB.out.size))
  have B7 := Lib.hid (Box.new a1 #[.slice u1 n1 n1, .slice u2 T T] 31 rfl)
  have hsz_b7 : (World.alloc a1 (.cells #[.slice u1 n1 n1, .slice u2 T T] 31)).heap.size = (World.heap a1).size + 1 := by simp
  generalize World.alloc a1 (.cells #[.slice u1 n1 n1, .slice u2 T T] 31) = a2 at *
  generalize World.heap a1 = hp_b7 at *
  generalize hp_b7.size = b7 at *
  clear FF
  clear DD
  clear X3
  obtain ⟨⟨g0, g1⟩, -⟩ := B7.out.cells2
  go_wp2_with fail
  clear g0 g1
  refine (size_any u1 u2 n1 T _).mono ?_
  rintro e a3 ⟨rfl, hb⟩
  replace X5 := Lib.hid (X5.out.below (hb))
  replace MM := Lib.hid (MM.out.below (hb))
  replace B7 := Lib.hid (B7.out.below (hb))
  replace BB := Lib.hid (BB.out.trans ((hb).mono BB.out.size))
  clear hb
  obtain ⟨d0, d1, d2, d3, d4, d5, d6, d7⟩ := X5.out.all8
  have F2 := BB.out
  go_wp2
  all_goals (go_ret; exact ⟨by simp, by first | exact F2 | (rw [← hbq]; exact F2)⟩)

set_option maxRecDepth 100000 in
set_option maxHeartbeats 6400000 in
theorem newest_alow (T bF oF c1 : Nat) (ws : List Wd) (v : Value) (l : List DoV) (M : Mem) (hM : (newMem T ws).ress l = M) (t at_ : Int) (op oa ob oc na nb nc : Int) (w : World) (h0 : 0 < ws.length) (h1 : ws.length ≤ 8) (t0 : 1 ≤ T) (t1 : T ≤ 8)
    (hF : IsWords w (.slice (some ⟨bF, oF, none⟩) ws.length c1) ws) (hd : IsDos w v l) (hl : l.length ≤ 40) (hok : DosOk l) (ht : 1 ≤ t ∧ t ≤ T) (ha : at_ < 0) :
    Calls Try.prog 6 #[.agg #[.int .i64 T, .slice (some ⟨bF, oF, none⟩) ws.length c1, v], .int .i64 t, .agg #[.int .i64 op, .int .i64 at_, .int .i64 oa, .int .u32 ob, .int .u32 oc, .int .i64 na, .int .u32 nb, .int .u32 nc]] w fun e w' => e = .returned (.bool true) ∧ Below w.heap.size w w' := by
  obtain ⟨y2, c2, rfl⟩ := hd.slice
  have hg := ress_good (newMem_good T ws (by omega) t1) l
  have hS := ress_sound (newMem_sound T ws) (newMem_good T ws (by omega) t1) l (by omega)
  rw [hM] at hg hS
  obtain ⟨n1, hn1⟩ : ∃ n, ws.length = n := ⟨_, rfl⟩
  obtain ⟨n2, hn2⟩ : ∃ n, l.length = n := ⟨_, rfl⟩
  have e1 : M.hs.length = n1 := by rw [hg.2.1]; simp [newMem, hn1]
  have e2 : M.vs.length = T := by rw [hg.2.2]; simp [newMem]
  have HM := Lib.hid hM
  have HG := Lib.hid hg.1
  have E1 := Lib.hid e1
  have E2 := Lib.hid e2
  have HN1 := Lib.hid hn1
  have HN2 := Lib.hid hn2
  have HOK := Lib.hid hok
  have HW1 := Lib.hid h0
  have hbb := b2 w (.cells #[.int .i64 T, .slice (some ⟨bF, oF, none⟩) n1 c1, .slice y2 n2 c2] 25) (.cells #[.int .i64 op, .int .i64 at_, .int .i64 oa, .int .u32 ob, .int .u32 oc, .int .i64 na, .int .u32 nb, .int .u32 nc] 47)
  have FF := Lib.hid (hF.below hbb)
  have DD := Lib.hid (hd.below hbb)
  have HGL := Lib.hid (show 1 + l.length ≤ 41 by omega)
  rw [hn1] at h0 h1 FF ⊢
  rw [hn2] at hl DD ⊢
  (try rw [hn1] at ha)
  (try rw [hn1] at hp)
  have qN := neqW
  have qE := eqlW
  have X3 := Lib.hid (Box.alloc (Box.new w #[.int .i64 T, .slice (some ⟨bF, oF, none⟩) n1 c1, .slice y2 n2 c2] 25 rfl) (.cells #[.int .i64 op, .int .i64 at_, .int .i64 oa, .int .u32 ob, .int .u32 oc, .int .i64 na, .int .u32 nb, .int .u32 nc] 47))
  have X5 := Lib.hid (Box.new (w.alloc (.cells #[.int .i64 T, .slice (some ⟨bF, oF, none⟩) n1 c1, .slice y2 n2 c2] 25)) #[.int .i64 op, .int .i64 at_, .int .i64 oa, .int .u32 ob, .int .u32 oc, .int .i64 na, .int .u32 nb, .int .u32 nc] 47 (n := w.heap.size + 1) (by simp))
  have BB := Lib.hid hbb
  clear hbb hF hd hok hg hM e1 e2 hn2 hS
  go_enter Try.func6, Try.ntmps6
  go_wp2_with fail
  generalize (w.alloc (.cells #[.int .i64 T, .slice (some ⟨bF, oF, none⟩) n1 c1, .slice y2 n2 c2] 25)).alloc (.cells #[.int .i64 op, .int .i64 at_, .int .i64 oa, .int .u32 ob, .int .u32 oc, .int .i64 na, .int .u32 nb, .int .u32 nc] 47) = W0 at *
  obtain ⟨b5, hb5⟩ : ∃ br, w.heap.size + 1 = br := ⟨_, rfl⟩
  obtain ⟨b3, hb3⟩ : ∃ bp, w.heap.size = bp := ⟨_, rfl⟩
  have hbq := hb3
  rw [hb5] at X5 ⊢
  rw [hb3] at X3 hb5 ⊢
  refine (awake_any _).mono ?_
  rintro e a0 ⟨rfl, hb⟩
  replace X3 := Lib.hid (X3.out.below (hb))
  replace X5 := Lib.hid (X5.out.below (hb))
  replace FF := Lib.hid (FF.out.below (hb))
  replace DD := Lib.hid (DD.out.below (hb))
  replace BB := Lib.hid (BB.out.trans ((hb).mono BB.out.size))
  clear hb
  obtain ⟨⟨m0, m1, m2⟩, -⟩ := X3.out.cells3
  go_wp2_with fail
  clear m0 m1 m2
  have hbg : Calls Try.prog 16 #[.agg #[.int .i64 T, .slice (some ⟨bF, oF, none⟩) n1 c1, .slice y2 n2 c2]] a0 fun e w' => ∃ pv vv, e = .returned (.tuple #[.agg #[pv, vv], .bool true]) ∧ MD (fun b => a0.heap.size ≤ b) w' pv vv M ∧ Below a0.heap.size a0 w' := by
    rcases FF.out with ⟨a', c', he', hw'⟩ | ⟨b', o', c', he', hbl, hcc⟩
    · exfalso; have hz := HN1.out; rw [hw'] at hz; simp at hz; omega
    · rw [HN1.out] at he'
      simp only [Value.slice.injEq, Option.some.injEq, Addr.mk.injEq, and_true] at he'
      obtain ⟨⟨rfl, rfl⟩, -, rfl⟩ := he'
      have hq := begun_ok T bF oF c1 ws (.slice y2 n2 c2) l a0 HW1.out (by rw [HN1.out]; omega) t0 t1 hbl hcc DD.out (by rw [HN2.out]; omega) HOK.out
      rw [HN1.out, HM.out] at hq
      exact hq
  refine (hbg).mono ?_
  rintro e a1 ⟨pv, vv, rfl, hm, hb⟩
  replace X3 := Lib.hid (X3.out.below (hb))
  replace X5 := Lib.hid (X5.out.below (hb))
  replace FF := Lib.hid (FF.out.below (hb))
  replace DD := Lib.hid (DD.out.below (hb))
  replace BB := Lib.hid (BB.out.trans ((hb).mono BB.out.size))
  clear hb
  have MM := Lib.hid (hm)
  clear hm hbg
  obtain ⟨u1, u2, e1, e2⟩ := MM.out.sl E1.out E2.out
  subst e1 e2
  go_upto_region 4 with fail
  have hlt_b7 := BB.out.size
  have hlt_b7_X3 := X3.out.lt
  have hlt_b7_X5 := X5.out.lt
  replace X3 := Lib.hid (X3.out.below (below_new a1 (.cells #[.slice u1 n1 n1, .slice u2 T T] 31)))
  replace X5 := Lib.hid (X5.out.below (below_new a1 (.cells #[.slice u1 n1 n1, .slice u2 T T] 31)))
  replace FF := Lib.hid (FF.out.below (below_new a1 (.cells #[.slice u1 n1 n1, .slice u2 T T] 31)))
  replace DD := Lib.hid (DD.out.below (below_new a1 (.cells #[.slice u1 n1 n1, .slice u2 T T] 31)))
  replace MM := Lib.hid (MM.out.below (below_new a1 (.cells #[.slice u1 n1 n1, .slice u2 T T] 31)))
  replace BB := Lib.hid (BB.out.trans ((below_new a1 (.cells #[.slice u1 n1 n1, .slice u2 T T] 31)).mono BB.out.size))
  have B7 := Lib.hid (Box.new a1 #[.slice u1 n1 n1, .slice u2 T T] 31 rfl)
  have hsz_b7 : (World.alloc a1 (.cells #[.slice u1 n1 n1, .slice u2 T T] 31)).heap.size = (World.heap a1).size + 1 := by simp
  generalize World.alloc a1 (.cells #[.slice u1 n1 n1, .slice u2 T T] 31) = a2 at *
  generalize World.heap a1 = hp_b7 at *
  generalize hp_b7.size = b7 at *
  clear FF
  clear DD
  clear X3
  obtain ⟨⟨g0, g1⟩, -⟩ := B7.out.cells2
  go_wp2_with fail
  clear g0 g1
  refine (size_any u1 u2 n1 T _).mono ?_
  rintro e a3 ⟨rfl, hb⟩
  replace X5 := Lib.hid (X5.out.below (hb))
  replace MM := Lib.hid (MM.out.below (hb))
  replace B7 := Lib.hid (B7.out.below (hb))
  replace BB := Lib.hid (BB.out.trans ((hb).mono BB.out.size))
  clear hb
  obtain ⟨d0, d1, d2, d3, d4, d5, d6, d7⟩ := X5.out.all8
  have F2 := BB.out
  go_wp2
  all_goals (go_ret; exact ⟨by simp, by first | exact F2 | (rw [← hbq]; exact F2)⟩)

set_option maxRecDepth 100000 in
set_option maxHeartbeats 6400000 in
theorem newest_ahigh (T bF oF c1 : Nat) (ws : List Wd) (v : Value) (l : List DoV) (M : Mem) (hM : (newMem T ws).ress l = M) (t at_ : Int) (op oa ob oc na nb nc : Int) (w : World) (h0 : 0 < ws.length) (h1 : ws.length ≤ 8) (t0 : 1 ≤ T) (t1 : T ≤ 8)
    (hF : IsWords w (.slice (some ⟨bF, oF, none⟩) ws.length c1) ws) (hd : IsDos w v l) (hl : l.length ≤ 40) (hok : DosOk l) (ht : 1 ≤ t ∧ t ≤ T) (ha : (ws.length : Int) ≤ at_) :
    Calls Try.prog 6 #[.agg #[.int .i64 T, .slice (some ⟨bF, oF, none⟩) ws.length c1, v], .int .i64 t, .agg #[.int .i64 op, .int .i64 at_, .int .i64 oa, .int .u32 ob, .int .u32 oc, .int .i64 na, .int .u32 nb, .int .u32 nc]] w fun e w' => e = .returned (.bool true) ∧ Below w.heap.size w w' := by
  obtain ⟨y2, c2, rfl⟩ := hd.slice
  have hg := ress_good (newMem_good T ws (by omega) t1) l
  have hS := ress_sound (newMem_sound T ws) (newMem_good T ws (by omega) t1) l (by omega)
  rw [hM] at hg hS
  obtain ⟨n1, hn1⟩ : ∃ n, ws.length = n := ⟨_, rfl⟩
  obtain ⟨n2, hn2⟩ : ∃ n, l.length = n := ⟨_, rfl⟩
  have e1 : M.hs.length = n1 := by rw [hg.2.1]; simp [newMem, hn1]
  have e2 : M.vs.length = T := by rw [hg.2.2]; simp [newMem]
  have HM := Lib.hid hM
  have HG := Lib.hid hg.1
  have E1 := Lib.hid e1
  have E2 := Lib.hid e2
  have HN1 := Lib.hid hn1
  have HN2 := Lib.hid hn2
  have HOK := Lib.hid hok
  have HW1 := Lib.hid h0
  have hbb := b2 w (.cells #[.int .i64 T, .slice (some ⟨bF, oF, none⟩) n1 c1, .slice y2 n2 c2] 25) (.cells #[.int .i64 op, .int .i64 at_, .int .i64 oa, .int .u32 ob, .int .u32 oc, .int .i64 na, .int .u32 nb, .int .u32 nc] 47)
  have FF := Lib.hid (hF.below hbb)
  have DD := Lib.hid (hd.below hbb)
  have HGL := Lib.hid (show 1 + l.length ≤ 41 by omega)
  rw [hn1] at h0 h1 FF ⊢
  rw [hn2] at hl DD ⊢
  (try rw [hn1] at ha)
  (try rw [hn1] at hp)
  have qN := neqW
  have qE := eqlW
  have X3 := Lib.hid (Box.alloc (Box.new w #[.int .i64 T, .slice (some ⟨bF, oF, none⟩) n1 c1, .slice y2 n2 c2] 25 rfl) (.cells #[.int .i64 op, .int .i64 at_, .int .i64 oa, .int .u32 ob, .int .u32 oc, .int .i64 na, .int .u32 nb, .int .u32 nc] 47))
  have X5 := Lib.hid (Box.new (w.alloc (.cells #[.int .i64 T, .slice (some ⟨bF, oF, none⟩) n1 c1, .slice y2 n2 c2] 25)) #[.int .i64 op, .int .i64 at_, .int .i64 oa, .int .u32 ob, .int .u32 oc, .int .i64 na, .int .u32 nb, .int .u32 nc] 47 (n := w.heap.size + 1) (by simp))
  have BB := Lib.hid hbb
  clear hbb hF hd hok hg hM e1 e2 hn2 hS
  go_enter Try.func6, Try.ntmps6
  go_wp2_with fail
  generalize (w.alloc (.cells #[.int .i64 T, .slice (some ⟨bF, oF, none⟩) n1 c1, .slice y2 n2 c2] 25)).alloc (.cells #[.int .i64 op, .int .i64 at_, .int .i64 oa, .int .u32 ob, .int .u32 oc, .int .i64 na, .int .u32 nb, .int .u32 nc] 47) = W0 at *
  obtain ⟨b5, hb5⟩ : ∃ br, w.heap.size + 1 = br := ⟨_, rfl⟩
  obtain ⟨b3, hb3⟩ : ∃ bp, w.heap.size = bp := ⟨_, rfl⟩
  have hbq := hb3
  rw [hb5] at X5 ⊢
  rw [hb3] at X3 hb5 ⊢
  refine (awake_any _).mono ?_
  rintro e a0 ⟨rfl, hb⟩
  replace X3 := Lib.hid (X3.out.below (hb))
  replace X5 := Lib.hid (X5.out.below (hb))
  replace FF := Lib.hid (FF.out.below (hb))
  replace DD := Lib.hid (DD.out.below (hb))
  replace BB := Lib.hid (BB.out.trans ((hb).mono BB.out.size))
  clear hb
  obtain ⟨⟨m0, m1, m2⟩, -⟩ := X3.out.cells3
  go_wp2_with fail
  clear m0 m1 m2
  have hbg : Calls Try.prog 16 #[.agg #[.int .i64 T, .slice (some ⟨bF, oF, none⟩) n1 c1, .slice y2 n2 c2]] a0 fun e w' => ∃ pv vv, e = .returned (.tuple #[.agg #[pv, vv], .bool true]) ∧ MD (fun b => a0.heap.size ≤ b) w' pv vv M ∧ Below a0.heap.size a0 w' := by
    rcases FF.out with ⟨a', c', he', hw'⟩ | ⟨b', o', c', he', hbl, hcc⟩
    · exfalso; have hz := HN1.out; rw [hw'] at hz; simp at hz; omega
    · rw [HN1.out] at he'
      simp only [Value.slice.injEq, Option.some.injEq, Addr.mk.injEq, and_true] at he'
      obtain ⟨⟨rfl, rfl⟩, -, rfl⟩ := he'
      have hq := begun_ok T bF oF c1 ws (.slice y2 n2 c2) l a0 HW1.out (by rw [HN1.out]; omega) t0 t1 hbl hcc DD.out (by rw [HN2.out]; omega) HOK.out
      rw [HN1.out, HM.out] at hq
      exact hq
  refine (hbg).mono ?_
  rintro e a1 ⟨pv, vv, rfl, hm, hb⟩
  replace X3 := Lib.hid (X3.out.below (hb))
  replace X5 := Lib.hid (X5.out.below (hb))
  replace FF := Lib.hid (FF.out.below (hb))
  replace DD := Lib.hid (DD.out.below (hb))
  replace BB := Lib.hid (BB.out.trans ((hb).mono BB.out.size))
  clear hb
  have MM := Lib.hid (hm)
  clear hm hbg
  obtain ⟨u1, u2, e1, e2⟩ := MM.out.sl E1.out E2.out
  subst e1 e2
  go_upto_region 4 with fail
  have hlt_b7 := BB.out.size
  have hlt_b7_X3 := X3.out.lt
  have hlt_b7_X5 := X5.out.lt
  replace X3 := Lib.hid (X3.out.below (below_new a1 (.cells #[.slice u1 n1 n1, .slice u2 T T] 31)))
  replace X5 := Lib.hid (X5.out.below (below_new a1 (.cells #[.slice u1 n1 n1, .slice u2 T T] 31)))
  replace FF := Lib.hid (FF.out.below (below_new a1 (.cells #[.slice u1 n1 n1, .slice u2 T T] 31)))
  replace DD := Lib.hid (DD.out.below (below_new a1 (.cells #[.slice u1 n1 n1, .slice u2 T T] 31)))
  replace MM := Lib.hid (MM.out.below (below_new a1 (.cells #[.slice u1 n1 n1, .slice u2 T T] 31)))
  replace BB := Lib.hid (BB.out.trans ((below_new a1 (.cells #[.slice u1 n1 n1, .slice u2 T T] 31)).mono BB.out.size))
  have B7 := Lib.hid (Box.new a1 #[.slice u1 n1 n1, .slice u2 T T] 31 rfl)
  have hsz_b7 : (World.alloc a1 (.cells #[.slice u1 n1 n1, .slice u2 T T] 31)).heap.size = (World.heap a1).size + 1 := by simp
  generalize World.alloc a1 (.cells #[.slice u1 n1 n1, .slice u2 T T] 31) = a2 at *
  generalize World.heap a1 = hp_b7 at *
  generalize hp_b7.size = b7 at *
  clear FF
  clear DD
  clear X3
  obtain ⟨⟨g0, g1⟩, -⟩ := B7.out.cells2
  go_wp2_with fail
  clear g0 g1
  refine (size_any u1 u2 n1 T _).mono ?_
  rintro e a3 ⟨rfl, hb⟩
  replace X5 := Lib.hid (X5.out.below (hb))
  replace MM := Lib.hid (MM.out.below (hb))
  replace B7 := Lib.hid (B7.out.below (hb))
  replace BB := Lib.hid (BB.out.trans ((hb).mono BB.out.size))
  clear hb
  obtain ⟨d0, d1, d2, d3, d4, d5, d6, d7⟩ := X5.out.all8
  have F2 := BB.out
  go_wp2
  all_goals (go_ret; exact ⟨by simp, by first | exact F2 | (rw [← hbq]; exact F2)⟩)

set_option maxRecDepth 100000 in
set_option maxHeartbeats 6400000 in
theorem newest_miss (T bF oF c1 : Nat) (ws : List Wd) (v : Value) (l : List DoV) (M : Mem) (hM : (newMem T ws).ress l = M) (k p : Nat) (op oa ob oc na nb nc : Int) (w : World) (h0 : 0 < ws.length) (h1 : ws.length ≤ 8) (t0 : 1 ≤ T) (t1 : T ≤ 8)
    (hF : IsWords w (.slice (some ⟨bF, oF, none⟩) ws.length c1) ws) (hd : IsDos w v l) (hl : l.length ≤ 40) (hok : DosOk l) (hk : k < T) (hp : p < ws.length) (hmsg : ¬ ((M.msg p ((M.hist p).length - 1)).val = oa ∧ (M.msg p ((M.hist p).length - 1)).ver = ob ∧ (M.msg p ((M.hist p).length - 1)).ref = oc)) :
    Calls Try.prog 6 #[.agg #[.int .i64 T, .slice (some ⟨bF, oF, none⟩) ws.length c1, v], .int .i64 ((k : Int) + 1), .agg #[.int .i64 op, .int .i64 (p : Int), .int .i64 oa, .int .u32 ob, .int .u32 oc, .int .i64 na, .int .u32 nb, .int .u32 nc]] w fun e w' => e = .returned (.bool true) ∧ Below w.heap.size w w' := by
  obtain ⟨y2, c2, rfl⟩ := hd.slice
  have hg := ress_good (newMem_good T ws (by omega) t1) l
  have hS := ress_sound (newMem_sound T ws) (newMem_good T ws (by omega) t1) l (by omega)
  rw [hM] at hg hS
  obtain ⟨n1, hn1⟩ : ∃ n, ws.length = n := ⟨_, rfl⟩
  obtain ⟨n2, hn2⟩ : ∃ n, l.length = n := ⟨_, rfl⟩
  have e1 : M.hs.length = n1 := by rw [hg.2.1]; simp [newMem, hn1]
  have e2 : M.vs.length = T := by rw [hg.2.2]; simp [newMem]
  have hk' : k < M.vs.length := by omega
  have hp' : p < M.hs.length := by omega
  have hgh := hg.1.hist hp'
  have hnp : p < 4096 := by omega
  have hnp8 : p < 8 := by omega
  have hk8 : k < 8 := by omega
  have hs1 := seen_read hS hk' hp' hgh.1 (by omega) hnp
  obtain ⟨L, hL⟩ : ∃ L, (M.hist p).length = L := ⟨_, rfl⟩
  have hL0 : 0 < L := by omega
  have hL1 : L ≤ 41 := by omega
  obtain ⟨Mn, hMn⟩ : ∃ Mn, M.readAt k p ((M.hist p).length - 1) true = Mn := ⟨_, rfl⟩
  have gn := hg.1.readAt k p ((M.hist p).length - 1) true
  have sn := hS.readAt hk' hp' (i := (M.hist p).length - 1) (by omega) (by omega) true
  have en1 : Mn.hs.length = n1 := by rw [← hMn]; exact e1
  have en2 : Mn.vs.length = T := by rw [← hMn]; simp [Mem.readAt]; exact e2
  have hLn : (Mn.hist p).length = L := by rw [← hMn]; exact hL
  have hwn : Mn.msg p (L - 1) = M.msg p (L - 1) := by rw [← hMn]; rfl
  rw [hMn] at gn sn hs1
  rw [hL] at hs1
  obtain ⟨la, lb, lc, hlast⟩ : ∃ a b c, wordV (M.msg p (L - 1)) = .agg #[.int .i64 a, .int .u32 b, .int .u32 c] := ⟨_, _, _, rfl⟩
  have hneq : (la == oa && (lb == ob && lc == oc)) = false := by
    have hx := hlast
    unfold wordV at hx
    simp only [Value.agg.injEq, Array.mk.injEq, List.cons.injEq, Value.int.injEq, true_and, and_true] at hx
    rw [hL, hx.1, hx.2.1, hx.2.2] at hmsg
    simpa using hmsg
  have gz : Mn.Good (1 + l.length + 1) := gn.mono (by omega)
  have ez1 := en1
  have ez2 := en2
  have hLz := hLn
  have hwz : wordV (Mn.msg p (L - 1)) = .agg #[.int .i64 la, .int .u32 lb, .int .u32 lc] := by rw [hwn]; exact hlast
  have hsz := hs1
  have HMSG := Lib.hid hmsg
  have HL := Lib.hid hL
  have HMN := Lib.hid hMn
  have HLN := Lib.hid hLn
  have HWN := Lib.hid hwn
  have HLAST := Lib.hid hlast
  have GN := Lib.hid gn
  have EN1 := Lib.hid en1
  have EN2 := Lib.hid en2
  have GZ := Lib.hid gz
  have EZ1 := Lib.hid ez1
  have EZ2 := Lib.hid ez2
  have HLZ := Lib.hid hLz
  have HWZ := Lib.hid hwz
  have HSZ := Lib.hid hsz
  have HKM := Lib.hid hk'
  have HPM := Lib.hid hp'
  clear hmsg hL hMn hLn hwn hlast gn en1 en2 gz ez1 ez2 hLz hwz hsz hs1 sn hgh hk' hp' hS
  have HM := Lib.hid hM
  have HG := Lib.hid hg.1
  have E1 := Lib.hid e1
  have E2 := Lib.hid e2
  have HN1 := Lib.hid hn1
  have HN2 := Lib.hid hn2
  have HOK := Lib.hid hok
  have HW1 := Lib.hid h0
  have hbb := b2 w (.cells #[.int .i64 T, .slice (some ⟨bF, oF, none⟩) n1 c1, .slice y2 n2 c2] 25) (.cells #[.int .i64 op, .int .i64 (p : Int), .int .i64 oa, .int .u32 ob, .int .u32 oc, .int .i64 na, .int .u32 nb, .int .u32 nc] 47)
  have FF := Lib.hid (hF.below hbb)
  have DD := Lib.hid (hd.below hbb)
  have HGL := Lib.hid (show 1 + l.length ≤ 41 by omega)
  rw [hn1] at h0 h1 FF ⊢
  rw [hn2] at hl DD ⊢
  (try rw [hn1] at ha)
  (try rw [hn1] at hp)
  have qN := neqW
  have qE := eqlW
  have X3 := Lib.hid (Box.alloc (Box.new w #[.int .i64 T, .slice (some ⟨bF, oF, none⟩) n1 c1, .slice y2 n2 c2] 25 rfl) (.cells #[.int .i64 op, .int .i64 (p : Int), .int .i64 oa, .int .u32 ob, .int .u32 oc, .int .i64 na, .int .u32 nb, .int .u32 nc] 47))
  have X5 := Lib.hid (Box.new (w.alloc (.cells #[.int .i64 T, .slice (some ⟨bF, oF, none⟩) n1 c1, .slice y2 n2 c2] 25)) #[.int .i64 op, .int .i64 (p : Int), .int .i64 oa, .int .u32 ob, .int .u32 oc, .int .i64 na, .int .u32 nb, .int .u32 nc] 47 (n := w.heap.size + 1) (by simp))
  have BB := Lib.hid hbb
  clear hbb hF hd hok hg hM e1 e2 hn2 
  go_enter Try.func6, Try.ntmps6
  go_wp2_with fail
  generalize (w.alloc (.cells #[.int .i64 T, .slice (some ⟨bF, oF, none⟩) n1 c1, .slice y2 n2 c2] 25)).alloc (.cells #[.int .i64 op, .int .i64 (p : Int), .int .i64 oa, .int .u32 ob, .int .u32 oc, .int .i64 na, .int .u32 nb, .int .u32 nc] 47) = W0 at *
  obtain ⟨b5, hb5⟩ : ∃ br, w.heap.size + 1 = br := ⟨_, rfl⟩
  obtain ⟨b3, hb3⟩ : ∃ bp, w.heap.size = bp := ⟨_, rfl⟩
  have hbq := hb3
  rw [hb5] at X5 ⊢
  rw [hb3] at X3 hb5 ⊢
  refine (awake_any _).mono ?_
  rintro e a0 ⟨rfl, hb⟩
  replace X3 := Lib.hid (X3.out.below (hb))
  replace X5 := Lib.hid (X5.out.below (hb))
  replace FF := Lib.hid (FF.out.below (hb))
  replace DD := Lib.hid (DD.out.below (hb))
  replace BB := Lib.hid (BB.out.trans ((hb).mono BB.out.size))
  clear hb
  obtain ⟨⟨m0, m1, m2⟩, -⟩ := X3.out.cells3
  go_wp2_with fail
  clear m0 m1 m2
  have hbg : Calls Try.prog 16 #[.agg #[.int .i64 T, .slice (some ⟨bF, oF, none⟩) n1 c1, .slice y2 n2 c2]] a0 fun e w' => ∃ pv vv, e = .returned (.tuple #[.agg #[pv, vv], .bool true]) ∧ MD (fun b => a0.heap.size ≤ b) w' pv vv M ∧ Below a0.heap.size a0 w' := by
    rcases FF.out with ⟨a', c', he', hw'⟩ | ⟨b', o', c', he', hbl, hcc⟩
    · exfalso; have hz := HN1.out; rw [hw'] at hz; simp at hz; omega
    · rw [HN1.out] at he'
      simp only [Value.slice.injEq, Option.some.injEq, Addr.mk.injEq, and_true] at he'
      obtain ⟨⟨rfl, rfl⟩, -, rfl⟩ := he'
      have hq := begun_ok T bF oF c1 ws (.slice y2 n2 c2) l a0 HW1.out (by rw [HN1.out]; omega) t0 t1 hbl hcc DD.out (by rw [HN2.out]; omega) HOK.out
      rw [HN1.out, HM.out] at hq
      exact hq
  refine (hbg).mono ?_
  rintro e a1 ⟨pv, vv, rfl, hm, hb⟩
  replace X3 := Lib.hid (X3.out.below (hb))
  replace X5 := Lib.hid (X5.out.below (hb))
  replace FF := Lib.hid (FF.out.below (hb))
  replace DD := Lib.hid (DD.out.below (hb))
  replace BB := Lib.hid (BB.out.trans ((hb).mono BB.out.size))
  clear hb
  have MM := Lib.hid (hm)
  clear hm hbg
  obtain ⟨u1, u2, e1, e2⟩ := MM.out.sl E1.out E2.out
  subst e1 e2
  go_upto_region 4 with fail
  have hlt_b7 := BB.out.size
  have hlt_b7_X3 := X3.out.lt
  have hlt_b7_X5 := X5.out.lt
  replace X3 := Lib.hid (X3.out.below (below_new a1 (.cells #[.slice u1 n1 n1, .slice u2 T T] 31)))
  replace X5 := Lib.hid (X5.out.below (below_new a1 (.cells #[.slice u1 n1 n1, .slice u2 T T] 31)))
  replace FF := Lib.hid (FF.out.below (below_new a1 (.cells #[.slice u1 n1 n1, .slice u2 T T] 31)))
  replace DD := Lib.hid (DD.out.below (below_new a1 (.cells #[.slice u1 n1 n1, .slice u2 T T] 31)))
  replace MM := Lib.hid (MM.out.below (below_new a1 (.cells #[.slice u1 n1 n1, .slice u2 T T] 31)))
  replace BB := Lib.hid (BB.out.trans ((below_new a1 (.cells #[.slice u1 n1 n1, .slice u2 T T] 31)).mono BB.out.size))
  have B7 := Lib.hid (Box.new a1 #[.slice u1 n1 n1, .slice u2 T T] 31 rfl)
  have hsz_b7 : (World.alloc a1 (.cells #[.slice u1 n1 n1, .slice u2 T T] 31)).heap.size = (World.heap a1).size + 1 := by simp
  generalize World.alloc a1 (.cells #[.slice u1 n1 n1, .slice u2 T T] 31) = a2 at *
  generalize World.heap a1 = hp_b7 at *
  generalize hp_b7.size = b7 at *
  clear FF
  clear DD
  clear X3
  obtain ⟨⟨g0, g1⟩, -⟩ := B7.out.cells2
  go_wp2_with fail
  clear g0 g1
  refine (size_any u1 u2 n1 T _).mono ?_
  rintro e a3 ⟨rfl, hb⟩
  replace X5 := Lib.hid (X5.out.below (hb))
  replace MM := Lib.hid (MM.out.below (hb))
  replace B7 := Lib.hid (B7.out.below (hb))
  replace BB := Lib.hid (BB.out.trans ((hb).mono BB.out.size))
  clear hb
  obtain ⟨⟨g0, g1⟩, -⟩ := B7.out.cells2
  obtain ⟨d0, d1, d2, d3, d4, d5, d6, d7⟩ := X5.out.all8
  go_wp2_with fail
  clear g0 g1
  clear d0 d1 d2 d3 d4 d5 d6 d7
  refine (last_ok _ _ M (1 + l.length) p _ MM.out.mw HG.out (by have := HGL.out; omega) HPM.out).mono ?_
  rintro e a4 ⟨rfl, hb⟩
  replace X5 := Lib.hid (X5.out.below (hb))
  replace MM := Lib.hid (MM.out.below (hb))
  replace B7 := Lib.hid (B7.out.below (hb))
  replace BB := Lib.hid (BB.out.trans ((hb).mono BB.out.size))
  clear hb
  rw [HL.out, HLAST.out]
  go_upto_region 8 with fail
  have hlt_b11 := BB.out.size
  have hlt_b11_X5 := X5.out.lt
  have hlt_b11_B7 := B7.out.lt
  replace X5 := Lib.hid (X5.out.below (below_new a4 (.cells #[.int .i64 la, .int .u32 lb, .int .u32 lc] 45)))
  replace MM := Lib.hid (MM.out.below (below_new a4 (.cells #[.int .i64 la, .int .u32 lb, .int .u32 lc] 45)))
  replace B7 := Lib.hid (B7.out.below (below_new a4 (.cells #[.int .i64 la, .int .u32 lb, .int .u32 lc] 45)))
  replace BB := Lib.hid (BB.out.trans ((below_new a4 (.cells #[.int .i64 la, .int .u32 lb, .int .u32 lc] 45)).mono BB.out.size))
  have B11 := Lib.hid (Box.new a4 #[.int .i64 la, .int .u32 lb, .int .u32 lc] 45 rfl)
  have hsz_b11 : (World.alloc a4 (.cells #[.int .i64 la, .int .u32 lb, .int .u32 lc] 45)).heap.size = (World.heap a4).size + 1 := by simp
  generalize World.alloc a4 (.cells #[.int .i64 la, .int .u32 lb, .int .u32 lc] 45) = a5 at *
  generalize World.heap a4 = hp_b11 at *
  generalize hp_b11.size = b11 at *
  obtain ⟨⟨g0, g1⟩, -⟩ := B7.out.cells2
  obtain ⟨d0, d1, d2, d3, d4, d5, d6, d7⟩ := X5.out.all8
  go_wp2_with fail
  clear g0 g1
  clear d0 d1 d2 d3 d4 d5 d6 d7
  refine (look_ok _ _ M (1 + l.length) k p _ _ MM.out HG.out (by have := HGL.out; omega) HKM.out HPM.out).mono ?_
  rintro e a6 ⟨vv', rfl, hm, hb⟩
  replace X5 := Lib.hid (X5.out.below (hb))
  replace MM := Lib.hid (MM.out.below (hb))
  replace B7 := Lib.hid (B7.out.below (hb))
  replace B11 := Lib.hid (B11.out.below (hb))
  replace BB := Lib.hid (BB.out.trans ((hb).mono BB.out.size))
  clear hb
  have MN := Lib.hid (hm)
  clear hm
  rw [HMN.out] at MN
  rw [HL.out, HLAST.out]
  obtain ⟨_, v2, -, e2⟩ := MN.out.sl EN1.out EN2.out
  subst e2
  go_upto_region 9 with fail
  have hlt_b13 := BB.out.size
  have hlt_b13_X5 := X5.out.lt
  have hlt_b13_B7 := B7.out.lt
  have hlt_b13_B11 := B11.out.lt
  replace X5 := Lib.hid (X5.out.below (below_new a6 (.cells #[.slice u1 n1 n1, .slice v2 T T] 31)))
  replace MM := Lib.hid (MM.out.below (below_new a6 (.cells #[.slice u1 n1 n1, .slice v2 T T] 31)))
  replace B7 := Lib.hid (B7.out.below (below_new a6 (.cells #[.slice u1 n1 n1, .slice v2 T T] 31)))
  replace B11 := Lib.hid (B11.out.below (below_new a6 (.cells #[.slice u1 n1 n1, .slice v2 T T] 31)))
  replace MN := Lib.hid (MN.out.below (below_new a6 (.cells #[.slice u1 n1 n1, .slice v2 T T] 31)))
  replace BB := Lib.hid (BB.out.trans ((below_new a6 (.cells #[.slice u1 n1 n1, .slice v2 T T] 31)).mono BB.out.size))
  have B13 := Lib.hid (Box.new a6 #[.slice u1 n1 n1, .slice v2 T T] 31 rfl)
  have hsz_b13 : (World.alloc a6 (.cells #[.slice u1 n1 n1, .slice v2 T T] 31)).heap.size = (World.heap a6).size + 1 := by simp
  generalize World.alloc a6 (.cells #[.slice u1 n1 n1, .slice v2 T T] 31) = a7 at *
  generalize World.heap a6 = hp_b13 at *
  generalize hp_b13.size = b13 at *
  have hlt_b14 := BB.out.size
  replace X5 := Lib.hid (X5.out.below (below_new a7 (.cells #[.int .i64 la, .int .u32 lb, .int .u32 lc] 45)))
  replace MM := Lib.hid (MM.out.below (below_new a7 (.cells #[.int .i64 la, .int .u32 lb, .int .u32 lc] 45)))
  replace B7 := Lib.hid (B7.out.below (below_new a7 (.cells #[.int .i64 la, .int .u32 lb, .int .u32 lc] 45)))
  replace B11 := Lib.hid (B11.out.below (below_new a7 (.cells #[.int .i64 la, .int .u32 lb, .int .u32 lc] 45)))
  replace MN := Lib.hid (MN.out.below (below_new a7 (.cells #[.int .i64 la, .int .u32 lb, .int .u32 lc] 45)))
  replace B13 := Lib.hid (B13.out.below (below_new a7 (.cells #[.int .i64 la, .int .u32 lb, .int .u32 lc] 45)))
  replace BB := Lib.hid (BB.out.trans ((below_new a7 (.cells #[.int .i64 la, .int .u32 lb, .int .u32 lc] 45)).mono BB.out.size))
  have B14 := Lib.hid (Box.new a7 #[.int .i64 la, .int .u32 lb, .int .u32 lc] 45 (n := b13 + 1) hsz_b13.symm)
  have hsz_b14 : (World.alloc a7 (.cells #[.int .i64 la, .int .u32 lb, .int .u32 lc] 45)).heap.size = b13 + 1 + 1 := by simp [hsz_b13]
  rw [hsz_b13] at hlt_b14
  generalize World.alloc a7 (.cells #[.int .i64 la, .int .u32 lb, .int .u32 lc] 45) = a8 at *
  obtain ⟨b14, hq_b14⟩ : ∃ b, b13 + 1 = b := ⟨_, rfl⟩
  rw [hq_b14] at B14 hsz_b14 ⊢
  obtain ⟨⟨g0, g1⟩, -⟩ := B7.out.cells2
  obtain ⟨d0, d1, d2, d3, d4, d5, d6, d7⟩ := X5.out.all8
  go_wp2_with fail
  clear g0 g1
  clear d0 d1 d2 d3 d4 d5 d6 d7
  refine (swap_miss _ _ M (1 + l.length) k p oa ob oc na nb nc _ _ MM.out HG.out (by have := HGL.out; omega) HKM.out HPM.out HMSG.out).mono ?_
  rintro e a9 ⟨pz, vz, rfl, hm, hb⟩
  replace X5 := Lib.hid (X5.out.below (hb))
  replace MM := Lib.hid (MM.out.below (hb))
  replace B7 := Lib.hid (B7.out.below (hb))
  replace B11 := Lib.hid (B11.out.below (hb))
  replace MN := Lib.hid (MN.out.below (hb))
  replace B13 := Lib.hid (B13.out.below (hb))
  replace B14 := Lib.hid (B14.out.below (hb))
  replace BB := Lib.hid (BB.out.trans ((hb).mono BB.out.size))
  clear hb
  have MZ := Lib.hid (hm)
  clear hm
  rw [HMN.out] at MZ
  rw [HL.out, HLAST.out]
  obtain ⟨z1, z2, e1, e2⟩ := MZ.out.sl EZ1.out EZ2.out
  subst e1 e2
  go_upto_region 10 with fail
  have hlt_b16 := BB.out.size
  have hlt_b16_X5 := X5.out.lt
  have hlt_b16_B7 := B7.out.lt
  have hlt_b16_B11 := B11.out.lt
  have hlt_b16_B13 := B13.out.lt
  have hlt_b16_B14 := B14.out.lt
  replace X5 := Lib.hid (X5.out.below (below_new a9 (.cells #[.slice z1 n1 n1, .slice z2 T T] 31)))
  replace MM := Lib.hid (MM.out.below (below_new a9 (.cells #[.slice z1 n1 n1, .slice z2 T T] 31)))
  replace B7 := Lib.hid (B7.out.below (below_new a9 (.cells #[.slice z1 n1 n1, .slice z2 T T] 31)))
  replace B11 := Lib.hid (B11.out.below (below_new a9 (.cells #[.slice z1 n1 n1, .slice z2 T T] 31)))
  replace MN := Lib.hid (MN.out.below (below_new a9 (.cells #[.slice z1 n1 n1, .slice z2 T T] 31)))
  replace B13 := Lib.hid (B13.out.below (below_new a9 (.cells #[.slice z1 n1 n1, .slice z2 T T] 31)))
  replace B14 := Lib.hid (B14.out.below (below_new a9 (.cells #[.slice z1 n1 n1, .slice z2 T T] 31)))
  replace MZ := Lib.hid (MZ.out.below (below_new a9 (.cells #[.slice z1 n1 n1, .slice z2 T T] 31)))
  replace BB := Lib.hid (BB.out.trans ((below_new a9 (.cells #[.slice z1 n1 n1, .slice z2 T T] 31)).mono BB.out.size))
  have B16 := Lib.hid (Box.new a9 #[.slice z1 n1 n1, .slice z2 T T] 31 rfl)
  have hsz_b16 : (World.alloc a9 (.cells #[.slice z1 n1 n1, .slice z2 T T] 31)).heap.size = (World.heap a9).size + 1 := by simp
  generalize World.alloc a9 (.cells #[.slice z1 n1 n1, .slice z2 T T] 31) = a10 at *
  generalize World.heap a9 = hp_b16 at *
  generalize hp_b16.size = b16 at *
  have hlt_b17 := BB.out.size
  replace X5 := Lib.hid (X5.out.below (below_new a10 (.cells #[.int .i64 la, .int .u32 lb, .int .u32 lc] 45)))
  replace MM := Lib.hid (MM.out.below (below_new a10 (.cells #[.int .i64 la, .int .u32 lb, .int .u32 lc] 45)))
  replace B7 := Lib.hid (B7.out.below (below_new a10 (.cells #[.int .i64 la, .int .u32 lb, .int .u32 lc] 45)))
  replace B11 := Lib.hid (B11.out.below (below_new a10 (.cells #[.int .i64 la, .int .u32 lb, .int .u32 lc] 45)))
  replace MN := Lib.hid (MN.out.below (below_new a10 (.cells #[.int .i64 la, .int .u32 lb, .int .u32 lc] 45)))
  replace B13 := Lib.hid (B13.out.below (below_new a10 (.cells #[.int .i64 la, .int .u32 lb, .int .u32 lc] 45)))
  replace B14 := Lib.hid (B14.out.below (below_new a10 (.cells #[.int .i64 la, .int .u32 lb, .int .u32 lc] 45)))
  replace MZ := Lib.hid (MZ.out.below (below_new a10 (.cells #[.int .i64 la, .int .u32 lb, .int .u32 lc] 45)))
  replace B16 := Lib.hid (B16.out.below (below_new a10 (.cells #[.int .i64 la, .int .u32 lb, .int .u32 lc] 45)))
  replace BB := Lib.hid (BB.out.trans ((below_new a10 (.cells #[.int .i64 la, .int .u32 lb, .int .u32 lc] 45)).mono BB.out.size))
  have B17 := Lib.hid (Box.new a10 #[.int .i64 la, .int .u32 lb, .int .u32 lc] 45 (n := b16 + 1) hsz_b16.symm)
  have hsz_b17 : (World.alloc a10 (.cells #[.int .i64 la, .int .u32 lb, .int .u32 lc] 45)).heap.size = b16 + 1 + 1 := by simp [hsz_b16]
  rw [hsz_b16] at hlt_b17
  generalize World.alloc a10 (.cells #[.int .i64 la, .int .u32 lb, .int .u32 lc] 45) = a11 at *
  obtain ⟨b17, hq_b17⟩ : ∃ b, b16 + 1 = b := ⟨_, rfl⟩
  rw [hq_b17] at B17 hsz_b17 ⊢
  obtain ⟨⟨g0, g1⟩, -⟩ := B7.out.cells2
  obtain ⟨d0, d1, d2, d3, d4, d5, d6, d7⟩ := X5.out.all8
  go_wp2_with fail
  clear g0 g1
  clear d0 d1 d2 d3 d4 d5 d6 d7
  refine (history_ok _ _ M p _ MM.out.mw HPM.out HG.out.np).mono ?_
  rintro e a12 ⟨ha, q, rfl, hq, hhw, hb⟩
  replace X5 := Lib.hid (X5.out.below (hb))
  replace MM := Lib.hid (MM.out.below (hb))
  replace B7 := Lib.hid (B7.out.below (hb))
  replace B11 := Lib.hid (B11.out.below (hb))
  replace MN := Lib.hid (MN.out.below (hb))
  replace B13 := Lib.hid (B13.out.below (hb))
  replace B14 := Lib.hid (B14.out.below (hb))
  replace MZ := Lib.hid (MZ.out.below (hb))
  replace B16 := Lib.hid (B16.out.below (hb))
  replace B17 := Lib.hid (B17.out.below (hb))
  replace BB := Lib.hid (BB.out.trans ((hb).mono BB.out.size))
  clear hb
  clear hq hhw
  rw [HL.out]
  go_upto_region 11 with fail
  have hlt_b20 := BB.out.size
  have hlt_b20_X5 := X5.out.lt
  have hlt_b20_B7 := B7.out.lt
  have hlt_b20_B11 := B11.out.lt
  have hlt_b20_B13 := B13.out.lt
  have hlt_b20_B14 := B14.out.lt
  have hlt_b20_B16 := B16.out.lt
  have hlt_b20_B17 := B17.out.lt
  replace X5 := Lib.hid (X5.out.below (below_new a12 (.cells #[.slice ha L L] 65)))
  replace MM := Lib.hid (MM.out.below (below_new a12 (.cells #[.slice ha L L] 65)))
  replace B7 := Lib.hid (B7.out.below (below_new a12 (.cells #[.slice ha L L] 65)))
  replace B11 := Lib.hid (B11.out.below (below_new a12 (.cells #[.slice ha L L] 65)))
  replace MN := Lib.hid (MN.out.below (below_new a12 (.cells #[.slice ha L L] 65)))
  replace B13 := Lib.hid (B13.out.below (below_new a12 (.cells #[.slice ha L L] 65)))
  replace B14 := Lib.hid (B14.out.below (below_new a12 (.cells #[.slice ha L L] 65)))
  replace MZ := Lib.hid (MZ.out.below (below_new a12 (.cells #[.slice ha L L] 65)))
  replace B16 := Lib.hid (B16.out.below (below_new a12 (.cells #[.slice ha L L] 65)))
  replace B17 := Lib.hid (B17.out.below (below_new a12 (.cells #[.slice ha L L] 65)))
  replace BB := Lib.hid (BB.out.trans ((below_new a12 (.cells #[.slice ha L L] 65)).mono BB.out.size))
  have B20 := Lib.hid (Box.new a12 #[.slice ha L L] 65 rfl)
  have hsz_b20 : (World.alloc a12 (.cells #[.slice ha L L] 65)).heap.size = (World.heap a12).size + 1 := by simp
  generalize World.alloc a12 (.cells #[.slice ha L L] 65) = a13 at *
  generalize World.heap a12 = hp_b20 at *
  generalize hp_b20.size = b20 at *
  obtain ⟨⟨g0, g1⟩, -⟩ := B16.out.cells2
  obtain ⟨d0, d1, d2, d3, d4, d5, d6, d7⟩ := X5.out.all8
  go_wp2_with fail
  clear g0 g1
  clear d0 d1 d2 d3 d4 d5 d6 d7
  refine (history_ok _ _ Mn p _ MZ.out.mw (by rw [EZ1.out]; omega) GZ.out.np).mono ?_
  rintro e a14 ⟨hz, q, rfl, hq, hhw, hb⟩
  replace X5 := Lib.hid (X5.out.below (hb))
  replace MM := Lib.hid (MM.out.below (hb))
  replace B7 := Lib.hid (B7.out.below (hb))
  replace B11 := Lib.hid (B11.out.below (hb))
  replace MN := Lib.hid (MN.out.below (hb))
  replace B13 := Lib.hid (B13.out.below (hb))
  replace B14 := Lib.hid (B14.out.below (hb))
  replace MZ := Lib.hid (MZ.out.below (hb))
  replace B16 := Lib.hid (B16.out.below (hb))
  replace B17 := Lib.hid (B17.out.below (hb))
  replace B20 := Lib.hid (B20.out.below (hb))
  replace BB := Lib.hid (BB.out.trans ((hb).mono BB.out.size))
  clear hb
  clear hq hhw
  rw [HLZ.out]
  go_upto_region 12 with fail
  have hlt_b22 := BB.out.size
  have hlt_b22_X5 := X5.out.lt
  have hlt_b22_B7 := B7.out.lt
  have hlt_b22_B11 := B11.out.lt
  have hlt_b22_B13 := B13.out.lt
  have hlt_b22_B14 := B14.out.lt
  have hlt_b22_B16 := B16.out.lt
  have hlt_b22_B17 := B17.out.lt
  have hlt_b22_B20 := B20.out.lt
  replace X5 := Lib.hid (X5.out.below (below_new a14 (.cells #[.slice hz (L) (L)] 65)))
  replace MM := Lib.hid (MM.out.below (below_new a14 (.cells #[.slice hz (L) (L)] 65)))
  replace B7 := Lib.hid (B7.out.below (below_new a14 (.cells #[.slice hz (L) (L)] 65)))
  replace B11 := Lib.hid (B11.out.below (below_new a14 (.cells #[.slice hz (L) (L)] 65)))
  replace MN := Lib.hid (MN.out.below (below_new a14 (.cells #[.slice hz (L) (L)] 65)))
  replace B13 := Lib.hid (B13.out.below (below_new a14 (.cells #[.slice hz (L) (L)] 65)))
  replace B14 := Lib.hid (B14.out.below (below_new a14 (.cells #[.slice hz (L) (L)] 65)))
  replace MZ := Lib.hid (MZ.out.below (below_new a14 (.cells #[.slice hz (L) (L)] 65)))
  replace B16 := Lib.hid (B16.out.below (below_new a14 (.cells #[.slice hz (L) (L)] 65)))
  replace B17 := Lib.hid (B17.out.below (below_new a14 (.cells #[.slice hz (L) (L)] 65)))
  replace B20 := Lib.hid (B20.out.below (below_new a14 (.cells #[.slice hz (L) (L)] 65)))
  replace BB := Lib.hid (BB.out.trans ((below_new a14 (.cells #[.slice hz (L) (L)] 65)).mono BB.out.size))
  have B22 := Lib.hid (Box.new a14 #[.slice hz (L) (L)] 65 rfl)
  have hsz_b22 : (World.alloc a14 (.cells #[.slice hz (L) (L)] 65)).heap.size = (World.heap a14).size + 1 := by simp
  generalize World.alloc a14 (.cells #[.slice hz (L) (L)] 65) = a15 at *
  generalize World.heap a14 = hp_b22 at *
  generalize hp_b22.size = b22 at *
  obtain ⟨⟨g0, g1⟩, -⟩ := B16.out.cells2
  obtain ⟨d0, d1, d2, d3, d4, d5, d6, d7⟩ := X5.out.all8
  go_wp2_with fail
  clear g0 g1
  clear d0 d1 d2 d3 d4 d5 d6 d7
  refine (last_ok _ _ Mn (1 + l.length + 1) p _ MZ.out.mw GZ.out (by have := HGL.out; omega) (by rw [EZ1.out]; omega)).mono ?_
  rintro e a16 ⟨rfl, hb⟩
  replace X5 := Lib.hid (X5.out.below (hb))
  replace MM := Lib.hid (MM.out.below (hb))
  replace B7 := Lib.hid (B7.out.below (hb))
  replace B11 := Lib.hid (B11.out.below (hb))
  replace MN := Lib.hid (MN.out.below (hb))
  replace B13 := Lib.hid (B13.out.below (hb))
  replace B14 := Lib.hid (B14.out.below (hb))
  replace MZ := Lib.hid (MZ.out.below (hb))
  replace B16 := Lib.hid (B16.out.below (hb))
  replace B17 := Lib.hid (B17.out.below (hb))
  replace B20 := Lib.hid (B20.out.below (hb))
  replace B22 := Lib.hid (B22.out.below (hb))
  replace BB := Lib.hid (BB.out.trans ((hb).mono BB.out.size))
  clear hb
  rw [HLZ.out, HWZ.out]
  go_upto_region 13 with fail
  have hlt_b24 := BB.out.size
  have hlt_b24_X5 := X5.out.lt
  have hlt_b24_B7 := B7.out.lt
  have hlt_b24_B11 := B11.out.lt
  have hlt_b24_B13 := B13.out.lt
  have hlt_b24_B14 := B14.out.lt
  have hlt_b24_B16 := B16.out.lt
  have hlt_b24_B17 := B17.out.lt
  have hlt_b24_B20 := B20.out.lt
  have hlt_b24_B22 := B22.out.lt
  replace X5 := Lib.hid (X5.out.below (below_new a16 (.cells #[.int .i64 la, .int .u32 lb, .int .u32 lc] 45)))
  replace MM := Lib.hid (MM.out.below (below_new a16 (.cells #[.int .i64 la, .int .u32 lb, .int .u32 lc] 45)))
  replace B7 := Lib.hid (B7.out.below (below_new a16 (.cells #[.int .i64 la, .int .u32 lb, .int .u32 lc] 45)))
  replace B11 := Lib.hid (B11.out.below (below_new a16 (.cells #[.int .i64 la, .int .u32 lb, .int .u32 lc] 45)))
  replace MN := Lib.hid (MN.out.below (below_new a16 (.cells #[.int .i64 la, .int .u32 lb, .int .u32 lc] 45)))
  replace B13 := Lib.hid (B13.out.below (below_new a16 (.cells #[.int .i64 la, .int .u32 lb, .int .u32 lc] 45)))
  replace B14 := Lib.hid (B14.out.below (below_new a16 (.cells #[.int .i64 la, .int .u32 lb, .int .u32 lc] 45)))
  replace MZ := Lib.hid (MZ.out.below (below_new a16 (.cells #[.int .i64 la, .int .u32 lb, .int .u32 lc] 45)))
  replace B16 := Lib.hid (B16.out.below (below_new a16 (.cells #[.int .i64 la, .int .u32 lb, .int .u32 lc] 45)))
  replace B17 := Lib.hid (B17.out.below (below_new a16 (.cells #[.int .i64 la, .int .u32 lb, .int .u32 lc] 45)))
  replace B20 := Lib.hid (B20.out.below (below_new a16 (.cells #[.int .i64 la, .int .u32 lb, .int .u32 lc] 45)))
  replace B22 := Lib.hid (B22.out.below (below_new a16 (.cells #[.int .i64 la, .int .u32 lb, .int .u32 lc] 45)))
  replace BB := Lib.hid (BB.out.trans ((below_new a16 (.cells #[.int .i64 la, .int .u32 lb, .int .u32 lc] 45)).mono BB.out.size))
  have B24 := Lib.hid (Box.new a16 #[.int .i64 la, .int .u32 lb, .int .u32 lc] 45 rfl)
  have hsz_b24 : (World.alloc a16 (.cells #[.int .i64 la, .int .u32 lb, .int .u32 lc] 45)).heap.size = (World.heap a16).size + 1 := by simp
  generalize World.alloc a16 (.cells #[.int .i64 la, .int .u32 lb, .int .u32 lc] 45) = a17 at *
  generalize World.heap a16 = hp_b24 at *
  generalize hp_b24.size = b24 at *
  obtain ⟨⟨g0, g1⟩, -⟩ := B13.out.cells2
  obtain ⟨d0, d1, d2, d3, d4, d5, d6, d7⟩ := X5.out.all8
  go_wp2_with fail
  clear g0 g1
  clear d0 d1 d2 d3 d4 d5 d6 d7
  refine (last_ok _ _ Mn (1 + l.length) p _ MN.out.mw GN.out (by have := HGL.out; omega) (by rw [EN1.out]; omega)).mono ?_
  rintro e a18 ⟨rfl, hb⟩
  replace X5 := Lib.hid (X5.out.below (hb))
  replace MM := Lib.hid (MM.out.below (hb))
  replace B7 := Lib.hid (B7.out.below (hb))
  replace B11 := Lib.hid (B11.out.below (hb))
  replace MN := Lib.hid (MN.out.below (hb))
  replace B13 := Lib.hid (B13.out.below (hb))
  replace B14 := Lib.hid (B14.out.below (hb))
  replace MZ := Lib.hid (MZ.out.below (hb))
  replace B16 := Lib.hid (B16.out.below (hb))
  replace B17 := Lib.hid (B17.out.below (hb))
  replace B20 := Lib.hid (B20.out.below (hb))
  replace B22 := Lib.hid (B22.out.below (hb))
  replace B24 := Lib.hid (B24.out.below (hb))
  replace BB := Lib.hid (BB.out.trans ((hb).mono BB.out.size))
  clear hb
  rw [HLN.out, HWN.out, HLAST.out]
  go_upto_region 14 with fail
  have hlt_b26 := BB.out.size
  have hlt_b26_X5 := X5.out.lt
  have hlt_b26_B7 := B7.out.lt
  have hlt_b26_B11 := B11.out.lt
  have hlt_b26_B13 := B13.out.lt
  have hlt_b26_B14 := B14.out.lt
  have hlt_b26_B16 := B16.out.lt
  have hlt_b26_B17 := B17.out.lt
  have hlt_b26_B20 := B20.out.lt
  have hlt_b26_B22 := B22.out.lt
  have hlt_b26_B24 := B24.out.lt
  replace X5 := Lib.hid (X5.out.below (below_new a18 (.cells #[.int .i64 la, .int .u32 lb, .int .u32 lc] 45)))
  replace MM := Lib.hid (MM.out.below (below_new a18 (.cells #[.int .i64 la, .int .u32 lb, .int .u32 lc] 45)))
  replace B7 := Lib.hid (B7.out.below (below_new a18 (.cells #[.int .i64 la, .int .u32 lb, .int .u32 lc] 45)))
  replace B11 := Lib.hid (B11.out.below (below_new a18 (.cells #[.int .i64 la, .int .u32 lb, .int .u32 lc] 45)))
  replace MN := Lib.hid (MN.out.below (below_new a18 (.cells #[.int .i64 la, .int .u32 lb, .int .u32 lc] 45)))
  replace B13 := Lib.hid (B13.out.below (below_new a18 (.cells #[.int .i64 la, .int .u32 lb, .int .u32 lc] 45)))
  replace B14 := Lib.hid (B14.out.below (below_new a18 (.cells #[.int .i64 la, .int .u32 lb, .int .u32 lc] 45)))
  replace MZ := Lib.hid (MZ.out.below (below_new a18 (.cells #[.int .i64 la, .int .u32 lb, .int .u32 lc] 45)))
  replace B16 := Lib.hid (B16.out.below (below_new a18 (.cells #[.int .i64 la, .int .u32 lb, .int .u32 lc] 45)))
  replace B17 := Lib.hid (B17.out.below (below_new a18 (.cells #[.int .i64 la, .int .u32 lb, .int .u32 lc] 45)))
  replace B20 := Lib.hid (B20.out.below (below_new a18 (.cells #[.int .i64 la, .int .u32 lb, .int .u32 lc] 45)))
  replace B22 := Lib.hid (B22.out.below (below_new a18 (.cells #[.int .i64 la, .int .u32 lb, .int .u32 lc] 45)))
  replace B24 := Lib.hid (B24.out.below (below_new a18 (.cells #[.int .i64 la, .int .u32 lb, .int .u32 lc] 45)))
  replace BB := Lib.hid (BB.out.trans ((below_new a18 (.cells #[.int .i64 la, .int .u32 lb, .int .u32 lc] 45)).mono BB.out.size))
  have B26 := Lib.hid (Box.new a18 #[.int .i64 la, .int .u32 lb, .int .u32 lc] 45 rfl)
  have hsz_b26 : (World.alloc a18 (.cells #[.int .i64 la, .int .u32 lb, .int .u32 lc] 45)).heap.size = (World.heap a18).size + 1 := by simp
  generalize World.alloc a18 (.cells #[.int .i64 la, .int .u32 lb, .int .u32 lc] 45) = a19 at *
  generalize World.heap a18 = hp_b26 at *
  generalize hp_b26.size = b26 at *
  obtain ⟨⟨i0, i1, i2⟩, -⟩ := B14.out.cells3
  obtain ⟨⟨j0, j1, j2⟩, -⟩ := B11.out.cells3
  obtain ⟨⟨r0, r1, r2⟩, -⟩ := B17.out.cells3
  obtain ⟨⟨s0, s1, s2⟩, -⟩ := B26.out.cells3
  obtain ⟨d0, d1, d2, d3, d4, d5, d6, d7⟩ := X5.out.all8
  go_upto_region 18 with fail
  clear i0 i1 i2 j0 j1 j2 r0 r1 r2 s0 s1 s2
  clear d0 d1 d2 d3 d4 d5 d6 d7
  clear B14
  clear B17
  clear B26
  clear B13
  clear B7
  clear MM
  clear MN
  have wL : IntKind.i64.wrap ((L : Int) - 1) = ((L - 1 : Nat) : Int) := by rw [IntWalk.i64_in _ ⟨by omega, by omega⟩]; omega
  replace X5 := Lib.hid (X5.out.below ((Below.refl _ _).drew))
  replace B11 := Lib.hid (B11.out.below ((Below.refl _ _).drew))
  replace MZ := Lib.hid (MZ.out.below ((Below.refl _ _).drew))
  replace B16 := Lib.hid (B16.out.below ((Below.refl _ _).drew))
  replace B20 := Lib.hid (B20.out.below ((Below.refl _ _).drew))
  replace B22 := Lib.hid (B22.out.below ((Below.refl _ _).drew))
  replace B24 := Lib.hid (B24.out.below ((Below.refl _ _).drew))
  replace BB := Lib.hid (BB.out.trans (((Below.refl _ _).drew).mono BB.out.size))
  refine wp_region_held_drew (S := fun w' => w'.cell? ⟨b22, 0, none⟩ = some (.slice hz (L) (L)) ∧ w'.cell? ⟨b20, 0, none⟩ = some (.slice ha L L) ∧ w'.cell? ⟨b24, 0, none⟩ = some (.int .i64 la) ∧ w'.cell? ⟨b24, 1, none⟩ = some (.int .u32 lb) ∧ w'.cell? ⟨b24, 2, none⟩ = some (.int .u32 lc) ∧ w'.cell? ⟨b16, 0, none⟩ = some (.slice z1 n1 n1) ∧ w'.cell? ⟨b16, 1, none⟩ = some (.slice z2 T T) ∧ w'.cell? ⟨b5, 0, none⟩ = some (.int .i64 op) ∧ w'.cell? ⟨b5, 1, none⟩ = some (.int .i64 (p : Int)) ∧ w'.cell? ⟨b5, 2, none⟩ = some (.int .i64 oa) ∧ w'.cell? ⟨b5, 3, none⟩ = some (.int .u32 ob) ∧ w'.cell? ⟨b5, 4, none⟩ = some (.int .u32 oc) ∧ w'.cell? ⟨b5, 5, none⟩ = some (.int .i64 na) ∧ w'.cell? ⟨b5, 6, none⟩ = some (.int .u32 nb) ∧ w'.cell? ⟨b5, 7, none⟩ = some (.int .u32 nc) ∧ w'.cell? ⟨b11, 0, none⟩ = some (.int .i64 la) ∧ w'.cell? ⟨b11, 1, none⟩ = some (.int .u32 lb) ∧ w'.cell? ⟨b11, 2, none⟩ = some (.int .u32 lc)) (by kernel_rfl) ⟨(B22.out.cell 0), (B20.out.cell 0), (B24.out.cell 0), (B24.out.cell 1), (B24.out.cell 2), (B16.out.cell 0), (B16.out.cell 1), (X5.out.cell 0), (X5.out.cell 1), (X5.out.cell 2), (X5.out.cell 3), (X5.out.cell 4), (X5.out.cell 5), (X5.out.cell 6), (X5.out.cell 7), (B11.out.cell 0), (B11.out.cell 1), (B11.out.cell 2)⟩ (fun hHeld => ?_)
  generalize World.drew a19 = V50 at *
  refine wpAnyH_take (i := 0) (oi := { dst := some 173, op := Op.load 65 (Operand.tmp 22), type := 65, pos := "law.go:254", after := #[], guard := none }) (v := ?d51_1xv0) rfl (by kernel_rfl) (by kernel_rfl) (by kernel_rfl) (fun _ _ _ h => h) (Or.inl ⟨by rfl, ?d51_1xy0⟩) (by assumption) ?d51_1xr0
  case d51_1xy0 => (intro w hSw; (try dsimp only at hSw); go_simp; try with_reducible rfl)
  (try simp only [Act.put])
  (try simp only [List.setIfInBounds_toArray])
  (try simp only [List.set_cons_succ])
  (try simp only [List.set_cons_zero])
  refine wpAnyH_take (i := 2) (oi := { dst := some 175, op := Op.load 65 (Operand.tmp 20), type := 65, pos := "law.go:254", after := #[], guard := none }) (v := ?d51_2xv2) rfl (by kernel_rfl) (by kernel_rfl) (by kernel_rfl) (fun _ _ _ h => h) (Or.inl ⟨by rfl, ?d51_2xy2⟩) (by assumption) ?d51_2xr2
  case d51_2xy2 => (intro w hSw; (try dsimp only at hSw); go_simp; try with_reducible rfl)
  (try simp only [Act.put])
  (try simp only [List.setIfInBounds_toArray])
  (try simp only [List.set_cons_succ])
  (try simp only [List.set_cons_zero])
  refine wpAnyH_ready (rs := [1]) (by kernel_rfl) (by simp) ?_
  refine AllReadyH.cons (o := { dst := some 174, op := Op.call { callee := Callee.value (Operand.func 21), args := #[Operand.tmp 173], argTypes := #[65] }, type := 3, pos := "law.go:254", after := #[{ on := 0, ground := Ground.data }], guard := none }) rfl (fun K hK => ?_) AllReadyH.nil
  go_simp
  go_at_call 21
  refine (len_c _ _ _ _).mono ?_
  rintro e v51 ⟨rfl, hb⟩
  replace X5 := Lib.hid (X5.out.below (hb))
  replace B11 := Lib.hid (B11.out.below (hb))
  replace MZ := Lib.hid (MZ.out.below (hb))
  replace B16 := Lib.hid (B16.out.below (hb))
  replace B20 := Lib.hid (B20.out.below (hb))
  replace B22 := Lib.hid (B22.out.below (hb))
  replace B24 := Lib.hid (B24.out.below (hb))
  replace BB := Lib.hid (BB.out.trans ((hb).mono BB.out.size))
  clear hb
  go_simp
  refine hK.out _ _ ?_ (fun hHeld => ?_)
  · exact ⟨(B22.out.cell 0), (B20.out.cell 0), (B24.out.cell 0), (B24.out.cell 1), (B24.out.cell 2), (B16.out.cell 0), (B16.out.cell 1), (X5.out.cell 0), (X5.out.cell 1), (X5.out.cell 2), (X5.out.cell 3), (X5.out.cell 4), (X5.out.cell 5), (X5.out.cell 6), (X5.out.cell 7), (B11.out.cell 0), (B11.out.cell 1), (B11.out.cell 2)⟩
  clear hK K
  (try simp only [Act.put])
  (try simp only [List.setIfInBounds_toArray])
  (try simp only [List.set_cons_succ])
  (try simp only [List.set_cons_zero])
  refine wpAnyH_ready (rs := [3]) (by kernel_rfl) (by simp) ?_
  refine AllReadyH.cons (o := { dst := some 176, op := Op.call { callee := Callee.value (Operand.func 21), args := #[Operand.tmp 175], argTypes := #[65] }, type := 3, pos := "law.go:254", after := #[{ on := 2, ground := Ground.data }, { on := 1, ground := Ground.chain }], guard := none }) rfl (fun K hK => ?_) AllReadyH.nil
  go_simp
  go_at_call 21
  refine (len_c _ _ _ _).mono ?_
  rintro e v52 ⟨rfl, hb⟩
  replace X5 := Lib.hid (X5.out.below (hb))
  replace B11 := Lib.hid (B11.out.below (hb))
  replace MZ := Lib.hid (MZ.out.below (hb))
  replace B16 := Lib.hid (B16.out.below (hb))
  replace B20 := Lib.hid (B20.out.below (hb))
  replace B22 := Lib.hid (B22.out.below (hb))
  replace B24 := Lib.hid (B24.out.below (hb))
  replace BB := Lib.hid (BB.out.trans ((hb).mono BB.out.size))
  clear hb
  go_simp
  refine hK.out _ _ ?_ (fun hHeld => ?_)
  · exact ⟨(B22.out.cell 0), (B20.out.cell 0), (B24.out.cell 0), (B24.out.cell 1), (B24.out.cell 2), (B16.out.cell 0), (B16.out.cell 1), (X5.out.cell 0), (X5.out.cell 1), (X5.out.cell 2), (X5.out.cell 3), (X5.out.cell 4), (X5.out.cell 5), (X5.out.cell 6), (X5.out.cell 7), (B11.out.cell 0), (B11.out.cell 1), (B11.out.cell 2)⟩
  clear hK K
  (try simp only [Act.put])
  (try simp only [List.setIfInBounds_toArray])
  (try simp only [List.set_cons_succ])
  (try simp only [List.set_cons_zero])
  refine wpAnyH_take (i := 4) (oi := { dst := some 177, op := Op.binOp BinOp.eql 3 (Operand.tmp 174) (Operand.tmp 176) 3, type := 4, pos := "law.go:254", after := #[{ on := 1, ground := Ground.data }, { on := 3, ground := Ground.data }], guard := none }) (v := ?d53_3xv4) rfl (by kernel_rfl) (by kernel_rfl) (by kernel_rfl) (fun _ _ _ h => h) (Or.inl ⟨by rfl, ?d53_3xy4⟩) (by assumption) ?d53_3xr4
  case d53_3xy4 => (intro w hSw; (try dsimp only at hSw); go_simp; try with_reducible rfl)
  (try simp only [Act.put])
  (try simp only [List.setIfInBounds_toArray])
  (try simp only [List.set_cons_succ])
  (try simp only [List.set_cons_zero])
  refine wpAnyH_take (i := 5) (oi := { dst := some 178, op := Op.move (Operand.tmp 177), type := 4, pos := "law.go:254", after := #[{ on := 4, ground := Ground.data }, { on := 3, ground := Ground.chain }], guard := none }) (v := ?d53_4xv5) rfl (by kernel_rfl) (by kernel_rfl) (by kernel_rfl) (fun _ _ _ h => h) (Or.inl ⟨by rfl, ?d53_4xy5⟩) (by assumption) ?d53_4xr5
  case d53_4xy5 => (intro w hSw; (try dsimp only at hSw); go_simp; try with_reducible rfl)
  (try simp only [Act.put])
  (try simp only [List.setIfInBounds_toArray])
  (try simp only [List.set_cons_succ])
  (try simp only [List.set_cons_zero])
  refine wpAnyH_take (i := 6) (oi := { dst := some 179, op := Op.load 45 (Operand.tmp 24), type := 45, pos := "law.go:254", after := #[{ on := 5, ground := Ground.guard }], guard := some (5, true) }) (v := ?d53_5xv6) rfl (by kernel_rfl) (by kernel_rfl) (by kernel_rfl) (fun _ _ _ h => h) (Or.inl ⟨by rfl, ?d53_5xy6⟩) (by assumption) ?d53_5xr6
  case d53_5xy6 => (intro w hSw; (try dsimp only at hSw); go_simp; try with_reducible rfl)
  (try simp only [Act.put])
  (try simp only [List.setIfInBounds_toArray])
  (try simp only [List.set_cons_succ])
  (try simp only [List.set_cons_zero])
  refine wpAnyH_take (i := 7) (oi := { dst := some 180, op := Op.load 45 (Operand.tmp 11), type := 45, pos := "law.go:254", after := #[{ on := 5, ground := Ground.guard }], guard := some (5, true) }) (v := ?d53_6xv7) rfl (by kernel_rfl) (by kernel_rfl) (by kernel_rfl) (fun _ _ _ h => h) (Or.inl ⟨by rfl, ?d53_6xy7⟩) (by assumption) ?d53_6xr7
  case d53_6xy7 => (intro w hSw; (try dsimp only at hSw); go_simp; try with_reducible rfl)
  (try simp only [Act.put])
  (try simp only [List.setIfInBounds_toArray])
  (try simp only [List.set_cons_succ])
  (try simp only [List.set_cons_zero])
  refine wpAnyH_take (i := 8) (oi := { dst := some 181, op := Op.binOp BinOp.eql 45 (Operand.tmp 179) (Operand.tmp 180) 45, type := 4, pos := "law.go:254", after := #[{ on := 6, ground := Ground.data }, { on := 7, ground := Ground.data }, { on := 5, ground := Ground.guard }], guard := some (5, true) }) (v := ?d53_7xv8) rfl (by kernel_rfl) (by kernel_rfl) (by kernel_rfl) (fun _ _ _ h => h) (Or.inl ⟨by rfl, ?d53_7xy8⟩) (by assumption) ?d53_7xr8
  case d53_7xy8 => (intro w hSw; (try dsimp only at hSw); go_simp; try with_reducible rfl)
  (try simp only [Act.put])
  (try simp only [List.setIfInBounds_toArray])
  (try simp only [List.set_cons_succ])
  (try simp only [List.set_cons_zero])
  refine wpAnyH_take (i := 9) (oi := { dst := some 182, op := Op.pick (Operand.tmp 178) (Operand.tmp 181) (Operand.const (Value.bool false)), type := 4, pos := "law.go:254", after := #[{ on := 5, ground := Ground.data }, { on := 8, ground := Ground.data }], guard := none }) (v := ?d53_8xv9) rfl (by kernel_rfl) (by kernel_rfl) (by kernel_rfl) (fun _ _ _ h => h) (Or.inl ⟨by rfl, ?d53_8xy9⟩) (by assumption) ?d53_8xr9
  case d53_8xy9 => (intro w hSw; (try dsimp only at hSw); go_simp; try with_reducible rfl)
  (try simp only [Act.put])
  (try simp only [List.setIfInBounds_toArray])
  (try simp only [List.set_cons_succ])
  (try simp only [List.set_cons_zero])
  refine wpAnyH_take (i := 10) (oi := { dst := some 183, op := Op.move (Operand.tmp 182), type := 4, pos := "law.go:254", after := #[{ on := 9, ground := Ground.data }, { on := 5, ground := Ground.chain }], guard := none }) (v := ?d53_9xv10) rfl (by kernel_rfl) (by kernel_rfl) (by kernel_rfl) (fun _ _ _ h => h) (Or.inl ⟨by rfl, ?d53_9xy10⟩) (by assumption) ?d53_9xr10
  case d53_9xy10 => (intro w hSw; (try dsimp only at hSw); go_simp; try with_reducible rfl)
  (try simp only [Act.put])
  (try simp only [List.setIfInBounds_toArray])
  (try simp only [List.set_cons_succ])
  (try simp only [List.set_cons_zero])
  refine wpAnyH_take (i := 11) (oi := { dst := some 184, op := Op.load 31 (Operand.tmp 16), type := 31, pos := "law.go:254", after := #[{ on := 10, ground := Ground.guard }], guard := some (10, true) }) (v := ?d53_10xv11) rfl (by kernel_rfl) (by kernel_rfl) (by kernel_rfl) (fun _ _ _ h => h) (Or.inl ⟨by rfl, ?d53_10xy11⟩) (by assumption) ?d53_10xr11
  case d53_10xy11 => (intro w hSw; (try dsimp only at hSw); go_simp; try with_reducible rfl)
  (try simp only [Act.put])
  (try simp only [List.setIfInBounds_toArray])
  (try simp only [List.set_cons_succ])
  (try simp only [List.set_cons_zero])
  refine wpAnyH_take (i := 12) (oi := { dst := some 185, op := Op.move (Operand.tmp 1), type := 3, pos := "law.go:254", after := #[{ on := 10, ground := Ground.guard }], guard := some (10, true) }) (v := ?d53_11xv12) rfl (by kernel_rfl) (by kernel_rfl) (by kernel_rfl) (fun _ _ _ h => h) (Or.inl ⟨by rfl, ?d53_11xy12⟩) (by assumption) ?d53_11xr12
  case d53_11xy12 => (intro w hSw; (try dsimp only at hSw); go_simp; try with_reducible rfl)
  (try simp only [Act.put])
  (try simp only [List.setIfInBounds_toArray])
  (try simp only [List.set_cons_succ])
  (try simp only [List.set_cons_zero])
  refine wpAnyH_take (i := 14) (oi := { dst := some 187, op := Op.fieldAddr 47 (Operand.tmp 5) 1, type := 0, pos := "law.go:254", after := #[{ on := 10, ground := Ground.guard }], guard := some (10, true) }) (v := ?d53_12xv14) rfl (by kernel_rfl) (by kernel_rfl) (by kernel_rfl) (fun _ _ _ h => h) (Or.inl ⟨by rfl, ?d53_12xy14⟩) (by assumption) ?d53_12xr14
  case d53_12xy14 => (intro w hSw; (try dsimp only at hSw); go_simp; try with_reducible rfl)
  (try simp only [Act.put])
  (try simp only [List.setIfInBounds_toArray])
  (try simp only [List.set_cons_succ])
  (try simp only [List.set_cons_zero])
  refine wpAnyH_take (i := 15) (oi := { dst := some 188, op := Op.load 42 (Operand.tmp 187), type := 42, pos := "law.go:254", after := #[{ on := 14, ground := Ground.data }, { on := 10, ground := Ground.guard }], guard := some (10, true) }) (v := ?d53_13xv15) rfl (by kernel_rfl) (by kernel_rfl) (by kernel_rfl) (fun _ _ _ h => h) (Or.inl ⟨by rfl, ?d53_13xy15⟩) (by assumption) ?d53_13xr15
  case d53_13xy15 => (intro w hSw; (try dsimp only at hSw); go_simp; try with_reducible rfl)
  (try simp only [Act.put])
  (try simp only [List.setIfInBounds_toArray])
  (try simp only [List.set_cons_succ])
  (try simp only [List.set_cons_zero])
  refine wpAnyH_take (i := 17) (oi := { dst := some 190, op := Op.load 65 (Operand.tmp 20), type := 65, pos := "law.go:254", after := #[{ on := 10, ground := Ground.guard }], guard := some (10, true) }) (v := ?d53_14xv17) rfl (by kernel_rfl) (by kernel_rfl) (by kernel_rfl) (fun _ _ _ h => h) (Or.inl ⟨by rfl, ?d53_14xy17⟩) (by assumption) ?d53_14xr17
  case d53_14xy17 => (intro w hSw; (try dsimp only at hSw); go_simp; try with_reducible rfl)
  (try simp only [Act.put])
  (try simp only [List.setIfInBounds_toArray])
  (try simp only [List.set_cons_succ])
  (try simp only [List.set_cons_zero])
  refine wpAnyH_ready (rs := [13]) (by kernel_rfl) (by simp) ?_
  refine AllReadyH.cons (o := { dst := some 186, op := Op.call { callee := Callee.value (Operand.func 18), args := #[Operand.tmp 184, Operand.tmp 185], argTypes := #[31, 3] }, type := 60, pos := "law.go:254", after := #[{ on := 11, ground := Ground.data }, { on := 12, ground := Ground.data }, { on := 10, ground := Ground.chain }, { on := 10, ground := Ground.guard }], guard := some (10, true) }) rfl (fun K hK => ?_) AllReadyH.nil
  go_simp
  go_at_call 18
  refine (seen_ok _ _ Mn k _ MZ.out.mw (by rw [EZ2.out]; exact hk) GZ.out.nv).mono ?_
  rintro e v53 ⟨vp, rfl, hvw, hb⟩
  replace X5 := Lib.hid (X5.out.below (hb))
  replace B11 := Lib.hid (B11.out.below (hb))
  replace MZ := Lib.hid (MZ.out.below (hb))
  replace B16 := Lib.hid (B16.out.below (hb))
  replace B20 := Lib.hid (B20.out.below (hb))
  replace B22 := Lib.hid (B22.out.below (hb))
  replace B24 := Lib.hid (B24.out.below (hb))
  replace BB := Lib.hid (BB.out.trans ((hb).mono BB.out.size))
  clear hb
  have VV := Lib.hid (hvw)
  clear hvw
  go_simp
  refine hK.out _ _ ?_ (fun hHeld => ?_)
  · exact ⟨(B22.out.cell 0), (B20.out.cell 0), (B24.out.cell 0), (B24.out.cell 1), (B24.out.cell 2), (B16.out.cell 0), (B16.out.cell 1), (X5.out.cell 0), (X5.out.cell 1), (X5.out.cell 2), (X5.out.cell 3), (X5.out.cell 4), (X5.out.cell 5), (X5.out.cell 6), (X5.out.cell 7), (B11.out.cell 0), (B11.out.cell 1), (B11.out.cell 2)⟩
  clear hK K
  (try simp only [Act.put])
  (try simp only [List.setIfInBounds_toArray])
  (try simp only [List.set_cons_succ])
  (try simp only [List.set_cons_zero])
  refine wpAnyH_ready (rs := [16]) (by kernel_rfl) (by simp) ?_
  refine AllReadyH.cons (o := { dst := some 189, op := Op.call { callee := Callee.value (Operand.func 19), args := #[Operand.tmp 186, Operand.tmp 188], argTypes := #[60, 42] }, type := 3, pos := "law.go:254", after := #[{ on := 13, ground := Ground.data }, { on := 15, ground := Ground.data }, { on := 13, ground := Ground.chain }, { on := 10, ground := Ground.guard }], guard := some (10, true) }) rfl (fun K hK => ?_) AllReadyH.nil
  go_simp
  go_at_call 19
  refine (at_b _ _ _ _ (by omega) (by omega) VV.out).mono ?_
  rintro e v54 ⟨rfl, hb⟩
  replace X5 := Lib.hid (X5.out.below (hb))
  replace B11 := Lib.hid (B11.out.below (hb))
  replace MZ := Lib.hid (MZ.out.below (hb))
  replace B16 := Lib.hid (B16.out.below (hb))
  replace B20 := Lib.hid (B20.out.below (hb))
  replace B22 := Lib.hid (B22.out.below (hb))
  replace B24 := Lib.hid (B24.out.below (hb))
  replace VV := Lib.hid (VV.out.below (hb))
  replace BB := Lib.hid (BB.out.trans ((hb).mono BB.out.size))
  clear hb
  rw [HSZ.out]
  go_simp
  refine hK.out _ _ ?_ (fun hHeld => ?_)
  · exact ⟨(B22.out.cell 0), (B20.out.cell 0), (B24.out.cell 0), (B24.out.cell 1), (B24.out.cell 2), (B16.out.cell 0), (B16.out.cell 1), (X5.out.cell 0), (X5.out.cell 1), (X5.out.cell 2), (X5.out.cell 3), (X5.out.cell 4), (X5.out.cell 5), (X5.out.cell 6), (X5.out.cell 7), (B11.out.cell 0), (B11.out.cell 1), (B11.out.cell 2)⟩
  clear hK K
  (try simp only [Act.put])
  (try simp only [List.setIfInBounds_toArray])
  (try simp only [List.set_cons_succ])
  (try simp only [List.set_cons_zero])
  refine wpAnyH_ready (rs := [18]) (by kernel_rfl) (by simp) ?_
  refine AllReadyH.cons (o := { dst := some 191, op := Op.call { callee := Callee.value (Operand.func 21), args := #[Operand.tmp 190], argTypes := #[65] }, type := 3, pos := "law.go:254", after := #[{ on := 17, ground := Ground.data }, { on := 16, ground := Ground.chain }, { on := 10, ground := Ground.guard }], guard := some (10, true) }) rfl (fun K hK => ?_) AllReadyH.nil
  go_simp
  go_at_call 21
  refine (len_c _ _ _ _).mono ?_
  rintro e v55 ⟨rfl, hb⟩
  replace X5 := Lib.hid (X5.out.below (hb))
  replace B11 := Lib.hid (B11.out.below (hb))
  replace MZ := Lib.hid (MZ.out.below (hb))
  replace B16 := Lib.hid (B16.out.below (hb))
  replace B20 := Lib.hid (B20.out.below (hb))
  replace B22 := Lib.hid (B22.out.below (hb))
  replace B24 := Lib.hid (B24.out.below (hb))
  replace VV := Lib.hid (VV.out.below (hb))
  replace BB := Lib.hid (BB.out.trans ((hb).mono BB.out.size))
  clear hb
  go_simp
  refine hK.out _ _ ?_ (fun hHeld => ?_)
  · exact ⟨(B22.out.cell 0), (B20.out.cell 0), (B24.out.cell 0), (B24.out.cell 1), (B24.out.cell 2), (B16.out.cell 0), (B16.out.cell 1), (X5.out.cell 0), (X5.out.cell 1), (X5.out.cell 2), (X5.out.cell 3), (X5.out.cell 4), (X5.out.cell 5), (X5.out.cell 6), (X5.out.cell 7), (B11.out.cell 0), (B11.out.cell 1), (B11.out.cell 2)⟩
  clear hK K
  (try simp only [Act.put])
  (try simp only [List.setIfInBounds_toArray])
  (try simp only [List.set_cons_succ])
  (try simp only [List.set_cons_zero])
  refine wpAnyH_take (i := 19) (oi := { dst := some 192, op := Op.binOp BinOp.sub 3 (Operand.tmp 191) (Operand.const (Value.int IntKind.i64 1)) 3, type := 3, pos := "law.go:254", after := #[{ on := 18, ground := Ground.data }, { on := 10, ground := Ground.guard }], guard := some (10, true) }) (v := ?d56_15xv19) rfl (by kernel_rfl) (by kernel_rfl) (by kernel_rfl) (fun _ _ _ h => h) (Or.inl ⟨by rfl, ?d56_15xy19⟩) (by assumption) ?d56_15xr19
  case d56_15xy19 => (intro w hSw; (try dsimp only at hSw); go_simp; try with_reducible rfl)
  (try simp only [Act.put])
  (try simp only [List.setIfInBounds_toArray])
  (try simp only [List.set_cons_succ])
  (try simp only [List.set_cons_zero])
  refine wpAnyH_take (i := 20) (oi := { dst := some 193, op := Op.binOp BinOp.eql 3 (Operand.tmp 189) (Operand.tmp 192) 3, type := 4, pos := "law.go:254", after := #[{ on := 16, ground := Ground.data }, { on := 19, ground := Ground.data }, { on := 10, ground := Ground.guard }], guard := some (10, true) }) (v := ?d56_16xv20) rfl (by kernel_rfl) (by kernel_rfl) (by kernel_rfl) (fun _ _ _ h => h) (Or.inl ⟨by rfl, ?d56_16xy20⟩) (by assumption) ?d56_16xr20
  case d56_16xy20 => (intro w hSw; (try dsimp only at hSw); go_simp; try with_reducible rfl)
  (try simp only [Act.put])
  (try simp only [List.setIfInBounds_toArray])
  (try simp only [List.set_cons_succ])
  (try simp only [List.set_cons_zero])
  refine wpAnyH_take (i := 21) (oi := { dst := some 194, op := Op.pick (Operand.tmp 183) (Operand.tmp 193) (Operand.const (Value.bool false)), type := 4, pos := "law.go:254", after := #[{ on := 10, ground := Ground.data }, { on := 20, ground := Ground.data }], guard := none }) (v := ?d56_17xv21) rfl (by kernel_rfl) (by kernel_rfl) (by kernel_rfl) (fun _ _ _ h => h) (Or.inl ⟨by rfl, ?d56_17xy21⟩) (by assumption) ?d56_17xr21
  case d56_17xy21 => (intro w hSw; (try dsimp only at hSw); go_simp; try with_reducible rfl)
  (try simp only [Act.put])
  (try simp only [List.setIfInBounds_toArray])
  (try simp only [List.set_cons_succ])
  (try simp only [List.set_cons_zero])
  refine wpAnyH_ready (rs := [22]) (by kernel_rfl) (by simp) ?_
  refine AllReadyH.cons (o := { dst := some 6, op := Op.assign (Operand.tmp 194), type := 4, pos := "law.go:254", after := #[{ on := 21, ground := Ground.data }, { on := 18, ground := Ground.chain }, { on := 0, ground := Ground.phase }, { on := 1, ground := Ground.phase }, { on := 2, ground := Ground.phase }, { on := 3, ground := Ground.phase }, { on := 4, ground := Ground.phase }, { on := 5, ground := Ground.phase }, { on := 6, ground := Ground.phase }, { on := 7, ground := Ground.phase }, { on := 8, ground := Ground.phase }, { on := 9, ground := Ground.phase }, { on := 10, ground := Ground.phase }, { on := 11, ground := Ground.phase }, { on := 12, ground := Ground.phase }, { on := 13, ground := Ground.phase }, { on := 14, ground := Ground.phase }, { on := 15, ground := Ground.phase }, { on := 16, ground := Ground.phase }, { on := 17, ground := Ground.phase }, { on := 18, ground := Ground.phase }, { on := 19, ground := Ground.phase }, { on := 20, ground := Ground.phase }, { on := 21, ground := Ground.phase }], guard := none }) rfl (fun K hK => ?_) AllReadyH.nil
  go_simp
  refine hK.out _ _ ?_ (fun hHeld => ?_)
  · exact ⟨(B22.out.cell 0), (B20.out.cell 0), (B24.out.cell 0), (B24.out.cell 1), (B24.out.cell 2), (B16.out.cell 0), (B16.out.cell 1), (X5.out.cell 0), (X5.out.cell 1), (X5.out.cell 2), (X5.out.cell 3), (X5.out.cell 4), (X5.out.cell 5), (X5.out.cell 6), (X5.out.cell 7), (B11.out.cell 0), (B11.out.cell 1), (B11.out.cell 2)⟩
  clear hK K
  (try simp only [Act.put])
  (try simp only [List.setIfInBounds_toArray])
  (try simp only [List.set_cons_succ])
  (try simp only [List.set_cons_zero])
  refine wpAnyH_done (by kernel_rfl) ?_ _
  have F2 := BB.out
  clear X5 B11 MZ B16 B20 B22 B24 VV BB wL
  go_wp2
  go_ret
  exact ⟨by simp, by first | exact F2 | (rw [← hbq]; exact F2)⟩

set_option maxRecDepth 100000 in
set_option maxHeartbeats 6400000 in
theorem newest_hit (T bF oF c1 : Nat) (ws : List Wd) (v : Value) (l : List DoV) (M : Mem) (hM : (newMem T ws).ress l = M) (k p : Nat) (op oa ob oc na nb nc : Int) (w : World) (h0 : 0 < ws.length) (h1 : ws.length ≤ 8) (t0 : 1 ≤ T) (t1 : T ≤ 8)
    (hF : IsWords w (.slice (some ⟨bF, oF, none⟩) ws.length c1) ws) (hd : IsDos w v l) (hl : l.length ≤ 40) (hok : DosOk l) (hk : k < T) (hp : p < ws.length) (hmsg : (M.msg p ((M.hist p).length - 1)).val = oa ∧ (M.msg p ((M.hist p).length - 1)).ver = ob ∧ (M.msg p ((M.hist p).length - 1)).ref = oc) :
    Calls Try.prog 6 #[.agg #[.int .i64 T, .slice (some ⟨bF, oF, none⟩) ws.length c1, v], .int .i64 ((k : Int) + 1), .agg #[.int .i64 op, .int .i64 (p : Int), .int .i64 oa, .int .u32 ob, .int .u32 oc, .int .i64 na, .int .u32 nb, .int .u32 nc]] w fun e w' => e = .returned (.bool true) ∧ Below w.heap.size w w' := by
  obtain ⟨y2, c2, rfl⟩ := hd.slice
  have hg := ress_good (newMem_good T ws (by omega) t1) l
  have hS := ress_sound (newMem_sound T ws) (newMem_good T ws (by omega) t1) l (by omega)
  rw [hM] at hg hS
  obtain ⟨n1, hn1⟩ : ∃ n, ws.length = n := ⟨_, rfl⟩
  obtain ⟨n2, hn2⟩ : ∃ n, l.length = n := ⟨_, rfl⟩
  have e1 : M.hs.length = n1 := by rw [hg.2.1]; simp [newMem, hn1]
  have e2 : M.vs.length = T := by rw [hg.2.2]; simp [newMem]
  have hk' : k < M.vs.length := by omega
  have hp' : p < M.hs.length := by omega
  have hgh := hg.1.hist hp'
  have hnp : p < 4096 := by omega
  have hnp8 : p < 8 := by omega
  have hk8 : k < 8 := by omega
  have hs1 := seen_read hS hk' hp' hgh.1 (by omega) hnp
  obtain ⟨L, hL⟩ : ∃ L, (M.hist p).length = L := ⟨_, rfl⟩
  have hL0 : 0 < L := by omega
  have hL1 : L ≤ 41 := by omega
  obtain ⟨Mn, hMn⟩ : ∃ Mn, M.readAt k p ((M.hist p).length - 1) true = Mn := ⟨_, rfl⟩
  have gn := hg.1.readAt k p ((M.hist p).length - 1) true
  have sn := hS.readAt hk' hp' (i := (M.hist p).length - 1) (by omega) (by omega) true
  have en1 : Mn.hs.length = n1 := by rw [← hMn]; exact e1
  have en2 : Mn.vs.length = T := by rw [← hMn]; simp [Mem.readAt]; exact e2
  have hLn : (Mn.hist p).length = L := by rw [← hMn]; exact hL
  have hwn : Mn.msg p (L - 1) = M.msg p (L - 1) := by rw [← hMn]; rfl
  rw [hMn] at gn sn hs1
  rw [hL] at hs1
  obtain ⟨Mz, hMz⟩ : ∃ Mz, Mn.writeAt k p na nb nc true = Mz := ⟨_, rfl⟩
  have gz := gn.writeAt k p na nb nc true (by rw [en1]; omega)
  have hlw := last_write (k := k) (by rw [en1]; omega : p < Mn.hs.length) na nb nc true
  have hsz := seen_write sn (k := k) (by rw [en2]; exact hk) (by rw [en1]; omega : p < Mn.hs.length) hnp na nb nc true
  have ez1 : Mz.hs.length = n1 := by rw [← hMz, writeAt_len]; exact en1
  have ez2 : Mz.vs.length = T := by rw [← hMz]; simp [Mem.writeAt]; exact en2
  rw [hMz] at gz hlw hsz
  rw [hLn] at hlw hsz
  have hwz := hlw.2
  rw [hlw.1] at hwz
  have hLz := hlw.1
  have hlast : wordV (M.msg p (L - 1)) = .agg #[.int .i64 oa, .int .u32 ob, .int .u32 oc] := by
    rw [hL] at hmsg; unfold wordV; rw [hmsg.1, hmsg.2.1, hmsg.2.2]
  clear hlw
  have HMSG := Lib.hid hmsg
  have HL := Lib.hid hL
  have HMN := Lib.hid hMn
  have HLN := Lib.hid hLn
  have HWN := Lib.hid hwn
  have HLAST := Lib.hid hlast
  have GN := Lib.hid gn
  have EN1 := Lib.hid en1
  have EN2 := Lib.hid en2
  have GZ := Lib.hid gz
  have EZ1 := Lib.hid ez1
  have EZ2 := Lib.hid ez2
  have HLZ := Lib.hid hLz
  have HWZ := Lib.hid hwz
  have HSZ := Lib.hid hsz
  have HKM := Lib.hid hk'
  have HPM := Lib.hid hp'
  have HMZ := Lib.hid hMz
  clear hMz
  clear hmsg hL hMn hLn hwn hlast gn en1 en2 gz ez1 ez2 hLz hwz hsz hs1 sn hgh hk' hp' hS
  have HM := Lib.hid hM
  have HG := Lib.hid hg.1
  have E1 := Lib.hid e1
  have E2 := Lib.hid e2
  have HN1 := Lib.hid hn1
  have HN2 := Lib.hid hn2
  have HOK := Lib.hid hok
  have HW1 := Lib.hid h0
  have hbb := b2 w (.cells #[.int .i64 T, .slice (some ⟨bF, oF, none⟩) n1 c1, .slice y2 n2 c2] 25) (.cells #[.int .i64 op, .int .i64 (p : Int), .int .i64 oa, .int .u32 ob, .int .u32 oc, .int .i64 na, .int .u32 nb, .int .u32 nc] 47)
  have FF := Lib.hid (hF.below hbb)
  have DD := Lib.hid (hd.below hbb)
  have HGL := Lib.hid (show 1 + l.length ≤ 41 by omega)
  rw [hn1] at h0 h1 FF ⊢
  rw [hn2] at hl DD ⊢
  (try rw [hn1] at ha)
  (try rw [hn1] at hp)
  have qN := neqW
  have qE := eqlW
  have X3 := Lib.hid (Box.alloc (Box.new w #[.int .i64 T, .slice (some ⟨bF, oF, none⟩) n1 c1, .slice y2 n2 c2] 25 rfl) (.cells #[.int .i64 op, .int .i64 (p : Int), .int .i64 oa, .int .u32 ob, .int .u32 oc, .int .i64 na, .int .u32 nb, .int .u32 nc] 47))
  have X5 := Lib.hid (Box.new (w.alloc (.cells #[.int .i64 T, .slice (some ⟨bF, oF, none⟩) n1 c1, .slice y2 n2 c2] 25)) #[.int .i64 op, .int .i64 (p : Int), .int .i64 oa, .int .u32 ob, .int .u32 oc, .int .i64 na, .int .u32 nb, .int .u32 nc] 47 (n := w.heap.size + 1) (by simp))
  have BB := Lib.hid hbb
  clear hbb hF hd hok hg hM e1 e2 hn2 
  go_enter Try.func6, Try.ntmps6
  go_wp2_with fail
  generalize (w.alloc (.cells #[.int .i64 T, .slice (some ⟨bF, oF, none⟩) n1 c1, .slice y2 n2 c2] 25)).alloc (.cells #[.int .i64 op, .int .i64 (p : Int), .int .i64 oa, .int .u32 ob, .int .u32 oc, .int .i64 na, .int .u32 nb, .int .u32 nc] 47) = W0 at *
  obtain ⟨b5, hb5⟩ : ∃ br, w.heap.size + 1 = br := ⟨_, rfl⟩
  obtain ⟨b3, hb3⟩ : ∃ bp, w.heap.size = bp := ⟨_, rfl⟩
  have hbq := hb3
  rw [hb5] at X5 ⊢
  rw [hb3] at X3 hb5 ⊢
  refine (awake_any _).mono ?_
  rintro e a0 ⟨rfl, hb⟩
  replace X3 := Lib.hid (X3.out.below (hb))
  replace X5 := Lib.hid (X5.out.below (hb))
  replace FF := Lib.hid (FF.out.below (hb))
  replace DD := Lib.hid (DD.out.below (hb))
  replace BB := Lib.hid (BB.out.trans ((hb).mono BB.out.size))
  clear hb
  obtain ⟨⟨m0, m1, m2⟩, -⟩ := X3.out.cells3
  go_wp2_with fail
  clear m0 m1 m2
  have hbg : Calls Try.prog 16 #[.agg #[.int .i64 T, .slice (some ⟨bF, oF, none⟩) n1 c1, .slice y2 n2 c2]] a0 fun e w' => ∃ pv vv, e = .returned (.tuple #[.agg #[pv, vv], .bool true]) ∧ MD (fun b => a0.heap.size ≤ b) w' pv vv M ∧ Below a0.heap.size a0 w' := by
    rcases FF.out with ⟨a', c', he', hw'⟩ | ⟨b', o', c', he', hbl, hcc⟩
    · exfalso; have hz := HN1.out; rw [hw'] at hz; simp at hz; omega
    · rw [HN1.out] at he'
      simp only [Value.slice.injEq, Option.some.injEq, Addr.mk.injEq, and_true] at he'
      obtain ⟨⟨rfl, rfl⟩, -, rfl⟩ := he'
      have hq := begun_ok T bF oF c1 ws (.slice y2 n2 c2) l a0 HW1.out (by rw [HN1.out]; omega) t0 t1 hbl hcc DD.out (by rw [HN2.out]; omega) HOK.out
      rw [HN1.out, HM.out] at hq
      exact hq
  refine (hbg).mono ?_
  rintro e a1 ⟨pv, vv, rfl, hm, hb⟩
  replace X3 := Lib.hid (X3.out.below (hb))
  replace X5 := Lib.hid (X5.out.below (hb))
  replace FF := Lib.hid (FF.out.below (hb))
  replace DD := Lib.hid (DD.out.below (hb))
  replace BB := Lib.hid (BB.out.trans ((hb).mono BB.out.size))
  clear hb
  have MM := Lib.hid (hm)
  clear hm hbg
  obtain ⟨u1, u2, e1, e2⟩ := MM.out.sl E1.out E2.out
  subst e1 e2
  go_upto_region 4 with fail
  have hlt_b7 := BB.out.size
  have hlt_b7_X3 := X3.out.lt
  have hlt_b7_X5 := X5.out.lt
  replace X3 := Lib.hid (X3.out.below (below_new a1 (.cells #[.slice u1 n1 n1, .slice u2 T T] 31)))
  replace X5 := Lib.hid (X5.out.below (below_new a1 (.cells #[.slice u1 n1 n1, .slice u2 T T] 31)))
  replace FF := Lib.hid (FF.out.below (below_new a1 (.cells #[.slice u1 n1 n1, .slice u2 T T] 31)))
  replace DD := Lib.hid (DD.out.below (below_new a1 (.cells #[.slice u1 n1 n1, .slice u2 T T] 31)))
  replace MM := Lib.hid (MM.out.below (below_new a1 (.cells #[.slice u1 n1 n1, .slice u2 T T] 31)))
  replace BB := Lib.hid (BB.out.trans ((below_new a1 (.cells #[.slice u1 n1 n1, .slice u2 T T] 31)).mono BB.out.size))
  have B7 := Lib.hid (Box.new a1 #[.slice u1 n1 n1, .slice u2 T T] 31 rfl)
  have hsz_b7 : (World.alloc a1 (.cells #[.slice u1 n1 n1, .slice u2 T T] 31)).heap.size = (World.heap a1).size + 1 := by simp
  generalize World.alloc a1 (.cells #[.slice u1 n1 n1, .slice u2 T T] 31) = a2 at *
  generalize World.heap a1 = hp_b7 at *
  generalize hp_b7.size = b7 at *
  clear FF
  clear DD
  clear X3
  obtain ⟨⟨g0, g1⟩, -⟩ := B7.out.cells2
  go_wp2_with fail
  clear g0 g1
  refine (size_any u1 u2 n1 T _).mono ?_
  rintro e a3 ⟨rfl, hb⟩
  replace X5 := Lib.hid (X5.out.below (hb))
  replace MM := Lib.hid (MM.out.below (hb))
  replace B7 := Lib.hid (B7.out.below (hb))
  replace BB := Lib.hid (BB.out.trans ((hb).mono BB.out.size))
  clear hb
  obtain ⟨⟨g0, g1⟩, -⟩ := B7.out.cells2
  obtain ⟨d0, d1, d2, d3, d4, d5, d6, d7⟩ := X5.out.all8
  go_wp2_with fail
  clear g0 g1
  clear d0 d1 d2 d3 d4 d5 d6 d7
  refine (last_ok _ _ M (1 + l.length) p _ MM.out.mw HG.out (by have := HGL.out; omega) HPM.out).mono ?_
  rintro e a4 ⟨rfl, hb⟩
  replace X5 := Lib.hid (X5.out.below (hb))
  replace MM := Lib.hid (MM.out.below (hb))
  replace B7 := Lib.hid (B7.out.below (hb))
  replace BB := Lib.hid (BB.out.trans ((hb).mono BB.out.size))
  clear hb
  rw [HL.out, HLAST.out]
  go_upto_region 8 with fail
  have hlt_b11 := BB.out.size
  have hlt_b11_X5 := X5.out.lt
  have hlt_b11_B7 := B7.out.lt
  replace X5 := Lib.hid (X5.out.below (below_new a4 (.cells #[.int .i64 oa, .int .u32 ob, .int .u32 oc] 45)))
  replace MM := Lib.hid (MM.out.below (below_new a4 (.cells #[.int .i64 oa, .int .u32 ob, .int .u32 oc] 45)))
  replace B7 := Lib.hid (B7.out.below (below_new a4 (.cells #[.int .i64 oa, .int .u32 ob, .int .u32 oc] 45)))
  replace BB := Lib.hid (BB.out.trans ((below_new a4 (.cells #[.int .i64 oa, .int .u32 ob, .int .u32 oc] 45)).mono BB.out.size))
  have B11 := Lib.hid (Box.new a4 #[.int .i64 oa, .int .u32 ob, .int .u32 oc] 45 rfl)
  have hsz_b11 : (World.alloc a4 (.cells #[.int .i64 oa, .int .u32 ob, .int .u32 oc] 45)).heap.size = (World.heap a4).size + 1 := by simp
  generalize World.alloc a4 (.cells #[.int .i64 oa, .int .u32 ob, .int .u32 oc] 45) = a5 at *
  generalize World.heap a4 = hp_b11 at *
  generalize hp_b11.size = b11 at *
  obtain ⟨⟨g0, g1⟩, -⟩ := B7.out.cells2
  obtain ⟨d0, d1, d2, d3, d4, d5, d6, d7⟩ := X5.out.all8
  go_wp2_with fail
  clear g0 g1
  clear d0 d1 d2 d3 d4 d5 d6 d7
  refine (look_ok _ _ M (1 + l.length) k p _ _ MM.out HG.out (by have := HGL.out; omega) HKM.out HPM.out).mono ?_
  rintro e a6 ⟨vv', rfl, hm, hb⟩
  replace X5 := Lib.hid (X5.out.below (hb))
  replace MM := Lib.hid (MM.out.below (hb))
  replace B7 := Lib.hid (B7.out.below (hb))
  replace B11 := Lib.hid (B11.out.below (hb))
  replace BB := Lib.hid (BB.out.trans ((hb).mono BB.out.size))
  clear hb
  have MN := Lib.hid (hm)
  clear hm
  rw [HMN.out] at MN
  rw [HL.out, HLAST.out]
  obtain ⟨_, v2, -, e2⟩ := MN.out.sl EN1.out EN2.out
  subst e2
  go_upto_region 9 with fail
  have hlt_b13 := BB.out.size
  have hlt_b13_X5 := X5.out.lt
  have hlt_b13_B7 := B7.out.lt
  have hlt_b13_B11 := B11.out.lt
  replace X5 := Lib.hid (X5.out.below (below_new a6 (.cells #[.slice u1 n1 n1, .slice v2 T T] 31)))
  replace MM := Lib.hid (MM.out.below (below_new a6 (.cells #[.slice u1 n1 n1, .slice v2 T T] 31)))
  replace B7 := Lib.hid (B7.out.below (below_new a6 (.cells #[.slice u1 n1 n1, .slice v2 T T] 31)))
  replace B11 := Lib.hid (B11.out.below (below_new a6 (.cells #[.slice u1 n1 n1, .slice v2 T T] 31)))
  replace MN := Lib.hid (MN.out.below (below_new a6 (.cells #[.slice u1 n1 n1, .slice v2 T T] 31)))
  replace BB := Lib.hid (BB.out.trans ((below_new a6 (.cells #[.slice u1 n1 n1, .slice v2 T T] 31)).mono BB.out.size))
  have B13 := Lib.hid (Box.new a6 #[.slice u1 n1 n1, .slice v2 T T] 31 rfl)
  have hsz_b13 : (World.alloc a6 (.cells #[.slice u1 n1 n1, .slice v2 T T] 31)).heap.size = (World.heap a6).size + 1 := by simp
  generalize World.alloc a6 (.cells #[.slice u1 n1 n1, .slice v2 T T] 31) = a7 at *
  generalize World.heap a6 = hp_b13 at *
  generalize hp_b13.size = b13 at *
  have hlt_b14 := BB.out.size
  replace X5 := Lib.hid (X5.out.below (below_new a7 (.cells #[.int .i64 oa, .int .u32 ob, .int .u32 oc] 45)))
  replace MM := Lib.hid (MM.out.below (below_new a7 (.cells #[.int .i64 oa, .int .u32 ob, .int .u32 oc] 45)))
  replace B7 := Lib.hid (B7.out.below (below_new a7 (.cells #[.int .i64 oa, .int .u32 ob, .int .u32 oc] 45)))
  replace B11 := Lib.hid (B11.out.below (below_new a7 (.cells #[.int .i64 oa, .int .u32 ob, .int .u32 oc] 45)))
  replace MN := Lib.hid (MN.out.below (below_new a7 (.cells #[.int .i64 oa, .int .u32 ob, .int .u32 oc] 45)))
  replace B13 := Lib.hid (B13.out.below (below_new a7 (.cells #[.int .i64 oa, .int .u32 ob, .int .u32 oc] 45)))
  replace BB := Lib.hid (BB.out.trans ((below_new a7 (.cells #[.int .i64 oa, .int .u32 ob, .int .u32 oc] 45)).mono BB.out.size))
  have B14 := Lib.hid (Box.new a7 #[.int .i64 oa, .int .u32 ob, .int .u32 oc] 45 (n := b13 + 1) hsz_b13.symm)
  have hsz_b14 : (World.alloc a7 (.cells #[.int .i64 oa, .int .u32 ob, .int .u32 oc] 45)).heap.size = b13 + 1 + 1 := by simp [hsz_b13]
  rw [hsz_b13] at hlt_b14
  generalize World.alloc a7 (.cells #[.int .i64 oa, .int .u32 ob, .int .u32 oc] 45) = a8 at *
  obtain ⟨b14, hq_b14⟩ : ∃ b, b13 + 1 = b := ⟨_, rfl⟩
  rw [hq_b14] at B14 hsz_b14 ⊢
  obtain ⟨⟨g0, g1⟩, -⟩ := B7.out.cells2
  obtain ⟨d0, d1, d2, d3, d4, d5, d6, d7⟩ := X5.out.all8
  go_wp2_with fail
  clear g0 g1
  clear d0 d1 d2 d3 d4 d5 d6 d7
  refine (swap_hit _ _ M (1 + l.length) k p oa ob oc na nb nc _ _ MM.out HG.out (by have := HGL.out; omega) HKM.out HPM.out HMSG.out).mono ?_
  rintro e a9 ⟨pz, vz, rfl, hm, hb⟩
  replace X5 := Lib.hid (X5.out.below (hb))
  replace MM := Lib.hid (MM.out.below (hb))
  replace B7 := Lib.hid (B7.out.below (hb))
  replace B11 := Lib.hid (B11.out.below (hb))
  replace MN := Lib.hid (MN.out.below (hb))
  replace B13 := Lib.hid (B13.out.below (hb))
  replace B14 := Lib.hid (B14.out.below (hb))
  replace BB := Lib.hid (BB.out.trans ((hb).mono BB.out.size))
  clear hb
  have MZ := Lib.hid (hm)
  clear hm
  rw [HMN.out, HMZ.out] at MZ
  rw [HL.out, HLAST.out]
  obtain ⟨z1, z2, e1, e2⟩ := MZ.out.sl EZ1.out EZ2.out
  subst e1 e2
  go_upto_region 10 with fail
  have hlt_b16 := BB.out.size
  have hlt_b16_X5 := X5.out.lt
  have hlt_b16_B7 := B7.out.lt
  have hlt_b16_B11 := B11.out.lt
  have hlt_b16_B13 := B13.out.lt
  have hlt_b16_B14 := B14.out.lt
  replace X5 := Lib.hid (X5.out.below (below_new a9 (.cells #[.slice z1 n1 n1, .slice z2 T T] 31)))
  replace MM := Lib.hid (MM.out.below (below_new a9 (.cells #[.slice z1 n1 n1, .slice z2 T T] 31)))
  replace B7 := Lib.hid (B7.out.below (below_new a9 (.cells #[.slice z1 n1 n1, .slice z2 T T] 31)))
  replace B11 := Lib.hid (B11.out.below (below_new a9 (.cells #[.slice z1 n1 n1, .slice z2 T T] 31)))
  replace MN := Lib.hid (MN.out.below (below_new a9 (.cells #[.slice z1 n1 n1, .slice z2 T T] 31)))
  replace B13 := Lib.hid (B13.out.below (below_new a9 (.cells #[.slice z1 n1 n1, .slice z2 T T] 31)))
  replace B14 := Lib.hid (B14.out.below (below_new a9 (.cells #[.slice z1 n1 n1, .slice z2 T T] 31)))
  replace MZ := Lib.hid (MZ.out.below (below_new a9 (.cells #[.slice z1 n1 n1, .slice z2 T T] 31)))
  replace BB := Lib.hid (BB.out.trans ((below_new a9 (.cells #[.slice z1 n1 n1, .slice z2 T T] 31)).mono BB.out.size))
  have B16 := Lib.hid (Box.new a9 #[.slice z1 n1 n1, .slice z2 T T] 31 rfl)
  have hsz_b16 : (World.alloc a9 (.cells #[.slice z1 n1 n1, .slice z2 T T] 31)).heap.size = (World.heap a9).size + 1 := by simp
  generalize World.alloc a9 (.cells #[.slice z1 n1 n1, .slice z2 T T] 31) = a10 at *
  generalize World.heap a9 = hp_b16 at *
  generalize hp_b16.size = b16 at *
  have hlt_b17 := BB.out.size
  replace X5 := Lib.hid (X5.out.below (below_new a10 (.cells #[.int .i64 oa, .int .u32 ob, .int .u32 oc] 45)))
  replace MM := Lib.hid (MM.out.below (below_new a10 (.cells #[.int .i64 oa, .int .u32 ob, .int .u32 oc] 45)))
  replace B7 := Lib.hid (B7.out.below (below_new a10 (.cells #[.int .i64 oa, .int .u32 ob, .int .u32 oc] 45)))
  replace B11 := Lib.hid (B11.out.below (below_new a10 (.cells #[.int .i64 oa, .int .u32 ob, .int .u32 oc] 45)))
  replace MN := Lib.hid (MN.out.below (below_new a10 (.cells #[.int .i64 oa, .int .u32 ob, .int .u32 oc] 45)))
  replace B13 := Lib.hid (B13.out.below (below_new a10 (.cells #[.int .i64 oa, .int .u32 ob, .int .u32 oc] 45)))
  replace B14 := Lib.hid (B14.out.below (below_new a10 (.cells #[.int .i64 oa, .int .u32 ob, .int .u32 oc] 45)))
  replace MZ := Lib.hid (MZ.out.below (below_new a10 (.cells #[.int .i64 oa, .int .u32 ob, .int .u32 oc] 45)))
  replace B16 := Lib.hid (B16.out.below (below_new a10 (.cells #[.int .i64 oa, .int .u32 ob, .int .u32 oc] 45)))
  replace BB := Lib.hid (BB.out.trans ((below_new a10 (.cells #[.int .i64 oa, .int .u32 ob, .int .u32 oc] 45)).mono BB.out.size))
  have B17 := Lib.hid (Box.new a10 #[.int .i64 oa, .int .u32 ob, .int .u32 oc] 45 (n := b16 + 1) hsz_b16.symm)
  have hsz_b17 : (World.alloc a10 (.cells #[.int .i64 oa, .int .u32 ob, .int .u32 oc] 45)).heap.size = b16 + 1 + 1 := by simp [hsz_b16]
  rw [hsz_b16] at hlt_b17
  generalize World.alloc a10 (.cells #[.int .i64 oa, .int .u32 ob, .int .u32 oc] 45) = a11 at *
  obtain ⟨b17, hq_b17⟩ : ∃ b, b16 + 1 = b := ⟨_, rfl⟩
  rw [hq_b17] at B17 hsz_b17 ⊢
  obtain ⟨⟨g0, g1⟩, -⟩ := B7.out.cells2
  obtain ⟨d0, d1, d2, d3, d4, d5, d6, d7⟩ := X5.out.all8
  go_wp2_with fail
  clear g0 g1
  clear d0 d1 d2 d3 d4 d5 d6 d7
  refine (history_ok _ _ M p _ MM.out.mw HPM.out HG.out.np).mono ?_
  rintro e a12 ⟨ha, q, rfl, hq, hhw, hb⟩
  replace X5 := Lib.hid (X5.out.below (hb))
  replace MM := Lib.hid (MM.out.below (hb))
  replace B7 := Lib.hid (B7.out.below (hb))
  replace B11 := Lib.hid (B11.out.below (hb))
  replace MN := Lib.hid (MN.out.below (hb))
  replace B13 := Lib.hid (B13.out.below (hb))
  replace B14 := Lib.hid (B14.out.below (hb))
  replace MZ := Lib.hid (MZ.out.below (hb))
  replace B16 := Lib.hid (B16.out.below (hb))
  replace B17 := Lib.hid (B17.out.below (hb))
  replace BB := Lib.hid (BB.out.trans ((hb).mono BB.out.size))
  clear hb
  clear hq hhw
  rw [HL.out]
  go_upto_region 11 with fail
  have hlt_b20 := BB.out.size
  have hlt_b20_X5 := X5.out.lt
  have hlt_b20_B7 := B7.out.lt
  have hlt_b20_B11 := B11.out.lt
  have hlt_b20_B13 := B13.out.lt
  have hlt_b20_B14 := B14.out.lt
  have hlt_b20_B16 := B16.out.lt
  have hlt_b20_B17 := B17.out.lt
  replace X5 := Lib.hid (X5.out.below (below_new a12 (.cells #[.slice ha L L] 65)))
  replace MM := Lib.hid (MM.out.below (below_new a12 (.cells #[.slice ha L L] 65)))
  replace B7 := Lib.hid (B7.out.below (below_new a12 (.cells #[.slice ha L L] 65)))
  replace B11 := Lib.hid (B11.out.below (below_new a12 (.cells #[.slice ha L L] 65)))
  replace MN := Lib.hid (MN.out.below (below_new a12 (.cells #[.slice ha L L] 65)))
  replace B13 := Lib.hid (B13.out.below (below_new a12 (.cells #[.slice ha L L] 65)))
  replace B14 := Lib.hid (B14.out.below (below_new a12 (.cells #[.slice ha L L] 65)))
  replace MZ := Lib.hid (MZ.out.below (below_new a12 (.cells #[.slice ha L L] 65)))
  replace B16 := Lib.hid (B16.out.below (below_new a12 (.cells #[.slice ha L L] 65)))
  replace B17 := Lib.hid (B17.out.below (below_new a12 (.cells #[.slice ha L L] 65)))
  replace BB := Lib.hid (BB.out.trans ((below_new a12 (.cells #[.slice ha L L] 65)).mono BB.out.size))
  have B20 := Lib.hid (Box.new a12 #[.slice ha L L] 65 rfl)
  have hsz_b20 : (World.alloc a12 (.cells #[.slice ha L L] 65)).heap.size = (World.heap a12).size + 1 := by simp
  generalize World.alloc a12 (.cells #[.slice ha L L] 65) = a13 at *
  generalize World.heap a12 = hp_b20 at *
  generalize hp_b20.size = b20 at *
  obtain ⟨⟨g0, g1⟩, -⟩ := B16.out.cells2
  obtain ⟨d0, d1, d2, d3, d4, d5, d6, d7⟩ := X5.out.all8
  go_wp2_with fail
  clear g0 g1
  clear d0 d1 d2 d3 d4 d5 d6 d7
  refine (history_ok _ _ Mz p _ MZ.out.mw (by rw [EZ1.out]; omega) GZ.out.np).mono ?_
  rintro e a14 ⟨hz, q, rfl, hq, hhw, hb⟩
  replace X5 := Lib.hid (X5.out.below (hb))
  replace MM := Lib.hid (MM.out.below (hb))
  replace B7 := Lib.hid (B7.out.below (hb))
  replace B11 := Lib.hid (B11.out.below (hb))
  replace MN := Lib.hid (MN.out.below (hb))
  replace B13 := Lib.hid (B13.out.below (hb))
  replace B14 := Lib.hid (B14.out.below (hb))
  replace MZ := Lib.hid (MZ.out.below (hb))
  replace B16 := Lib.hid (B16.out.below (hb))
  replace B17 := Lib.hid (B17.out.below (hb))
  replace B20 := Lib.hid (B20.out.below (hb))
  replace BB := Lib.hid (BB.out.trans ((hb).mono BB.out.size))
  clear hb
  clear hq hhw
  rw [HLZ.out]
  go_upto_region 12 with fail
  have hlt_b22 := BB.out.size
  have hlt_b22_X5 := X5.out.lt
  have hlt_b22_B7 := B7.out.lt
  have hlt_b22_B11 := B11.out.lt
  have hlt_b22_B13 := B13.out.lt
  have hlt_b22_B14 := B14.out.lt
  have hlt_b22_B16 := B16.out.lt
  have hlt_b22_B17 := B17.out.lt
  have hlt_b22_B20 := B20.out.lt
  replace X5 := Lib.hid (X5.out.below (below_new a14 (.cells #[.slice hz (L + 1) (L + 1)] 65)))
  replace MM := Lib.hid (MM.out.below (below_new a14 (.cells #[.slice hz (L + 1) (L + 1)] 65)))
  replace B7 := Lib.hid (B7.out.below (below_new a14 (.cells #[.slice hz (L + 1) (L + 1)] 65)))
  replace B11 := Lib.hid (B11.out.below (below_new a14 (.cells #[.slice hz (L + 1) (L + 1)] 65)))
  replace MN := Lib.hid (MN.out.below (below_new a14 (.cells #[.slice hz (L + 1) (L + 1)] 65)))
  replace B13 := Lib.hid (B13.out.below (below_new a14 (.cells #[.slice hz (L + 1) (L + 1)] 65)))
  replace B14 := Lib.hid (B14.out.below (below_new a14 (.cells #[.slice hz (L + 1) (L + 1)] 65)))
  replace MZ := Lib.hid (MZ.out.below (below_new a14 (.cells #[.slice hz (L + 1) (L + 1)] 65)))
  replace B16 := Lib.hid (B16.out.below (below_new a14 (.cells #[.slice hz (L + 1) (L + 1)] 65)))
  replace B17 := Lib.hid (B17.out.below (below_new a14 (.cells #[.slice hz (L + 1) (L + 1)] 65)))
  replace B20 := Lib.hid (B20.out.below (below_new a14 (.cells #[.slice hz (L + 1) (L + 1)] 65)))
  replace BB := Lib.hid (BB.out.trans ((below_new a14 (.cells #[.slice hz (L + 1) (L + 1)] 65)).mono BB.out.size))
  have B22 := Lib.hid (Box.new a14 #[.slice hz (L + 1) (L + 1)] 65 rfl)
  have hsz_b22 : (World.alloc a14 (.cells #[.slice hz (L + 1) (L + 1)] 65)).heap.size = (World.heap a14).size + 1 := by simp
  generalize World.alloc a14 (.cells #[.slice hz (L + 1) (L + 1)] 65) = a15 at *
  generalize World.heap a14 = hp_b22 at *
  generalize hp_b22.size = b22 at *
  obtain ⟨⟨g0, g1⟩, -⟩ := B16.out.cells2
  obtain ⟨d0, d1, d2, d3, d4, d5, d6, d7⟩ := X5.out.all8
  go_wp2_with fail
  clear g0 g1
  clear d0 d1 d2 d3 d4 d5 d6 d7
  refine (last_ok _ _ Mz (1 + l.length + 1) p _ MZ.out.mw GZ.out (by have := HGL.out; omega) (by rw [EZ1.out]; omega)).mono ?_
  rintro e a16 ⟨rfl, hb⟩
  replace X5 := Lib.hid (X5.out.below (hb))
  replace MM := Lib.hid (MM.out.below (hb))
  replace B7 := Lib.hid (B7.out.below (hb))
  replace B11 := Lib.hid (B11.out.below (hb))
  replace MN := Lib.hid (MN.out.below (hb))
  replace B13 := Lib.hid (B13.out.below (hb))
  replace B14 := Lib.hid (B14.out.below (hb))
  replace MZ := Lib.hid (MZ.out.below (hb))
  replace B16 := Lib.hid (B16.out.below (hb))
  replace B17 := Lib.hid (B17.out.below (hb))
  replace B20 := Lib.hid (B20.out.below (hb))
  replace B22 := Lib.hid (B22.out.below (hb))
  replace BB := Lib.hid (BB.out.trans ((hb).mono BB.out.size))
  clear hb
  rw [HLZ.out, HWZ.out]
  go_upto_region 13 with fail
  have hlt_b24 := BB.out.size
  have hlt_b24_X5 := X5.out.lt
  have hlt_b24_B7 := B7.out.lt
  have hlt_b24_B11 := B11.out.lt
  have hlt_b24_B13 := B13.out.lt
  have hlt_b24_B14 := B14.out.lt
  have hlt_b24_B16 := B16.out.lt
  have hlt_b24_B17 := B17.out.lt
  have hlt_b24_B20 := B20.out.lt
  have hlt_b24_B22 := B22.out.lt
  replace X5 := Lib.hid (X5.out.below (below_new a16 (.cells #[.int .i64 na, .int .u32 nb, .int .u32 nc] 45)))
  replace MM := Lib.hid (MM.out.below (below_new a16 (.cells #[.int .i64 na, .int .u32 nb, .int .u32 nc] 45)))
  replace B7 := Lib.hid (B7.out.below (below_new a16 (.cells #[.int .i64 na, .int .u32 nb, .int .u32 nc] 45)))
  replace B11 := Lib.hid (B11.out.below (below_new a16 (.cells #[.int .i64 na, .int .u32 nb, .int .u32 nc] 45)))
  replace MN := Lib.hid (MN.out.below (below_new a16 (.cells #[.int .i64 na, .int .u32 nb, .int .u32 nc] 45)))
  replace B13 := Lib.hid (B13.out.below (below_new a16 (.cells #[.int .i64 na, .int .u32 nb, .int .u32 nc] 45)))
  replace B14 := Lib.hid (B14.out.below (below_new a16 (.cells #[.int .i64 na, .int .u32 nb, .int .u32 nc] 45)))
  replace MZ := Lib.hid (MZ.out.below (below_new a16 (.cells #[.int .i64 na, .int .u32 nb, .int .u32 nc] 45)))
  replace B16 := Lib.hid (B16.out.below (below_new a16 (.cells #[.int .i64 na, .int .u32 nb, .int .u32 nc] 45)))
  replace B17 := Lib.hid (B17.out.below (below_new a16 (.cells #[.int .i64 na, .int .u32 nb, .int .u32 nc] 45)))
  replace B20 := Lib.hid (B20.out.below (below_new a16 (.cells #[.int .i64 na, .int .u32 nb, .int .u32 nc] 45)))
  replace B22 := Lib.hid (B22.out.below (below_new a16 (.cells #[.int .i64 na, .int .u32 nb, .int .u32 nc] 45)))
  replace BB := Lib.hid (BB.out.trans ((below_new a16 (.cells #[.int .i64 na, .int .u32 nb, .int .u32 nc] 45)).mono BB.out.size))
  have B24 := Lib.hid (Box.new a16 #[.int .i64 na, .int .u32 nb, .int .u32 nc] 45 rfl)
  have hsz_b24 : (World.alloc a16 (.cells #[.int .i64 na, .int .u32 nb, .int .u32 nc] 45)).heap.size = (World.heap a16).size + 1 := by simp
  generalize World.alloc a16 (.cells #[.int .i64 na, .int .u32 nb, .int .u32 nc] 45) = a17 at *
  generalize World.heap a16 = hp_b24 at *
  generalize hp_b24.size = b24 at *
  obtain ⟨⟨g0, g1⟩, -⟩ := B13.out.cells2
  obtain ⟨d0, d1, d2, d3, d4, d5, d6, d7⟩ := X5.out.all8
  go_wp2_with fail
  clear g0 g1
  clear d0 d1 d2 d3 d4 d5 d6 d7
  refine (last_ok _ _ Mn (1 + l.length) p _ MN.out.mw GN.out (by have := HGL.out; omega) (by rw [EN1.out]; omega)).mono ?_
  rintro e a18 ⟨rfl, hb⟩
  replace X5 := Lib.hid (X5.out.below (hb))
  replace MM := Lib.hid (MM.out.below (hb))
  replace B7 := Lib.hid (B7.out.below (hb))
  replace B11 := Lib.hid (B11.out.below (hb))
  replace MN := Lib.hid (MN.out.below (hb))
  replace B13 := Lib.hid (B13.out.below (hb))
  replace B14 := Lib.hid (B14.out.below (hb))
  replace MZ := Lib.hid (MZ.out.below (hb))
  replace B16 := Lib.hid (B16.out.below (hb))
  replace B17 := Lib.hid (B17.out.below (hb))
  replace B20 := Lib.hid (B20.out.below (hb))
  replace B22 := Lib.hid (B22.out.below (hb))
  replace B24 := Lib.hid (B24.out.below (hb))
  replace BB := Lib.hid (BB.out.trans ((hb).mono BB.out.size))
  clear hb
  rw [HLN.out, HWN.out, HLAST.out]
  go_upto_region 14 with fail
  have hlt_b26 := BB.out.size
  have hlt_b26_X5 := X5.out.lt
  have hlt_b26_B7 := B7.out.lt
  have hlt_b26_B11 := B11.out.lt
  have hlt_b26_B13 := B13.out.lt
  have hlt_b26_B14 := B14.out.lt
  have hlt_b26_B16 := B16.out.lt
  have hlt_b26_B17 := B17.out.lt
  have hlt_b26_B20 := B20.out.lt
  have hlt_b26_B22 := B22.out.lt
  have hlt_b26_B24 := B24.out.lt
  replace X5 := Lib.hid (X5.out.below (below_new a18 (.cells #[.int .i64 oa, .int .u32 ob, .int .u32 oc] 45)))
  replace MM := Lib.hid (MM.out.below (below_new a18 (.cells #[.int .i64 oa, .int .u32 ob, .int .u32 oc] 45)))
  replace B7 := Lib.hid (B7.out.below (below_new a18 (.cells #[.int .i64 oa, .int .u32 ob, .int .u32 oc] 45)))
  replace B11 := Lib.hid (B11.out.below (below_new a18 (.cells #[.int .i64 oa, .int .u32 ob, .int .u32 oc] 45)))
  replace MN := Lib.hid (MN.out.below (below_new a18 (.cells #[.int .i64 oa, .int .u32 ob, .int .u32 oc] 45)))
  replace B13 := Lib.hid (B13.out.below (below_new a18 (.cells #[.int .i64 oa, .int .u32 ob, .int .u32 oc] 45)))
  replace B14 := Lib.hid (B14.out.below (below_new a18 (.cells #[.int .i64 oa, .int .u32 ob, .int .u32 oc] 45)))
  replace MZ := Lib.hid (MZ.out.below (below_new a18 (.cells #[.int .i64 oa, .int .u32 ob, .int .u32 oc] 45)))
  replace B16 := Lib.hid (B16.out.below (below_new a18 (.cells #[.int .i64 oa, .int .u32 ob, .int .u32 oc] 45)))
  replace B17 := Lib.hid (B17.out.below (below_new a18 (.cells #[.int .i64 oa, .int .u32 ob, .int .u32 oc] 45)))
  replace B20 := Lib.hid (B20.out.below (below_new a18 (.cells #[.int .i64 oa, .int .u32 ob, .int .u32 oc] 45)))
  replace B22 := Lib.hid (B22.out.below (below_new a18 (.cells #[.int .i64 oa, .int .u32 ob, .int .u32 oc] 45)))
  replace B24 := Lib.hid (B24.out.below (below_new a18 (.cells #[.int .i64 oa, .int .u32 ob, .int .u32 oc] 45)))
  replace BB := Lib.hid (BB.out.trans ((below_new a18 (.cells #[.int .i64 oa, .int .u32 ob, .int .u32 oc] 45)).mono BB.out.size))
  have B26 := Lib.hid (Box.new a18 #[.int .i64 oa, .int .u32 ob, .int .u32 oc] 45 rfl)
  have hsz_b26 : (World.alloc a18 (.cells #[.int .i64 oa, .int .u32 ob, .int .u32 oc] 45)).heap.size = (World.heap a18).size + 1 := by simp
  generalize World.alloc a18 (.cells #[.int .i64 oa, .int .u32 ob, .int .u32 oc] 45) = a19 at *
  generalize World.heap a18 = hp_b26 at *
  generalize hp_b26.size = b26 at *
  obtain ⟨⟨i0, i1, i2⟩, -⟩ := B14.out.cells3
  obtain ⟨⟨j0, j1, j2⟩, -⟩ := B11.out.cells3
  obtain ⟨⟨r0, r1, r2⟩, -⟩ := B17.out.cells3
  obtain ⟨⟨s0, s1, s2⟩, -⟩ := B26.out.cells3
  obtain ⟨d0, d1, d2, d3, d4, d5, d6, d7⟩ := X5.out.all8
  go_upto_region 17 with fail
  clear i0 i1 i2 j0 j1 j2 r0 r1 r2 s0 s1 s2
  clear d0 d1 d2 d3 d4 d5 d6 d7
  clear B14
  clear B17
  clear B26
  clear B13
  clear B7
  clear MM
  clear MN
  clear B11
  have wL : IntKind.i64.wrap ((L : Int) + 1) = ((L + 1 : Nat) : Int) := by rw [IntWalk.i64_in _ ⟨by omega, by omega⟩]; omega
  replace X5 := Lib.hid (X5.out.below ((Below.refl _ _).drew))
  replace MZ := Lib.hid (MZ.out.below ((Below.refl _ _).drew))
  replace B16 := Lib.hid (B16.out.below ((Below.refl _ _).drew))
  replace B20 := Lib.hid (B20.out.below ((Below.refl _ _).drew))
  replace B22 := Lib.hid (B22.out.below ((Below.refl _ _).drew))
  replace B24 := Lib.hid (B24.out.below ((Below.refl _ _).drew))
  replace BB := Lib.hid (BB.out.trans (((Below.refl _ _).drew).mono BB.out.size))
  refine wp_region_held_drew (S := fun w' => w'.cell? ⟨b22, 0, none⟩ = some (.slice hz (L + 1) (L + 1)) ∧ w'.cell? ⟨b20, 0, none⟩ = some (.slice ha L L) ∧ w'.cell? ⟨b24, 0, none⟩ = some (.int .i64 na) ∧ w'.cell? ⟨b24, 1, none⟩ = some (.int .u32 nb) ∧ w'.cell? ⟨b24, 2, none⟩ = some (.int .u32 nc) ∧ w'.cell? ⟨b16, 0, none⟩ = some (.slice z1 n1 n1) ∧ w'.cell? ⟨b16, 1, none⟩ = some (.slice z2 T T) ∧ w'.cell? ⟨b5, 0, none⟩ = some (.int .i64 op) ∧ w'.cell? ⟨b5, 1, none⟩ = some (.int .i64 (p : Int)) ∧ w'.cell? ⟨b5, 2, none⟩ = some (.int .i64 oa) ∧ w'.cell? ⟨b5, 3, none⟩ = some (.int .u32 ob) ∧ w'.cell? ⟨b5, 4, none⟩ = some (.int .u32 oc) ∧ w'.cell? ⟨b5, 5, none⟩ = some (.int .i64 na) ∧ w'.cell? ⟨b5, 6, none⟩ = some (.int .u32 nb) ∧ w'.cell? ⟨b5, 7, none⟩ = some (.int .u32 nc)) (by kernel_rfl) ⟨(B22.out.cell 0), (B20.out.cell 0), (B24.out.cell 0), (B24.out.cell 1), (B24.out.cell 2), (B16.out.cell 0), (B16.out.cell 1), (X5.out.cell 0), (X5.out.cell 1), (X5.out.cell 2), (X5.out.cell 3), (X5.out.cell 4), (X5.out.cell 5), (X5.out.cell 6), (X5.out.cell 7)⟩ (fun hHeld => ?_)
  generalize World.drew a19 = V50 at *
  refine wpAnyH_take (i := 0) (oi := { dst := some 150, op := Op.load 65 (Operand.tmp 22), type := 65, pos := "law.go:252", after := #[], guard := none }) (v := ?d51_1xv0) rfl (by kernel_rfl) (by kernel_rfl) (by kernel_rfl) (fun _ _ _ h => h) (Or.inl ⟨by rfl, ?d51_1xy0⟩) (by assumption) ?d51_1xr0
  case d51_1xy0 => (intro w hSw; (try dsimp only at hSw); go_simp; try with_reducible rfl)
  (try simp only [Act.put])
  (try simp only [List.setIfInBounds_toArray])
  (try simp only [List.set_cons_succ])
  (try simp only [List.set_cons_zero])
  refine wpAnyH_take (i := 2) (oi := { dst := some 152, op := Op.load 65 (Operand.tmp 20), type := 65, pos := "law.go:252", after := #[], guard := none }) (v := ?d51_2xv2) rfl (by kernel_rfl) (by kernel_rfl) (by kernel_rfl) (fun _ _ _ h => h) (Or.inl ⟨by rfl, ?d51_2xy2⟩) (by assumption) ?d51_2xr2
  case d51_2xy2 => (intro w hSw; (try dsimp only at hSw); go_simp; try with_reducible rfl)
  (try simp only [Act.put])
  (try simp only [List.setIfInBounds_toArray])
  (try simp only [List.set_cons_succ])
  (try simp only [List.set_cons_zero])
  refine wpAnyH_ready (rs := [1]) (by kernel_rfl) (by simp) ?_
  refine AllReadyH.cons (o := { dst := some 151, op := Op.call { callee := Callee.value (Operand.func 21), args := #[Operand.tmp 150], argTypes := #[65] }, type := 3, pos := "law.go:252", after := #[{ on := 0, ground := Ground.data }], guard := none }) rfl (fun K hK => ?_) AllReadyH.nil
  go_simp
  go_at_call 21
  refine (len_c _ _ _ _).mono ?_
  rintro e v51 ⟨rfl, hb⟩
  replace X5 := Lib.hid (X5.out.below (hb))
  replace MZ := Lib.hid (MZ.out.below (hb))
  replace B16 := Lib.hid (B16.out.below (hb))
  replace B20 := Lib.hid (B20.out.below (hb))
  replace B22 := Lib.hid (B22.out.below (hb))
  replace B24 := Lib.hid (B24.out.below (hb))
  replace BB := Lib.hid (BB.out.trans ((hb).mono BB.out.size))
  clear hb
  go_simp
  refine hK.out _ _ ?_ (fun hHeld => ?_)
  · exact ⟨(B22.out.cell 0), (B20.out.cell 0), (B24.out.cell 0), (B24.out.cell 1), (B24.out.cell 2), (B16.out.cell 0), (B16.out.cell 1), (X5.out.cell 0), (X5.out.cell 1), (X5.out.cell 2), (X5.out.cell 3), (X5.out.cell 4), (X5.out.cell 5), (X5.out.cell 6), (X5.out.cell 7)⟩
  clear hK K
  (try simp only [Act.put])
  (try simp only [List.setIfInBounds_toArray])
  (try simp only [List.set_cons_succ])
  (try simp only [List.set_cons_zero])
  refine wpAnyH_ready (rs := [3]) (by kernel_rfl) (by simp) ?_
  refine AllReadyH.cons (o := { dst := some 153, op := Op.call { callee := Callee.value (Operand.func 21), args := #[Operand.tmp 152], argTypes := #[65] }, type := 3, pos := "law.go:252", after := #[{ on := 2, ground := Ground.data }, { on := 1, ground := Ground.chain }], guard := none }) rfl (fun K hK => ?_) AllReadyH.nil
  go_simp
  go_at_call 21
  refine (len_c _ _ _ _).mono ?_
  rintro e v52 ⟨rfl, hb⟩
  replace X5 := Lib.hid (X5.out.below (hb))
  replace MZ := Lib.hid (MZ.out.below (hb))
  replace B16 := Lib.hid (B16.out.below (hb))
  replace B20 := Lib.hid (B20.out.below (hb))
  replace B22 := Lib.hid (B22.out.below (hb))
  replace B24 := Lib.hid (B24.out.below (hb))
  replace BB := Lib.hid (BB.out.trans ((hb).mono BB.out.size))
  clear hb
  go_simp
  refine hK.out _ _ ?_ (fun hHeld => ?_)
  · exact ⟨(B22.out.cell 0), (B20.out.cell 0), (B24.out.cell 0), (B24.out.cell 1), (B24.out.cell 2), (B16.out.cell 0), (B16.out.cell 1), (X5.out.cell 0), (X5.out.cell 1), (X5.out.cell 2), (X5.out.cell 3), (X5.out.cell 4), (X5.out.cell 5), (X5.out.cell 6), (X5.out.cell 7)⟩
  clear hK K
  (try simp only [Act.put])
  (try simp only [List.setIfInBounds_toArray])
  (try simp only [List.set_cons_succ])
  (try simp only [List.set_cons_zero])
  refine wpAnyH_take (i := 4) (oi := { dst := some 154, op := Op.binOp BinOp.add 3 (Operand.tmp 153) (Operand.const (Value.int IntKind.i64 1)) 3, type := 3, pos := "law.go:252", after := #[{ on := 3, ground := Ground.data }], guard := none }) (v := ?d53_3xv4) rfl (by kernel_rfl) (by kernel_rfl) (by kernel_rfl) (fun _ _ _ h => h) (Or.inl ⟨by rfl, ?d53_3xy4⟩) (by assumption) ?d53_3xr4
  case d53_3xy4 => (intro w hSw; (try dsimp only at hSw); go_simp; try with_reducible rfl)
  (try simp only [Act.put])
  (try simp only [List.setIfInBounds_toArray])
  (try simp only [List.set_cons_succ])
  (try simp only [List.set_cons_zero])
  refine wpAnyH_take (i := 5) (oi := { dst := some 155, op := Op.binOp BinOp.eql 3 (Operand.tmp 151) (Operand.tmp 154) 3, type := 4, pos := "law.go:252", after := #[{ on := 1, ground := Ground.data }, { on := 4, ground := Ground.data }], guard := none }) (v := ?d53_4xv5) rfl (by kernel_rfl) (by kernel_rfl) (by kernel_rfl) (fun _ _ _ h => h) (Or.inl ⟨by rfl, ?d53_4xy5⟩) (by assumption) ?d53_4xr5
  case d53_4xy5 => (intro w hSw; (try dsimp only at hSw); go_simp; try with_reducible rfl)
  (try simp only [Act.put])
  (try simp only [List.setIfInBounds_toArray])
  (try simp only [List.set_cons_succ])
  (try simp only [List.set_cons_zero])
  refine wpAnyH_take (i := 6) (oi := { dst := some 156, op := Op.move (Operand.tmp 155), type := 4, pos := "law.go:252", after := #[{ on := 5, ground := Ground.data }, { on := 3, ground := Ground.chain }], guard := none }) (v := ?d53_5xv6) rfl (by kernel_rfl) (by kernel_rfl) (by kernel_rfl) (fun _ _ _ h => h) (Or.inl ⟨by rfl, ?d53_5xy6⟩) (by assumption) ?d53_5xr6
  case d53_5xy6 => (intro w hSw; (try dsimp only at hSw); go_simp; try with_reducible rfl)
  (try simp only [Act.put])
  (try simp only [List.setIfInBounds_toArray])
  (try simp only [List.set_cons_succ])
  (try simp only [List.set_cons_zero])
  refine wpAnyH_take (i := 7) (oi := { dst := some 157, op := Op.load 45 (Operand.tmp 24), type := 45, pos := "law.go:252", after := #[{ on := 6, ground := Ground.guard }], guard := some (6, true) }) (v := ?d53_6xv7) rfl (by kernel_rfl) (by kernel_rfl) (by kernel_rfl) (fun _ _ _ h => h) (Or.inl ⟨by rfl, ?d53_6xy7⟩) (by assumption) ?d53_6xr7
  case d53_6xy7 => (intro w hSw; (try dsimp only at hSw); go_simp; try with_reducible rfl)
  (try simp only [Act.put])
  (try simp only [List.setIfInBounds_toArray])
  (try simp only [List.set_cons_succ])
  (try simp only [List.set_cons_zero])
  refine wpAnyH_take (i := 8) (oi := { dst := some 158, op := Op.fieldAddr 47 (Operand.tmp 5) 3, type := 0, pos := "law.go:252", after := #[{ on := 6, ground := Ground.guard }], guard := some (6, true) }) (v := ?d53_7xv8) rfl (by kernel_rfl) (by kernel_rfl) (by kernel_rfl) (fun _ _ _ h => h) (Or.inl ⟨by rfl, ?d53_7xy8⟩) (by assumption) ?d53_7xr8
  case d53_7xy8 => (intro w hSw; (try dsimp only at hSw); go_simp; try with_reducible rfl)
  (try simp only [Act.put])
  (try simp only [List.setIfInBounds_toArray])
  (try simp only [List.set_cons_succ])
  (try simp only [List.set_cons_zero])
  refine wpAnyH_take (i := 9) (oi := { dst := some 159, op := Op.load 45 (Operand.tmp 158), type := 45, pos := "law.go:252", after := #[{ on := 8, ground := Ground.data }, { on := 6, ground := Ground.guard }], guard := some (6, true) }) (v := ?d53_8xv9) rfl (by kernel_rfl) (by kernel_rfl) (by kernel_rfl) (fun _ _ _ h => h) (Or.inl ⟨by rfl, ?d53_8xy9⟩) (by assumption) ?d53_8xr9
  case d53_8xy9 => (intro w hSw; (try dsimp only at hSw); go_simp; try with_reducible rfl)
  (try simp only [Act.put])
  (try simp only [List.setIfInBounds_toArray])
  (try simp only [List.set_cons_succ])
  (try simp only [List.set_cons_zero])
  refine wpAnyH_take (i := 10) (oi := { dst := some 160, op := Op.binOp BinOp.eql 45 (Operand.tmp 157) (Operand.tmp 159) 45, type := 4, pos := "law.go:252", after := #[{ on := 7, ground := Ground.data }, { on := 9, ground := Ground.data }, { on := 6, ground := Ground.guard }], guard := some (6, true) }) (v := ?d53_9xv10) rfl (by kernel_rfl) (by kernel_rfl) (by kernel_rfl) (fun _ _ _ h => h) (Or.inl ⟨by rfl, ?d53_9xy10⟩) (by assumption) ?d53_9xr10
  case d53_9xy10 => (intro w hSw; (try dsimp only at hSw); go_simp; try with_reducible rfl)
  (try simp only [Act.put])
  (try simp only [List.setIfInBounds_toArray])
  (try simp only [List.set_cons_succ])
  (try simp only [List.set_cons_zero])
  refine wpAnyH_take (i := 11) (oi := { dst := some 161, op := Op.pick (Operand.tmp 156) (Operand.tmp 160) (Operand.const (Value.bool false)), type := 4, pos := "law.go:252", after := #[{ on := 6, ground := Ground.data }, { on := 10, ground := Ground.data }], guard := none }) (v := ?d53_10xv11) rfl (by kernel_rfl) (by kernel_rfl) (by kernel_rfl) (fun _ _ _ h => h) (Or.inl ⟨by rfl, ?d53_10xy11⟩) (by assumption) ?d53_10xr11
  case d53_10xy11 => (intro w hSw; (try dsimp only at hSw); go_simp; try with_reducible rfl)
  (try simp only [Act.put])
  (try simp only [List.setIfInBounds_toArray])
  (try simp only [List.set_cons_succ])
  (try simp only [List.set_cons_zero])
  refine wpAnyH_take (i := 12) (oi := { dst := some 162, op := Op.move (Operand.tmp 161), type := 4, pos := "law.go:252", after := #[{ on := 11, ground := Ground.data }, { on := 6, ground := Ground.chain }], guard := none }) (v := ?d53_11xv12) rfl (by kernel_rfl) (by kernel_rfl) (by kernel_rfl) (fun _ _ _ h => h) (Or.inl ⟨by rfl, ?d53_11xy12⟩) (by assumption) ?d53_11xr12
  case d53_11xy12 => (intro w hSw; (try dsimp only at hSw); go_simp; try with_reducible rfl)
  (try simp only [Act.put])
  (try simp only [List.setIfInBounds_toArray])
  (try simp only [List.set_cons_succ])
  (try simp only [List.set_cons_zero])
  refine wpAnyH_take (i := 13) (oi := { dst := some 163, op := Op.load 31 (Operand.tmp 16), type := 31, pos := "law.go:252", after := #[{ on := 12, ground := Ground.guard }], guard := some (12, true) }) (v := ?d53_12xv13) rfl (by kernel_rfl) (by kernel_rfl) (by kernel_rfl) (fun _ _ _ h => h) (Or.inl ⟨by rfl, ?d53_12xy13⟩) (by assumption) ?d53_12xr13
  case d53_12xy13 => (intro w hSw; (try dsimp only at hSw); go_simp; try with_reducible rfl)
  (try simp only [Act.put])
  (try simp only [List.setIfInBounds_toArray])
  (try simp only [List.set_cons_succ])
  (try simp only [List.set_cons_zero])
  refine wpAnyH_take (i := 14) (oi := { dst := some 164, op := Op.move (Operand.tmp 1), type := 3, pos := "law.go:252", after := #[{ on := 12, ground := Ground.guard }], guard := some (12, true) }) (v := ?d53_13xv14) rfl (by kernel_rfl) (by kernel_rfl) (by kernel_rfl) (fun _ _ _ h => h) (Or.inl ⟨by rfl, ?d53_13xy14⟩) (by assumption) ?d53_13xr14
  case d53_13xy14 => (intro w hSw; (try dsimp only at hSw); go_simp; try with_reducible rfl)
  (try simp only [Act.put])
  (try simp only [List.setIfInBounds_toArray])
  (try simp only [List.set_cons_succ])
  (try simp only [List.set_cons_zero])
  refine wpAnyH_take (i := 16) (oi := { dst := some 166, op := Op.fieldAddr 47 (Operand.tmp 5) 1, type := 0, pos := "law.go:252", after := #[{ on := 12, ground := Ground.guard }], guard := some (12, true) }) (v := ?d53_14xv16) rfl (by kernel_rfl) (by kernel_rfl) (by kernel_rfl) (fun _ _ _ h => h) (Or.inl ⟨by rfl, ?d53_14xy16⟩) (by assumption) ?d53_14xr16
  case d53_14xy16 => (intro w hSw; (try dsimp only at hSw); go_simp; try with_reducible rfl)
  (try simp only [Act.put])
  (try simp only [List.setIfInBounds_toArray])
  (try simp only [List.set_cons_succ])
  (try simp only [List.set_cons_zero])
  refine wpAnyH_take (i := 17) (oi := { dst := some 167, op := Op.load 42 (Operand.tmp 166), type := 42, pos := "law.go:252", after := #[{ on := 16, ground := Ground.data }, { on := 12, ground := Ground.guard }], guard := some (12, true) }) (v := ?d53_15xv17) rfl (by kernel_rfl) (by kernel_rfl) (by kernel_rfl) (fun _ _ _ h => h) (Or.inl ⟨by rfl, ?d53_15xy17⟩) (by assumption) ?d53_15xr17
  case d53_15xy17 => (intro w hSw; (try dsimp only at hSw); go_simp; try with_reducible rfl)
  (try simp only [Act.put])
  (try simp only [List.setIfInBounds_toArray])
  (try simp only [List.set_cons_succ])
  (try simp only [List.set_cons_zero])
  refine wpAnyH_take (i := 19) (oi := { dst := some 169, op := Op.load 65 (Operand.tmp 20), type := 65, pos := "law.go:252", after := #[{ on := 12, ground := Ground.guard }], guard := some (12, true) }) (v := ?d53_16xv19) rfl (by kernel_rfl) (by kernel_rfl) (by kernel_rfl) (fun _ _ _ h => h) (Or.inl ⟨by rfl, ?d53_16xy19⟩) (by assumption) ?d53_16xr19
  case d53_16xy19 => (intro w hSw; (try dsimp only at hSw); go_simp; try with_reducible rfl)
  (try simp only [Act.put])
  (try simp only [List.setIfInBounds_toArray])
  (try simp only [List.set_cons_succ])
  (try simp only [List.set_cons_zero])
  refine wpAnyH_ready (rs := [15]) (by kernel_rfl) (by simp) ?_
  refine AllReadyH.cons (o := { dst := some 165, op := Op.call { callee := Callee.value (Operand.func 18), args := #[Operand.tmp 163, Operand.tmp 164], argTypes := #[31, 3] }, type := 60, pos := "law.go:252", after := #[{ on := 13, ground := Ground.data }, { on := 14, ground := Ground.data }, { on := 12, ground := Ground.chain }, { on := 12, ground := Ground.guard }], guard := some (12, true) }) rfl (fun K hK => ?_) AllReadyH.nil
  go_simp
  go_at_call 18
  refine (seen_ok _ _ Mz k _ MZ.out.mw (by rw [EZ2.out]; exact hk) GZ.out.nv).mono ?_
  rintro e v53 ⟨vp, rfl, hvw, hb⟩
  replace X5 := Lib.hid (X5.out.below (hb))
  replace MZ := Lib.hid (MZ.out.below (hb))
  replace B16 := Lib.hid (B16.out.below (hb))
  replace B20 := Lib.hid (B20.out.below (hb))
  replace B22 := Lib.hid (B22.out.below (hb))
  replace B24 := Lib.hid (B24.out.below (hb))
  replace BB := Lib.hid (BB.out.trans ((hb).mono BB.out.size))
  clear hb
  have VV := Lib.hid (hvw)
  clear hvw
  go_simp
  refine hK.out _ _ ?_ (fun hHeld => ?_)
  · exact ⟨(B22.out.cell 0), (B20.out.cell 0), (B24.out.cell 0), (B24.out.cell 1), (B24.out.cell 2), (B16.out.cell 0), (B16.out.cell 1), (X5.out.cell 0), (X5.out.cell 1), (X5.out.cell 2), (X5.out.cell 3), (X5.out.cell 4), (X5.out.cell 5), (X5.out.cell 6), (X5.out.cell 7)⟩
  clear hK K
  (try simp only [Act.put])
  (try simp only [List.setIfInBounds_toArray])
  (try simp only [List.set_cons_succ])
  (try simp only [List.set_cons_zero])
  refine wpAnyH_ready (rs := [18]) (by kernel_rfl) (by simp) ?_
  refine AllReadyH.cons (o := { dst := some 168, op := Op.call { callee := Callee.value (Operand.func 19), args := #[Operand.tmp 165, Operand.tmp 167], argTypes := #[60, 42] }, type := 3, pos := "law.go:252", after := #[{ on := 15, ground := Ground.data }, { on := 17, ground := Ground.data }, { on := 15, ground := Ground.chain }, { on := 12, ground := Ground.guard }], guard := some (12, true) }) rfl (fun K hK => ?_) AllReadyH.nil
  go_simp
  go_at_call 19
  refine (at_b _ _ _ _ (by omega) (by omega) VV.out).mono ?_
  rintro e v54 ⟨rfl, hb⟩
  replace X5 := Lib.hid (X5.out.below (hb))
  replace MZ := Lib.hid (MZ.out.below (hb))
  replace B16 := Lib.hid (B16.out.below (hb))
  replace B20 := Lib.hid (B20.out.below (hb))
  replace B22 := Lib.hid (B22.out.below (hb))
  replace B24 := Lib.hid (B24.out.below (hb))
  replace VV := Lib.hid (VV.out.below (hb))
  replace BB := Lib.hid (BB.out.trans ((hb).mono BB.out.size))
  clear hb
  rw [HSZ.out]
  go_simp
  refine hK.out _ _ ?_ (fun hHeld => ?_)
  · exact ⟨(B22.out.cell 0), (B20.out.cell 0), (B24.out.cell 0), (B24.out.cell 1), (B24.out.cell 2), (B16.out.cell 0), (B16.out.cell 1), (X5.out.cell 0), (X5.out.cell 1), (X5.out.cell 2), (X5.out.cell 3), (X5.out.cell 4), (X5.out.cell 5), (X5.out.cell 6), (X5.out.cell 7)⟩
  clear hK K
  (try simp only [Act.put])
  (try simp only [List.setIfInBounds_toArray])
  (try simp only [List.set_cons_succ])
  (try simp only [List.set_cons_zero])
  refine wpAnyH_ready (rs := [20]) (by kernel_rfl) (by simp) ?_
  refine AllReadyH.cons (o := { dst := some 170, op := Op.call { callee := Callee.value (Operand.func 21), args := #[Operand.tmp 169], argTypes := #[65] }, type := 3, pos := "law.go:252", after := #[{ on := 19, ground := Ground.data }, { on := 18, ground := Ground.chain }, { on := 12, ground := Ground.guard }], guard := some (12, true) }) rfl (fun K hK => ?_) AllReadyH.nil
  go_simp
  go_at_call 21
  refine (len_c _ _ _ _).mono ?_
  rintro e v55 ⟨rfl, hb⟩
  replace X5 := Lib.hid (X5.out.below (hb))
  replace MZ := Lib.hid (MZ.out.below (hb))
  replace B16 := Lib.hid (B16.out.below (hb))
  replace B20 := Lib.hid (B20.out.below (hb))
  replace B22 := Lib.hid (B22.out.below (hb))
  replace B24 := Lib.hid (B24.out.below (hb))
  replace VV := Lib.hid (VV.out.below (hb))
  replace BB := Lib.hid (BB.out.trans ((hb).mono BB.out.size))
  clear hb
  go_simp
  refine hK.out _ _ ?_ (fun hHeld => ?_)
  · exact ⟨(B22.out.cell 0), (B20.out.cell 0), (B24.out.cell 0), (B24.out.cell 1), (B24.out.cell 2), (B16.out.cell 0), (B16.out.cell 1), (X5.out.cell 0), (X5.out.cell 1), (X5.out.cell 2), (X5.out.cell 3), (X5.out.cell 4), (X5.out.cell 5), (X5.out.cell 6), (X5.out.cell 7)⟩
  clear hK K
  (try simp only [Act.put])
  (try simp only [List.setIfInBounds_toArray])
  (try simp only [List.set_cons_succ])
  (try simp only [List.set_cons_zero])
  refine wpAnyH_take (i := 21) (oi := { dst := some 171, op := Op.binOp BinOp.eql 3 (Operand.tmp 168) (Operand.tmp 170) 3, type := 4, pos := "law.go:252", after := #[{ on := 18, ground := Ground.data }, { on := 20, ground := Ground.data }, { on := 12, ground := Ground.guard }], guard := some (12, true) }) (v := ?d56_17xv21) rfl (by kernel_rfl) (by kernel_rfl) (by kernel_rfl) (fun _ _ _ h => h) (Or.inl ⟨by rfl, ?d56_17xy21⟩) (by assumption) ?d56_17xr21
  case d56_17xy21 => (intro w hSw; (try dsimp only at hSw); go_simp; try with_reducible rfl)
  (try simp only [Act.put])
  (try simp only [List.setIfInBounds_toArray])
  (try simp only [List.set_cons_succ])
  (try simp only [List.set_cons_zero])
  refine wpAnyH_take (i := 22) (oi := { dst := some 172, op := Op.pick (Operand.tmp 162) (Operand.tmp 171) (Operand.const (Value.bool false)), type := 4, pos := "law.go:252", after := #[{ on := 12, ground := Ground.data }, { on := 21, ground := Ground.data }], guard := none }) (v := ?d56_18xv22) rfl (by kernel_rfl) (by kernel_rfl) (by kernel_rfl) (fun _ _ _ h => h) (Or.inl ⟨by rfl, ?d56_18xy22⟩) (by assumption) ?d56_18xr22
  case d56_18xy22 => (intro w hSw; (try dsimp only at hSw); go_simp; try with_reducible rfl)
  (try simp only [Act.put])
  (try simp only [List.setIfInBounds_toArray])
  (try simp only [List.set_cons_succ])
  (try simp only [List.set_cons_zero])
  refine wpAnyH_ready (rs := [23]) (by kernel_rfl) (by simp) ?_
  refine AllReadyH.cons (o := { dst := some 6, op := Op.assign (Operand.tmp 172), type := 4, pos := "law.go:252", after := #[{ on := 22, ground := Ground.data }, { on := 20, ground := Ground.chain }, { on := 0, ground := Ground.phase }, { on := 1, ground := Ground.phase }, { on := 2, ground := Ground.phase }, { on := 3, ground := Ground.phase }, { on := 4, ground := Ground.phase }, { on := 5, ground := Ground.phase }, { on := 6, ground := Ground.phase }, { on := 7, ground := Ground.phase }, { on := 8, ground := Ground.phase }, { on := 9, ground := Ground.phase }, { on := 10, ground := Ground.phase }, { on := 11, ground := Ground.phase }, { on := 12, ground := Ground.phase }, { on := 13, ground := Ground.phase }, { on := 14, ground := Ground.phase }, { on := 15, ground := Ground.phase }, { on := 16, ground := Ground.phase }, { on := 17, ground := Ground.phase }, { on := 18, ground := Ground.phase }, { on := 19, ground := Ground.phase }, { on := 20, ground := Ground.phase }, { on := 21, ground := Ground.phase }, { on := 22, ground := Ground.phase }], guard := none }) rfl (fun K hK => ?_) AllReadyH.nil
  go_simp
  refine hK.out _ _ ?_ (fun hHeld => ?_)
  · exact ⟨(B22.out.cell 0), (B20.out.cell 0), (B24.out.cell 0), (B24.out.cell 1), (B24.out.cell 2), (B16.out.cell 0), (B16.out.cell 1), (X5.out.cell 0), (X5.out.cell 1), (X5.out.cell 2), (X5.out.cell 3), (X5.out.cell 4), (X5.out.cell 5), (X5.out.cell 6), (X5.out.cell 7)⟩
  clear hK K
  (try simp only [Act.put])
  (try simp only [List.setIfInBounds_toArray])
  (try simp only [List.set_cons_succ])
  (try simp only [List.set_cons_zero])
  refine wpAnyH_done (by kernel_rfl) ?_ _
  have F2 := BB.out
  clear X5 MZ B16 B20 B22 B24 VV BB wL
  go_wp2
  go_ret
  exact ⟨by simp, by first | exact F2 | (rw [← hbq]; exact F2)⟩
end Go.Proofs.Ytbaljoehgdhhhaa
