/- MemoryPasses: the walk. -/
import Derived.Test.YtbaljoehgdhhhaaAwake
import Derived.Test.YtbaljoehgdhhhaaBegunNo
import Derived.Test.YtbaljoehgdhhhaaHas
import Derived.Deep.CutBlock
namespace Go.Proofs.Ytbaljoehgdhhhaa
open Go.RowKit Go.Shelf Go.Maps
set_option linter.unusedVariables false

set_option maxRecDepth 100000 in
set_option maxHeartbeats 6400000 in
theorem passes_fewT (T bF oF c1 : Nat) (ws : List Wd) (v : Value) (l : List DoV) (M : Mem) (hM : (newMem T ws).ress l = M) (xa xb xc xt zA zB zC : Int) (lk : Bool) (w : World) (h0 : 0 < ws.length) (h1 : ws.length ≤ 8) (t0 : 1 ≤ T) (t1 : T ≤ 8)
    (hF : IsWords w (.slice (some ⟨bF, oF, none⟩) ws.length c1) ws) (hd : IsDos w v l) (hl : l.length ≤ 40) (hok : DosOk l) (bt : -9223372036854775808 ≤ xt ∧ xt < 9223372036854775808) (bA : -9223372036854775808 ≤ zA ∧ zA < 9223372036854775808) (bB : -9223372036854775808 ≤ zB ∧ zB < 9223372036854775808) (bC : -9223372036854775808 ≤ zC ∧ zC < 9223372036854775808) (h3 : T < 3) :
    Calls Try.prog 5 #[.agg #[.int .i64 T, .slice (some ⟨bF, oF, none⟩) ws.length c1, v], .agg #[.int .i64 xa, .int .u32 xb, .int .u32 xc, .int .i64 xt, .int .i64 zA, .int .i64 zB, .int .i64 zC, .bool lk]] w fun e w' => e = .returned (.bool true) ∧ Below w.heap.size w w' := by
  obtain ⟨y2, c2, rfl⟩ := hd.slice
  have hg := ress_good (newMem_good T ws (by omega) t1) l
  have hS := ress_sound (newMem_sound T ws) (newMem_good T ws (by omega) t1) l (by omega)
  rw [hM] at hg hS
  obtain ⟨n1, hn1⟩ : ∃ n, ws.length = n := ⟨_, rfl⟩
  obtain ⟨n2, hn2⟩ : ∃ n, l.length = n := ⟨_, rfl⟩
  have e1 : M.hs.length = n1 := by rw [hg.2.1]; simp [newMem, hn1]
  have e2 : M.vs.length = T := by rw [hg.2.2]; simp [newMem]
  have HM := Lib.hid hM
  have HG := Lib.hid hg.1
  have E1 := Lib.hid e1
  have E2 := Lib.hid e2
  have HN1 := Lib.hid hn1
  have HN2 := Lib.hid hn2
  have HOK := Lib.hid hok
  have HW1 := Lib.hid h0
  have hbb := b2 w (.cells #[.int .i64 T, .slice (some ⟨bF, oF, none⟩) n1 c1, .slice y2 n2 c2] 25) (.cells #[.int .i64 xa, .int .u32 xb, .int .u32 xc, .int .i64 xt, .int .i64 zA, .int .i64 zB, .int .i64 zC, .bool lk] 75)
  have FF := Lib.hid (hF.below hbb)
  have DD := Lib.hid (hd.below hbb)
  have HGL := Lib.hid (show 1 + l.length ≤ 41 by omega)
  have NB0 := Lib.hid (show 1 + l.length ≤ 999 by omega)
  have NB1 := Lib.hid (show 1 + l.length + 1 ≤ 999 by omega)
  have NB2 := Lib.hid (show 1 + l.length + 1 + 1 ≤ 999 by omega)
  have NB3 := Lib.hid (show 1 + l.length + 1 + 1 + 1 ≤ 999 by omega)
  rw [hn1] at h0 h1 FF ⊢
  rw [hn2] at hl DD ⊢
  (try rw [hn1] at h3)
  (try rw [hn1] at hP3)
  have qN := neqW
  have qE := eqlW
  have X2 := Lib.hid (Box.alloc (Box.new w #[.int .i64 T, .slice (some ⟨bF, oF, none⟩) n1 c1, .slice y2 n2 c2] 25 rfl) (.cells #[.int .i64 xa, .int .u32 xb, .int .u32 xc, .int .i64 xt, .int .i64 zA, .int .i64 zB, .int .i64 zC, .bool lk] 75))
  have X3 := Lib.hid (Box.new (w.alloc (.cells #[.int .i64 T, .slice (some ⟨bF, oF, none⟩) n1 c1, .slice y2 n2 c2] 25)) #[.int .i64 xa, .int .u32 xb, .int .u32 xc, .int .i64 xt, .int .i64 zA, .int .i64 zB, .int .i64 zC, .bool lk] 75 (n := w.heap.size + 1) (by simp))
  have BB := Lib.hid hbb
  clear hbb hF hd hok hg hM e1 e2 hn2 hS
  go_enter Try.func5, Try.ntmps5
  go_wp2_with fail
  generalize (w.alloc (.cells #[.int .i64 T, .slice (some ⟨bF, oF, none⟩) n1 c1, .slice y2 n2 c2] 25)).alloc (.cells #[.int .i64 xa, .int .u32 xb, .int .u32 xc, .int .i64 xt, .int .i64 zA, .int .i64 zB, .int .i64 zC, .bool lk] 75) = W0 at *
  obtain ⟨b3, hb3⟩ : ∃ br, w.heap.size + 1 = br := ⟨_, rfl⟩
  obtain ⟨b2, hb2⟩ : ∃ bp, w.heap.size = bp := ⟨_, rfl⟩
  have hbq := hb2
  rw [hb3] at X3 ⊢
  rw [hb2] at X2 hb3 ⊢
  refine (awake_any _).mono ?_
  rintro e a0 ⟨rfl, hb⟩
  replace X2 := Lib.hid (X2.out.below (hb))
  replace X3 := Lib.hid (X3.out.below (hb))
  replace FF := Lib.hid (FF.out.below (hb))
  replace DD := Lib.hid (DD.out.below (hb))
  replace BB := Lib.hid (BB.out.trans ((hb).mono BB.out.size))
  clear hb
  obtain ⟨⟨m0, m1, m2⟩, -⟩ := X2.out.cells3
  go_wp2_with fail
  clear m0 m1 m2
  have hbg : Calls Try.prog 16 #[.agg #[.int .i64 T, .slice (some ⟨bF, oF, none⟩) n1 c1, .slice y2 n2 c2]] a0 fun e w' => ∃ pv vv, e = .returned (.tuple #[.agg #[pv, vv], .bool true]) ∧ MD (fun b => a0.heap.size ≤ b) w' pv vv M ∧ Below a0.heap.size a0 w' := by
    rcases FF.out with ⟨a', c', he', hw'⟩ | ⟨b', o', c', he', hbl, hcc⟩
    · exfalso; have hz := HN1.out; rw [hw'] at hz; simp at hz; omega
    · rw [HN1.out] at he'
      simp only [Value.slice.injEq, Option.some.injEq, Addr.mk.injEq, and_true] at he'
      obtain ⟨⟨rfl, rfl⟩, -, rfl⟩ := he'
      have hq := begun_ok T bF oF c1 ws (.slice y2 n2 c2) l a0 HW1.out (by rw [HN1.out]; omega) t0 t1 hbl hcc DD.out (by rw [HN2.out]; omega) HOK.out
      rw [HN1.out, HM.out] at hq
      exact hq
  refine (hbg).mono ?_
  rintro e a1 ⟨pv, vv, rfl, hm, hb⟩
  replace X2 := Lib.hid (X2.out.below (hb))
  replace X3 := Lib.hid (X3.out.below (hb))
  replace FF := Lib.hid (FF.out.below (hb))
  replace DD := Lib.hid (DD.out.below (hb))
  replace BB := Lib.hid (BB.out.trans ((hb).mono BB.out.size))
  clear hb
  have MM := Lib.hid (hm)
  clear hm hbg
  obtain ⟨u1, u2, e1, e2⟩ := MM.out.sl E1.out E2.out
  subst e1 e2
  clear FF
  clear DD
  clear X2
  go_upto_region 4 with fail
  replace MM := Lib.hid MM.out.addlt
  have hlt_b5 := BB.out.size
  have hlt_b5_X3 := X3.out.lt
  replace X3 := Lib.hid (X3.out.below (below_new a1 (.cells #[.slice u1 n1 n1, .slice u2 T T] 31)))
  replace MM := Lib.hid (MM.out.below (below_new a1 (.cells #[.slice u1 n1 n1, .slice u2 T T] 31)))
  replace BB := Lib.hid (BB.out.trans ((below_new a1 (.cells #[.slice u1 n1 n1, .slice u2 T T] 31)).mono BB.out.size))
  have B5 := Lib.hid (Box.new a1 #[.slice u1 n1 n1, .slice u2 T T] 31 rfl)
  have hsz_b5 : (World.alloc a1 (.cells #[.slice u1 n1 n1, .slice u2 T T] 31)).heap.size = (World.heap a1).size + 1 := by simp
  generalize World.alloc a1 (.cells #[.slice u1 n1 n1, .slice u2 T T] 31) = a2 at *
  generalize World.heap a1 = hp_b5 at *
  generalize hp_b5.size = b5 at *
  have hne_b3_b5 : b3 ≠ b5 := Nat.ne_of_lt hlt_b5_X3
  have hle_b5 := hlt_b5
  clear hlt_b5_X3 hlt_b5
  replace MM := Lib.hid (MM.out.imp (D' := fun b => b ≠ b5) (fun b hb => Nat.ne_of_lt hb.2))
  obtain ⟨⟨m0, m1⟩, g0, g1⟩ := B5.out.cells2
  go_wp2_with fail
  clear m0 m1 g0 g1
  refine (size_any u1 u2 n1 T _).mono ?_
  rintro e a3 ⟨rfl, hb⟩
  replace X3 := Lib.hid (X3.out.below (hb))
  replace MM := Lib.hid (MM.out.below (hb))
  replace B5 := Lib.hid (B5.out.below (hb))
  replace BB := Lib.hid (BB.out.trans ((hb).mono BB.out.size))
  clear hb
  have F9 := BB.out
  go_wp2
  all_goals (go_ret; exact ⟨by simp, by first | exact F9 | (rw [← hbq]; exact F9)⟩)

set_option maxRecDepth 100000 in
set_option maxHeartbeats 6400000 in
theorem passes_fewP (T bF oF c1 : Nat) (ws : List Wd) (v : Value) (l : List DoV) (M : Mem) (hM : (newMem T ws).ress l = M) (xa xb xc xt zA zB zC : Int) (lk : Bool) (w : World) (h0 : 0 < ws.length) (h1 : ws.length ≤ 8) (t0 : 1 ≤ T) (t1 : T ≤ 8)
    (hF : IsWords w (.slice (some ⟨bF, oF, none⟩) ws.length c1) ws) (hd : IsDos w v l) (hl : l.length ≤ 40) (hok : DosOk l) (bt : -9223372036854775808 ≤ xt ∧ xt < 9223372036854775808) (bA : -9223372036854775808 ≤ zA ∧ zA < 9223372036854775808) (bB : -9223372036854775808 ≤ zB ∧ zB < 9223372036854775808) (bC : -9223372036854775808 ≤ zC ∧ zC < 9223372036854775808) (h3 : ws.length < 3) :
    Calls Try.prog 5 #[.agg #[.int .i64 T, .slice (some ⟨bF, oF, none⟩) ws.length c1, v], .agg #[.int .i64 xa, .int .u32 xb, .int .u32 xc, .int .i64 xt, .int .i64 zA, .int .i64 zB, .int .i64 zC, .bool lk]] w fun e w' => e = .returned (.bool true) ∧ Below w.heap.size w w' := by
  obtain ⟨y2, c2, rfl⟩ := hd.slice
  have hg := ress_good (newMem_good T ws (by omega) t1) l
  have hS := ress_sound (newMem_sound T ws) (newMem_good T ws (by omega) t1) l (by omega)
  rw [hM] at hg hS
  obtain ⟨n1, hn1⟩ : ∃ n, ws.length = n := ⟨_, rfl⟩
  obtain ⟨n2, hn2⟩ : ∃ n, l.length = n := ⟨_, rfl⟩
  have e1 : M.hs.length = n1 := by rw [hg.2.1]; simp [newMem, hn1]
  have e2 : M.vs.length = T := by rw [hg.2.2]; simp [newMem]
  have HM := Lib.hid hM
  have HG := Lib.hid hg.1
  have E1 := Lib.hid e1
  have E2 := Lib.hid e2
  have HN1 := Lib.hid hn1
  have HN2 := Lib.hid hn2
  have HOK := Lib.hid hok
  have HW1 := Lib.hid h0
  have hbb := b2 w (.cells #[.int .i64 T, .slice (some ⟨bF, oF, none⟩) n1 c1, .slice y2 n2 c2] 25) (.cells #[.int .i64 xa, .int .u32 xb, .int .u32 xc, .int .i64 xt, .int .i64 zA, .int .i64 zB, .int .i64 zC, .bool lk] 75)
  have FF := Lib.hid (hF.below hbb)
  have DD := Lib.hid (hd.below hbb)
  have HGL := Lib.hid (show 1 + l.length ≤ 41 by omega)
  have NB0 := Lib.hid (show 1 + l.length ≤ 999 by omega)
  have NB1 := Lib.hid (show 1 + l.length + 1 ≤ 999 by omega)
  have NB2 := Lib.hid (show 1 + l.length + 1 + 1 ≤ 999 by omega)
  have NB3 := Lib.hid (show 1 + l.length + 1 + 1 + 1 ≤ 999 by omega)
  rw [hn1] at h0 h1 FF ⊢
  rw [hn2] at hl DD ⊢
  (try rw [hn1] at h3)
  (try rw [hn1] at hP3)
  have qN := neqW
  have qE := eqlW
  have X2 := Lib.hid (Box.alloc (Box.new w #[.int .i64 T, .slice (some ⟨bF, oF, none⟩) n1 c1, .slice y2 n2 c2] 25 rfl) (.cells #[.int .i64 xa, .int .u32 xb, .int .u32 xc, .int .i64 xt, .int .i64 zA, .int .i64 zB, .int .i64 zC, .bool lk] 75))
  have X3 := Lib.hid (Box.new (w.alloc (.cells #[.int .i64 T, .slice (some ⟨bF, oF, none⟩) n1 c1, .slice y2 n2 c2] 25)) #[.int .i64 xa, .int .u32 xb, .int .u32 xc, .int .i64 xt, .int .i64 zA, .int .i64 zB, .int .i64 zC, .bool lk] 75 (n := w.heap.size + 1) (by simp))
  have BB := Lib.hid hbb
  clear hbb hF hd hok hg hM e1 e2 hn2 hS
  go_enter Try.func5, Try.ntmps5
  go_wp2_with fail
  generalize (w.alloc (.cells #[.int .i64 T, .slice (some ⟨bF, oF, none⟩) n1 c1, .slice y2 n2 c2] 25)).alloc (.cells #[.int .i64 xa, .int .u32 xb, .int .u32 xc, .int .i64 xt, .int .i64 zA, .int .i64 zB, .int .i64 zC, .bool lk] 75) = W0 at *
  obtain ⟨b3, hb3⟩ : ∃ br, w.heap.size + 1 = br := ⟨_, rfl⟩
  obtain ⟨b2, hb2⟩ : ∃ bp, w.heap.size = bp := ⟨_, rfl⟩
  have hbq := hb2
  rw [hb3] at X3 ⊢
  rw [hb2] at X2 hb3 ⊢
  refine (awake_any _).mono ?_
  rintro e a0 ⟨rfl, hb⟩
  replace X2 := Lib.hid (X2.out.below (hb))
  replace X3 := Lib.hid (X3.out.below (hb))
  replace FF := Lib.hid (FF.out.below (hb))
  replace DD := Lib.hid (DD.out.below (hb))
  replace BB := Lib.hid (BB.out.trans ((hb).mono BB.out.size))
  clear hb
  obtain ⟨⟨m0, m1, m2⟩, -⟩ := X2.out.cells3
  go_wp2_with fail
  clear m0 m1 m2
  have hbg : Calls Try.prog 16 #[.agg #[.int .i64 T, .slice (some ⟨bF, oF, none⟩) n1 c1, .slice y2 n2 c2]] a0 fun e w' => ∃ pv vv, e = .returned (.tuple #[.agg #[pv, vv], .bool true]) ∧ MD (fun b => a0.heap.size ≤ b) w' pv vv M ∧ Below a0.heap.size a0 w' := by
    rcases FF.out with ⟨a', c', he', hw'⟩ | ⟨b', o', c', he', hbl, hcc⟩
    · exfalso; have hz := HN1.out; rw [hw'] at hz; simp at hz; omega
    · rw [HN1.out] at he'
      simp only [Value.slice.injEq, Option.some.injEq, Addr.mk.injEq, and_true] at he'
      obtain ⟨⟨rfl, rfl⟩, -, rfl⟩ := he'
      have hq := begun_ok T bF oF c1 ws (.slice y2 n2 c2) l a0 HW1.out (by rw [HN1.out]; omega) t0 t1 hbl hcc DD.out (by rw [HN2.out]; omega) HOK.out
      rw [HN1.out, HM.out] at hq
      exact hq
  refine (hbg).mono ?_
  rintro e a1 ⟨pv, vv, rfl, hm, hb⟩
  replace X2 := Lib.hid (X2.out.below (hb))
  replace X3 := Lib.hid (X3.out.below (hb))
  replace FF := Lib.hid (FF.out.below (hb))
  replace DD := Lib.hid (DD.out.below (hb))
  replace BB := Lib.hid (BB.out.trans ((hb).mono BB.out.size))
  clear hb
  have MM := Lib.hid (hm)
  clear hm hbg
  obtain ⟨u1, u2, e1, e2⟩ := MM.out.sl E1.out E2.out
  subst e1 e2
  clear FF
  clear DD
  clear X2
  go_upto_region 4 with fail
  replace MM := Lib.hid MM.out.addlt
  have hlt_b5 := BB.out.size
  have hlt_b5_X3 := X3.out.lt
  replace X3 := Lib.hid (X3.out.below (below_new a1 (.cells #[.slice u1 n1 n1, .slice u2 T T] 31)))
  replace MM := Lib.hid (MM.out.below (below_new a1 (.cells #[.slice u1 n1 n1, .slice u2 T T] 31)))
  replace BB := Lib.hid (BB.out.trans ((below_new a1 (.cells #[.slice u1 n1 n1, .slice u2 T T] 31)).mono BB.out.size))
  have B5 := Lib.hid (Box.new a1 #[.slice u1 n1 n1, .slice u2 T T] 31 rfl)
  have hsz_b5 : (World.alloc a1 (.cells #[.slice u1 n1 n1, .slice u2 T T] 31)).heap.size = (World.heap a1).size + 1 := by simp
  generalize World.alloc a1 (.cells #[.slice u1 n1 n1, .slice u2 T T] 31) = a2 at *
  generalize World.heap a1 = hp_b5 at *
  generalize hp_b5.size = b5 at *
  have hne_b3_b5 : b3 ≠ b5 := Nat.ne_of_lt hlt_b5_X3
  have hle_b5 := hlt_b5
  clear hlt_b5_X3 hlt_b5
  replace MM := Lib.hid (MM.out.imp (D' := fun b => b ≠ b5) (fun b hb => Nat.ne_of_lt hb.2))
  obtain ⟨⟨m0, m1⟩, g0, g1⟩ := B5.out.cells2
  go_wp2_with fail
  clear m0 m1 g0 g1
  refine (size_any u1 u2 n1 T _).mono ?_
  rintro e a3 ⟨rfl, hb⟩
  replace X3 := Lib.hid (X3.out.below (hb))
  replace MM := Lib.hid (MM.out.below (hb))
  replace B5 := Lib.hid (B5.out.below (hb))
  replace BB := Lib.hid (BB.out.trans ((hb).mono BB.out.size))
  clear hb
  have F9 := BB.out
  go_wp2
  all_goals (go_ret; exact ⟨by simp, by first | exact F9 | (rw [← hbq]; exact F9)⟩)

set_option maxRecDepth 100000 in
set_option maxHeartbeats 6400000 in
theorem passes_has1 (T bF oF c1 : Nat) (ws : List Wd) (v : Value) (l : List DoV) (M : Mem) (hM : (newMem T ws).ress l = M) (xa xb xc xt zA zB zC : Int) (lk : Bool) (w : World) (h0 : 0 < ws.length) (h1 : ws.length ≤ 8) (t0 : 1 ≤ T) (t1 : T ≤ 8)
    (hF : IsWords w (.slice (some ⟨bF, oF, none⟩) ws.length c1) ws) (hd : IsDos w v l) (hl : l.length ≤ 40) (hok : DosOk l) (bt : -9223372036854775808 ≤ xt ∧ xt < 9223372036854775808) (bA : -9223372036854775808 ≤ zA ∧ zA < 9223372036854775808) (bB : -9223372036854775808 ≤ zB ∧ zB < 9223372036854775808) (bC : -9223372036854775808 ≤ zC ∧ zC < 9223372036854775808) (hT3 : 3 ≤ T) (hP3 : 3 ≤ ws.length) (hh : (M.hist 1).any (isW 77 1073741824 0) = true) :
    Calls Try.prog 5 #[.agg #[.int .i64 T, .slice (some ⟨bF, oF, none⟩) ws.length c1, v], .agg #[.int .i64 xa, .int .u32 xb, .int .u32 xc, .int .i64 xt, .int .i64 zA, .int .i64 zB, .int .i64 zC, .bool lk]] w fun e w' => e = .returned (.bool true) ∧ Below w.heap.size w w' := by
  obtain ⟨y2, c2, rfl⟩ := hd.slice
  have hg := ress_good (newMem_good T ws (by omega) t1) l
  have hS := ress_sound (newMem_sound T ws) (newMem_good T ws (by omega) t1) l (by omega)
  rw [hM] at hg hS
  obtain ⟨n1, hn1⟩ : ∃ n, ws.length = n := ⟨_, rfl⟩
  obtain ⟨n2, hn2⟩ : ∃ n, l.length = n := ⟨_, rfl⟩
  have e1 : M.hs.length = n1 := by rw [hg.2.1]; simp [newMem, hn1]
  have e2 : M.vs.length = T := by rw [hg.2.2]; simp [newMem]
  have HHA := Lib.hid hh
  clear hh
  have HM := Lib.hid hM
  have HG := Lib.hid hg.1
  have E1 := Lib.hid e1
  have E2 := Lib.hid e2
  have HN1 := Lib.hid hn1
  have HN2 := Lib.hid hn2
  have HOK := Lib.hid hok
  have HW1 := Lib.hid h0
  have hbb := b2 w (.cells #[.int .i64 T, .slice (some ⟨bF, oF, none⟩) n1 c1, .slice y2 n2 c2] 25) (.cells #[.int .i64 xa, .int .u32 xb, .int .u32 xc, .int .i64 xt, .int .i64 zA, .int .i64 zB, .int .i64 zC, .bool lk] 75)
  have FF := Lib.hid (hF.below hbb)
  have DD := Lib.hid (hd.below hbb)
  have HGL := Lib.hid (show 1 + l.length ≤ 41 by omega)
  have NB0 := Lib.hid (show 1 + l.length ≤ 999 by omega)
  have NB1 := Lib.hid (show 1 + l.length + 1 ≤ 999 by omega)
  have NB2 := Lib.hid (show 1 + l.length + 1 + 1 ≤ 999 by omega)
  have NB3 := Lib.hid (show 1 + l.length + 1 + 1 + 1 ≤ 999 by omega)
  have KT0 := Lib.hid (show 0 < T by omega)
  have KT1 := Lib.hid (show 1 < T by omega)
  have KT2 := Lib.hid (show 2 < T by omega)
  have KP0 := Lib.hid (show 0 < n1 by omega)
  have KP1 := Lib.hid (show 1 < n1 by omega)
  have KP2 := Lib.hid (show 2 < n1 by omega)
  rw [hn1] at h0 h1 FF ⊢
  rw [hn2] at hl DD ⊢
  (try rw [hn1] at h3)
  (try rw [hn1] at hP3)
  have qN := neqW
  have qE := eqlW
  have X2 := Lib.hid (Box.alloc (Box.new w #[.int .i64 T, .slice (some ⟨bF, oF, none⟩) n1 c1, .slice y2 n2 c2] 25 rfl) (.cells #[.int .i64 xa, .int .u32 xb, .int .u32 xc, .int .i64 xt, .int .i64 zA, .int .i64 zB, .int .i64 zC, .bool lk] 75))
  have X3 := Lib.hid (Box.new (w.alloc (.cells #[.int .i64 T, .slice (some ⟨bF, oF, none⟩) n1 c1, .slice y2 n2 c2] 25)) #[.int .i64 xa, .int .u32 xb, .int .u32 xc, .int .i64 xt, .int .i64 zA, .int .i64 zB, .int .i64 zC, .bool lk] 75 (n := w.heap.size + 1) (by simp))
  have BB := Lib.hid hbb
  clear hbb hF hd hok hg hM e1 e2 hn2 hS
  go_enter Try.func5, Try.ntmps5
  go_wp2_with fail
  generalize (w.alloc (.cells #[.int .i64 T, .slice (some ⟨bF, oF, none⟩) n1 c1, .slice y2 n2 c2] 25)).alloc (.cells #[.int .i64 xa, .int .u32 xb, .int .u32 xc, .int .i64 xt, .int .i64 zA, .int .i64 zB, .int .i64 zC, .bool lk] 75) = W0 at *
  obtain ⟨b3, hb3⟩ : ∃ br, w.heap.size + 1 = br := ⟨_, rfl⟩
  obtain ⟨b2, hb2⟩ : ∃ bp, w.heap.size = bp := ⟨_, rfl⟩
  have hbq := hb2
  rw [hb3] at X3 ⊢
  rw [hb2] at X2 hb3 ⊢
  refine (awake_any _).mono ?_
  rintro e a0 ⟨rfl, hb⟩
  replace X2 := Lib.hid (X2.out.below (hb))
  replace X3 := Lib.hid (X3.out.below (hb))
  replace FF := Lib.hid (FF.out.below (hb))
  replace DD := Lib.hid (DD.out.below (hb))
  replace BB := Lib.hid (BB.out.trans ((hb).mono BB.out.size))
  clear hb
  obtain ⟨⟨m0, m1, m2⟩, -⟩ := X2.out.cells3
  go_wp2_with fail
  clear m0 m1 m2
  have hbg : Calls Try.prog 16 #[.agg #[.int .i64 T, .slice (some ⟨bF, oF, none⟩) n1 c1, .slice y2 n2 c2]] a0 fun e w' => ∃ pv vv, e = .returned (.tuple #[.agg #[pv, vv], .bool true]) ∧ MD (fun b => a0.heap.size ≤ b) w' pv vv M ∧ Below a0.heap.size a0 w' := by
    rcases FF.out with ⟨a', c', he', hw'⟩ | ⟨b', o', c', he', hbl, hcc⟩
    · exfalso; have hz := HN1.out; rw [hw'] at hz; simp at hz; omega
    · rw [HN1.out] at he'
      simp only [Value.slice.injEq, Option.some.injEq, Addr.mk.injEq, and_true] at he'
      obtain ⟨⟨rfl, rfl⟩, -, rfl⟩ := he'
      have hq := begun_ok T bF oF c1 ws (.slice y2 n2 c2) l a0 HW1.out (by rw [HN1.out]; omega) t0 t1 hbl hcc DD.out (by rw [HN2.out]; omega) HOK.out
      rw [HN1.out, HM.out] at hq
      exact hq
  refine (hbg).mono ?_
  rintro e a1 ⟨pv, vv, rfl, hm, hb⟩
  replace X2 := Lib.hid (X2.out.below (hb))
  replace X3 := Lib.hid (X3.out.below (hb))
  replace FF := Lib.hid (FF.out.below (hb))
  replace DD := Lib.hid (DD.out.below (hb))
  replace BB := Lib.hid (BB.out.trans ((hb).mono BB.out.size))
  clear hb
  have MM := Lib.hid (hm)
  clear hm hbg
  obtain ⟨u1, u2, e1, e2⟩ := MM.out.sl E1.out E2.out
  subst e1 e2
  clear FF
  clear DD
  clear X2
  go_upto_region 4 with fail
  replace MM := Lib.hid MM.out.addlt
  have hlt_b5 := BB.out.size
  have hlt_b5_X3 := X3.out.lt
  replace X3 := Lib.hid (X3.out.below (below_new a1 (.cells #[.slice u1 n1 n1, .slice u2 T T] 31)))
  replace MM := Lib.hid (MM.out.below (below_new a1 (.cells #[.slice u1 n1 n1, .slice u2 T T] 31)))
  replace BB := Lib.hid (BB.out.trans ((below_new a1 (.cells #[.slice u1 n1 n1, .slice u2 T T] 31)).mono BB.out.size))
  have B5 := Lib.hid (Box.new a1 #[.slice u1 n1 n1, .slice u2 T T] 31 rfl)
  have hsz_b5 : (World.alloc a1 (.cells #[.slice u1 n1 n1, .slice u2 T T] 31)).heap.size = (World.heap a1).size + 1 := by simp
  generalize World.alloc a1 (.cells #[.slice u1 n1 n1, .slice u2 T T] 31) = a2 at *
  generalize World.heap a1 = hp_b5 at *
  generalize hp_b5.size = b5 at *
  have hne_b3_b5 : b3 ≠ b5 := Nat.ne_of_lt hlt_b5_X3
  have hle_b5 := hlt_b5
  clear hlt_b5_X3 hlt_b5
  replace MM := Lib.hid (MM.out.imp (D' := fun b => b ≠ b5) (fun b hb => Nat.ne_of_lt hb.2))
  obtain ⟨⟨m0, m1⟩, g0, g1⟩ := B5.out.cells2
  go_wp2_with fail
  clear m0 m1 g0 g1
  refine (size_any u1 u2 n1 T _).mono ?_
  rintro e a3 ⟨rfl, hb⟩
  replace X3 := Lib.hid (X3.out.below (hb))
  replace MM := Lib.hid (MM.out.below (hb))
  replace B5 := Lib.hid (B5.out.below (hb))
  replace BB := Lib.hid (BB.out.trans ((hb).mono BB.out.size))
  clear hb
  go_upto_region 8 with fail
  have hl5q := B5.out.lt
  have hlt_b9 := BB.out.size
  have hlt_b9_X3 := X3.out.lt
  have hlt_b9_B5 := B5.out.lt
  replace X3 := Lib.hid (X3.out.below (below_new a3 (.cells #[.int .i64 77, .int .u32 1073741824, .int .u32 0] 45)))
  replace MM := Lib.hid (MM.out.below (below_new a3 (.cells #[.int .i64 77, .int .u32 1073741824, .int .u32 0] 45)))
  replace B5 := Lib.hid (B5.out.below (below_new a3 (.cells #[.int .i64 77, .int .u32 1073741824, .int .u32 0] 45)))
  replace BB := Lib.hid (BB.out.trans ((below_new a3 (.cells #[.int .i64 77, .int .u32 1073741824, .int .u32 0] 45)).mono BB.out.size))
  have B9 := Lib.hid (Box.new a3 #[.int .i64 77, .int .u32 1073741824, .int .u32 0] 45 rfl)
  have hsz_b9 : (World.alloc a3 (.cells #[.int .i64 77, .int .u32 1073741824, .int .u32 0] 45)).heap.size = (World.heap a3).size + 1 := by simp
  generalize World.alloc a3 (.cells #[.int .i64 77, .int .u32 1073741824, .int .u32 0] 45) = a4 at *
  generalize World.heap a3 = hp_b9 at *
  generalize hp_b9.size = b9 at *
  have hne_b9_b5 : b9 ≠ b5 := Nat.ne_of_gt hlt_b9_B5
  clear hlt_b9_X3 hlt_b9_B5 hlt_b9
  have hlt_b10 := BB.out.size
  replace X3 := Lib.hid (X3.out.below (below_new a4 (.cells #[.int .i64 78, .int .u32 1073741824, .int .u32 0] 45)))
  replace MM := Lib.hid (MM.out.below (below_new a4 (.cells #[.int .i64 78, .int .u32 1073741824, .int .u32 0] 45)))
  replace B5 := Lib.hid (B5.out.below (below_new a4 (.cells #[.int .i64 78, .int .u32 1073741824, .int .u32 0] 45)))
  replace B9 := Lib.hid (B9.out.below (below_new a4 (.cells #[.int .i64 78, .int .u32 1073741824, .int .u32 0] 45)))
  replace BB := Lib.hid (BB.out.trans ((below_new a4 (.cells #[.int .i64 78, .int .u32 1073741824, .int .u32 0] 45)).mono BB.out.size))
  have B10 := Lib.hid (Box.new a4 #[.int .i64 78, .int .u32 1073741824, .int .u32 0] 45 (n := b9 + 1) hsz_b9.symm)
  have hsz_b10 : (World.alloc a4 (.cells #[.int .i64 78, .int .u32 1073741824, .int .u32 0] 45)).heap.size = b9 + 1 + 1 := by simp [hsz_b9]
  rw [hsz_b9] at hlt_b10
  generalize World.alloc a4 (.cells #[.int .i64 78, .int .u32 1073741824, .int .u32 0] 45) = a5 at *
  obtain ⟨b10, hq_b10⟩ : ∃ b, b9 + 1 = b := ⟨_, rfl⟩
  rw [hq_b10] at B10 hsz_b10 ⊢
  have hne_b10_b5 : b10 ≠ b5 := by rw [← hq_b10]; omega
  clear hlt_b10 hl5q
  obtain ⟨⟨m0, m1⟩, g0, g1⟩ := B5.out.cells2
  obtain ⟨⟨n0, n1', n2'⟩, -⟩ := B9.out.cells3
  obtain ⟨⟨k0, k1, k2⟩, -⟩ := B10.out.cells3
  go_wp2_with fail
  clear m0 m1 g0 g1
  clear n0 n1' n2'
  clear k0 k1 k2
  refine (has_any _ _ M (1 + l.length) 1 77 1073741824 0 _ MM.out.mw HG.out (Nat.le_trans NB0.out (by decide)) (by rw [E1.out]; exact KP1.out)).mono ?_
  rintro e a6 ⟨rfl, hb⟩
  replace X3 := Lib.hid (X3.out.below (hb))
  replace MM := Lib.hid (MM.out.below (hb))
  replace B5 := Lib.hid (B5.out.below (hb))
  replace B9 := Lib.hid (B9.out.below (hb))
  replace B10 := Lib.hid (B10.out.below (hb))
  replace BB := Lib.hid (BB.out.trans ((hb).mono BB.out.size))
  clear hb
  rw [HHA.out]
  have F9 := BB.out
  go_wp2
  all_goals (go_ret; exact ⟨by simp, by first | exact F9 | (rw [← hbq]; exact F9)⟩)

set_option maxRecDepth 100000 in
set_option maxHeartbeats 6400000 in
theorem passes_has2 (T bF oF c1 : Nat) (ws : List Wd) (v : Value) (l : List DoV) (M : Mem) (hM : (newMem T ws).ress l = M) (xa xb xc xt zA zB zC : Int) (lk : Bool) (w : World) (h0 : 0 < ws.length) (h1 : ws.length ≤ 8) (t0 : 1 ≤ T) (t1 : T ≤ 8)
    (hF : IsWords w (.slice (some ⟨bF, oF, none⟩) ws.length c1) ws) (hd : IsDos w v l) (hl : l.length ≤ 40) (hok : DosOk l) (bt : -9223372036854775808 ≤ xt ∧ xt < 9223372036854775808) (bA : -9223372036854775808 ≤ zA ∧ zA < 9223372036854775808) (bB : -9223372036854775808 ≤ zB ∧ zB < 9223372036854775808) (bC : -9223372036854775808 ≤ zC ∧ zC < 9223372036854775808) (hT3 : 3 ≤ T) (hP3 : 3 ≤ ws.length) (hh : (M.hist 1).any (isW 77 1073741824 0) = false) (hh2 : (M.hist 2).any (isW 78 1073741824 0) = true) :
    Calls Try.prog 5 #[.agg #[.int .i64 T, .slice (some ⟨bF, oF, none⟩) ws.length c1, v], .agg #[.int .i64 xa, .int .u32 xb, .int .u32 xc, .int .i64 xt, .int .i64 zA, .int .i64 zB, .int .i64 zC, .bool lk]] w fun e w' => e = .returned (.bool true) ∧ Below w.heap.size w w' := by
  obtain ⟨y2, c2, rfl⟩ := hd.slice
  have hg := ress_good (newMem_good T ws (by omega) t1) l
  have hS := ress_sound (newMem_sound T ws) (newMem_good T ws (by omega) t1) l (by omega)
  rw [hM] at hg hS
  obtain ⟨n1, hn1⟩ : ∃ n, ws.length = n := ⟨_, rfl⟩
  obtain ⟨n2, hn2⟩ : ∃ n, l.length = n := ⟨_, rfl⟩
  have e1 : M.hs.length = n1 := by rw [hg.2.1]; simp [newMem, hn1]
  have e2 : M.vs.length = T := by rw [hg.2.2]; simp [newMem]
  have HHA := Lib.hid hh
  have HHB := Lib.hid hh2
  clear hh hh2
  have HM := Lib.hid hM
  have HG := Lib.hid hg.1
  have E1 := Lib.hid e1
  have E2 := Lib.hid e2
  have HN1 := Lib.hid hn1
  have HN2 := Lib.hid hn2
  have HOK := Lib.hid hok
  have HW1 := Lib.hid h0
  have hbb := b2 w (.cells #[.int .i64 T, .slice (some ⟨bF, oF, none⟩) n1 c1, .slice y2 n2 c2] 25) (.cells #[.int .i64 xa, .int .u32 xb, .int .u32 xc, .int .i64 xt, .int .i64 zA, .int .i64 zB, .int .i64 zC, .bool lk] 75)
  have FF := Lib.hid (hF.below hbb)
  have DD := Lib.hid (hd.below hbb)
  have HGL := Lib.hid (show 1 + l.length ≤ 41 by omega)
  have NB0 := Lib.hid (show 1 + l.length ≤ 999 by omega)
  have NB1 := Lib.hid (show 1 + l.length + 1 ≤ 999 by omega)
  have NB2 := Lib.hid (show 1 + l.length + 1 + 1 ≤ 999 by omega)
  have NB3 := Lib.hid (show 1 + l.length + 1 + 1 + 1 ≤ 999 by omega)
  have KT0 := Lib.hid (show 0 < T by omega)
  have KT1 := Lib.hid (show 1 < T by omega)
  have KT2 := Lib.hid (show 2 < T by omega)
  have KP0 := Lib.hid (show 0 < n1 by omega)
  have KP1 := Lib.hid (show 1 < n1 by omega)
  have KP2 := Lib.hid (show 2 < n1 by omega)
  rw [hn1] at h0 h1 FF ⊢
  rw [hn2] at hl DD ⊢
  (try rw [hn1] at h3)
  (try rw [hn1] at hP3)
  have qN := neqW
  have qE := eqlW
  have X2 := Lib.hid (Box.alloc (Box.new w #[.int .i64 T, .slice (some ⟨bF, oF, none⟩) n1 c1, .slice y2 n2 c2] 25 rfl) (.cells #[.int .i64 xa, .int .u32 xb, .int .u32 xc, .int .i64 xt, .int .i64 zA, .int .i64 zB, .int .i64 zC, .bool lk] 75))
  have X3 := Lib.hid (Box.new (w.alloc (.cells #[.int .i64 T, .slice (some ⟨bF, oF, none⟩) n1 c1, .slice y2 n2 c2] 25)) #[.int .i64 xa, .int .u32 xb, .int .u32 xc, .int .i64 xt, .int .i64 zA, .int .i64 zB, .int .i64 zC, .bool lk] 75 (n := w.heap.size + 1) (by simp))
  have BB := Lib.hid hbb
  clear hbb hF hd hok hg hM e1 e2 hn2 hS
  go_enter Try.func5, Try.ntmps5
  go_wp2_with fail
  generalize (w.alloc (.cells #[.int .i64 T, .slice (some ⟨bF, oF, none⟩) n1 c1, .slice y2 n2 c2] 25)).alloc (.cells #[.int .i64 xa, .int .u32 xb, .int .u32 xc, .int .i64 xt, .int .i64 zA, .int .i64 zB, .int .i64 zC, .bool lk] 75) = W0 at *
  obtain ⟨b3, hb3⟩ : ∃ br, w.heap.size + 1 = br := ⟨_, rfl⟩
  obtain ⟨b2, hb2⟩ : ∃ bp, w.heap.size = bp := ⟨_, rfl⟩
  have hbq := hb2
  rw [hb3] at X3 ⊢
  rw [hb2] at X2 hb3 ⊢
  refine (awake_any _).mono ?_
  rintro e a0 ⟨rfl, hb⟩
  replace X2 := Lib.hid (X2.out.below (hb))
  replace X3 := Lib.hid (X3.out.below (hb))
  replace FF := Lib.hid (FF.out.below (hb))
  replace DD := Lib.hid (DD.out.below (hb))
  replace BB := Lib.hid (BB.out.trans ((hb).mono BB.out.size))
  clear hb
  obtain ⟨⟨m0, m1, m2⟩, -⟩ := X2.out.cells3
  go_wp2_with fail
  clear m0 m1 m2
  have hbg : Calls Try.prog 16 #[.agg #[.int .i64 T, .slice (some ⟨bF, oF, none⟩) n1 c1, .slice y2 n2 c2]] a0 fun e w' => ∃ pv vv, e = .returned (.tuple #[.agg #[pv, vv], .bool true]) ∧ MD (fun b => a0.heap.size ≤ b) w' pv vv M ∧ Below a0.heap.size a0 w' := by
    rcases FF.out with ⟨a', c', he', hw'⟩ | ⟨b', o', c', he', hbl, hcc⟩
    · exfalso; have hz := HN1.out; rw [hw'] at hz; simp at hz; omega
    · rw [HN1.out] at he'
      simp only [Value.slice.injEq, Option.some.injEq, Addr.mk.injEq, and_true] at he'
      obtain ⟨⟨rfl, rfl⟩, -, rfl⟩ := he'
      have hq := begun_ok T bF oF c1 ws (.slice y2 n2 c2) l a0 HW1.out (by rw [HN1.out]; omega) t0 t1 hbl hcc DD.out (by rw [HN2.out]; omega) HOK.out
      rw [HN1.out, HM.out] at hq
      exact hq
  refine (hbg).mono ?_
  rintro e a1 ⟨pv, vv, rfl, hm, hb⟩
  replace X2 := Lib.hid (X2.out.below (hb))
  replace X3 := Lib.hid (X3.out.below (hb))
  replace FF := Lib.hid (FF.out.below (hb))
  replace DD := Lib.hid (DD.out.below (hb))
  replace BB := Lib.hid (BB.out.trans ((hb).mono BB.out.size))
  clear hb
  have MM := Lib.hid (hm)
  clear hm hbg
  obtain ⟨u1, u2, e1, e2⟩ := MM.out.sl E1.out E2.out
  subst e1 e2
  clear FF
  clear DD
  clear X2
  go_upto_region 4 with fail
  replace MM := Lib.hid MM.out.addlt
  have hlt_b5 := BB.out.size
  have hlt_b5_X3 := X3.out.lt
  replace X3 := Lib.hid (X3.out.below (below_new a1 (.cells #[.slice u1 n1 n1, .slice u2 T T] 31)))
  replace MM := Lib.hid (MM.out.below (below_new a1 (.cells #[.slice u1 n1 n1, .slice u2 T T] 31)))
  replace BB := Lib.hid (BB.out.trans ((below_new a1 (.cells #[.slice u1 n1 n1, .slice u2 T T] 31)).mono BB.out.size))
  have B5 := Lib.hid (Box.new a1 #[.slice u1 n1 n1, .slice u2 T T] 31 rfl)
  have hsz_b5 : (World.alloc a1 (.cells #[.slice u1 n1 n1, .slice u2 T T] 31)).heap.size = (World.heap a1).size + 1 := by simp
  generalize World.alloc a1 (.cells #[.slice u1 n1 n1, .slice u2 T T] 31) = a2 at *
  generalize World.heap a1 = hp_b5 at *
  generalize hp_b5.size = b5 at *
  have hne_b3_b5 : b3 ≠ b5 := Nat.ne_of_lt hlt_b5_X3
  have hle_b5 := hlt_b5
  clear hlt_b5_X3 hlt_b5
  replace MM := Lib.hid (MM.out.imp (D' := fun b => b ≠ b5) (fun b hb => Nat.ne_of_lt hb.2))
  obtain ⟨⟨m0, m1⟩, g0, g1⟩ := B5.out.cells2
  go_wp2_with fail
  clear m0 m1 g0 g1
  refine (size_any u1 u2 n1 T _).mono ?_
  rintro e a3 ⟨rfl, hb⟩
  replace X3 := Lib.hid (X3.out.below (hb))
  replace MM := Lib.hid (MM.out.below (hb))
  replace B5 := Lib.hid (B5.out.below (hb))
  replace BB := Lib.hid (BB.out.trans ((hb).mono BB.out.size))
  clear hb
  go_upto_region 8 with fail
  have hl5q := B5.out.lt
  have hlt_b9 := BB.out.size
  have hlt_b9_X3 := X3.out.lt
  have hlt_b9_B5 := B5.out.lt
  replace X3 := Lib.hid (X3.out.below (below_new a3 (.cells #[.int .i64 77, .int .u32 1073741824, .int .u32 0] 45)))
  replace MM := Lib.hid (MM.out.below (below_new a3 (.cells #[.int .i64 77, .int .u32 1073741824, .int .u32 0] 45)))
  replace B5 := Lib.hid (B5.out.below (below_new a3 (.cells #[.int .i64 77, .int .u32 1073741824, .int .u32 0] 45)))
  replace BB := Lib.hid (BB.out.trans ((below_new a3 (.cells #[.int .i64 77, .int .u32 1073741824, .int .u32 0] 45)).mono BB.out.size))
  have B9 := Lib.hid (Box.new a3 #[.int .i64 77, .int .u32 1073741824, .int .u32 0] 45 rfl)
  have hsz_b9 : (World.alloc a3 (.cells #[.int .i64 77, .int .u32 1073741824, .int .u32 0] 45)).heap.size = (World.heap a3).size + 1 := by simp
  generalize World.alloc a3 (.cells #[.int .i64 77, .int .u32 1073741824, .int .u32 0] 45) = a4 at *
  generalize World.heap a3 = hp_b9 at *
  generalize hp_b9.size = b9 at *
  have hne_b9_b5 : b9 ≠ b5 := Nat.ne_of_gt hlt_b9_B5
  clear hlt_b9_X3 hlt_b9_B5 hlt_b9
  have hlt_b10 := BB.out.size
  replace X3 := Lib.hid (X3.out.below (below_new a4 (.cells #[.int .i64 78, .int .u32 1073741824, .int .u32 0] 45)))
  replace MM := Lib.hid (MM.out.below (below_new a4 (.cells #[.int .i64 78, .int .u32 1073741824, .int .u32 0] 45)))
  replace B5 := Lib.hid (B5.out.below (below_new a4 (.cells #[.int .i64 78, .int .u32 1073741824, .int .u32 0] 45)))
  replace B9 := Lib.hid (B9.out.below (below_new a4 (.cells #[.int .i64 78, .int .u32 1073741824, .int .u32 0] 45)))
  replace BB := Lib.hid (BB.out.trans ((below_new a4 (.cells #[.int .i64 78, .int .u32 1073741824, .int .u32 0] 45)).mono BB.out.size))
  have B10 := Lib.hid (Box.new a4 #[.int .i64 78, .int .u32 1073741824, .int .u32 0] 45 (n := b9 + 1) hsz_b9.symm)
  have hsz_b10 : (World.alloc a4 (.cells #[.int .i64 78, .int .u32 1073741824, .int .u32 0] 45)).heap.size = b9 + 1 + 1 := by simp [hsz_b9]
  rw [hsz_b9] at hlt_b10
  generalize World.alloc a4 (.cells #[.int .i64 78, .int .u32 1073741824, .int .u32 0] 45) = a5 at *
  obtain ⟨b10, hq_b10⟩ : ∃ b, b9 + 1 = b := ⟨_, rfl⟩
  rw [hq_b10] at B10 hsz_b10 ⊢
  have hne_b10_b5 : b10 ≠ b5 := by rw [← hq_b10]; omega
  clear hlt_b10 hl5q
  obtain ⟨⟨m0, m1⟩, g0, g1⟩ := B5.out.cells2
  obtain ⟨⟨n0, n1', n2'⟩, -⟩ := B9.out.cells3
  obtain ⟨⟨k0, k1, k2⟩, -⟩ := B10.out.cells3
  go_wp2_with fail
  clear m0 m1 g0 g1
  clear n0 n1' n2'
  clear k0 k1 k2
  refine (has_any _ _ M (1 + l.length) 1 77 1073741824 0 _ MM.out.mw HG.out (Nat.le_trans NB0.out (by decide)) (by rw [E1.out]; exact KP1.out)).mono ?_
  rintro e a6 ⟨rfl, hb⟩
  replace X3 := Lib.hid (X3.out.below (hb))
  replace MM := Lib.hid (MM.out.below (hb))
  replace B5 := Lib.hid (B5.out.below (hb))
  replace B9 := Lib.hid (B9.out.below (hb))
  replace B10 := Lib.hid (B10.out.below (hb))
  replace BB := Lib.hid (BB.out.trans ((hb).mono BB.out.size))
  clear hb
  rw [HHA.out]
  obtain ⟨⟨m0, m1⟩, g0, g1⟩ := B5.out.cells2
  obtain ⟨⟨n0, n1', n2'⟩, -⟩ := B9.out.cells3
  obtain ⟨⟨k0, k1, k2⟩, -⟩ := B10.out.cells3
  go_wp2_with fail
  clear m0 m1 g0 g1
  clear n0 n1' n2'
  clear k0 k1 k2
  refine (has_any _ _ M (1 + l.length) 2 78 1073741824 0 _ MM.out.mw HG.out (Nat.le_trans NB0.out (by decide)) (by rw [E1.out]; exact KP2.out)).mono ?_
  rintro e a7 ⟨rfl, hb⟩
  replace X3 := Lib.hid (X3.out.below (hb))
  replace MM := Lib.hid (MM.out.below (hb))
  replace B5 := Lib.hid (B5.out.below (hb))
  replace B9 := Lib.hid (B9.out.below (hb))
  replace B10 := Lib.hid (B10.out.below (hb))
  replace BB := Lib.hid (BB.out.trans ((hb).mono BB.out.size))
  clear hb
  rw [HHB.out]
  have F9 := BB.out
  go_wp2
  all_goals (go_ret; exact ⟨by simp, by first | exact F9 | (rw [← hbq]; exact F9)⟩)

set_option maxRecDepth 100000 in
set_option maxHeartbeats 6400000 in
theorem passes_other (T bF oF c1 : Nat) (ws : List Wd) (v : Value) (l : List DoV) (M : Mem) (hM : (newMem T ws).ress l = M) (xa xb xc xt zA zB zC : Int) (w : World) (h0 : 0 < ws.length) (h1 : ws.length ≤ 8) (t0 : 1 ≤ T) (t1 : T ≤ 8)
    (hF : IsWords w (.slice (some ⟨bF, oF, none⟩) ws.length c1) ws) (hd : IsDos w v l) (hl : l.length ≤ 40) (hok : DosOk l) (bt : -9223372036854775808 ≤ xt ∧ xt < 9223372036854775808) (bA : -9223372036854775808 ≤ zA ∧ zA < 9223372036854775808) (bB : -9223372036854775808 ≤ zB ∧ zB < 9223372036854775808) (bC : -9223372036854775808 ≤ zC ∧ zC < 9223372036854775808) (hT3 : 3 ≤ T) (hP3 : 3 ≤ ws.length) (hh : (M.hist 1).any (isW 77 1073741824 0) = false) (hh2 : (M.hist 2).any (isW 78 1073741824 0) = false) (hi : (chooseL (((M.writeAt 0 0 xa xb xc false).writeAt 0 1 77 1073741824 0 true).hist 1).length (atL (((M.writeAt 0 0 xa xb xc false).writeAt 0 1 77 1073741824 0 true).view 1) (1 : Nat)) zA).toNat < (M.hist 1).length) :
    Calls Try.prog 5 #[.agg #[.int .i64 T, .slice (some ⟨bF, oF, none⟩) ws.length c1, v], .agg #[.int .i64 xa, .int .u32 xb, .int .u32 xc, .int .i64 xt, .int .i64 zA, .int .i64 zB, .int .i64 zC, .bool false]] w fun e w' => e = .returned (.bool true) ∧ Below w.heap.size w w' := by
  obtain ⟨y2, c2, rfl⟩ := hd.slice
  have hg := ress_good (newMem_good T ws (by omega) t1) l
  have hS := ress_sound (newMem_sound T ws) (newMem_good T ws (by omega) t1) l (by omega)
  rw [hM] at hg hS
  obtain ⟨n1, hn1⟩ : ∃ n, ws.length = n := ⟨_, rfl⟩
  obtain ⟨n2, hn2⟩ : ∃ n, l.length = n := ⟨_, rfl⟩
  have e1 : M.hs.length = n1 := by rw [hg.2.1]; simp [newMem, hn1]
  have e2 : M.vs.length = T := by rw [hg.2.2]; simp [newMem]
  have HHA := Lib.hid hh
  have HHB := Lib.hid hh2
  have hlen : ∀ p, p < 3 → 0 < (M.hist p).length ∧ (M.hist p).length ≤ 41 := fun p hp => by have := hg.1.hist (p := p) (by omega); omega
  have hl0 := hlen 0 (by omega)
  have hl1' := hlen 1 (by omega)
  have hl2' := hlen 2 (by omega)
  obtain ⟨PA, hw0, hw1⟩ := pass_two hS (by omega) (by omega) (by omega) (fun p hp => by have := hlen p hp; omega) xa xb xc 77 1073741824 0
  have G1 := hg.1.writeAt 0 0 xa xb xc false (by omega)
  obtain ⟨M1, hM1⟩ : ∃ M1, M.writeAt 0 0 xa xb xc false = M1 := ⟨_, rfl⟩
  have f1 : M1.hs.length = n1 := by rw [← hM1, writeAt_len]; exact e1
  have f1v : M1.vs.length = T := by rw [← hM1]; simp [Mem.writeAt]; exact e2
  rw [hM1] at PA hw0 hw1 G1 hi
  have G2 := G1.writeAt 0 1 77 1073741824 0 true (by omega)
  obtain ⟨M2, hM2⟩ : ∃ M2, M1.writeAt 0 1 77 1073741824 0 true = M2 := ⟨_, rfl⟩
  have f2 : M2.hs.length = n1 := by rw [← hM2, writeAt_len]; exact f1
  have f2v : M2.vs.length = T := by rw [← hM2]; simp [Mem.writeAt]; exact f1v
  rw [hM2] at PA hw0 hw1 G2 hi
  obtain ⟨i, hi'⟩ : ∃ i, (chooseL (M2.hist 1).length (atL (M2.view 1) (1 : Nat)) zA).toNat = i := ⟨_, rfl⟩
  rw [hi'] at hi
  have G3 := G2.readAt 1 1 i true
  obtain ⟨M3, hM3⟩ : ∃ M3, M2.readAt 1 1 i true = M3 := ⟨_, rfl⟩
  rw [hM3] at G3
  have f3 : M3.hs.length = n1 := by rw [← hM3]; exact f2
  have f3v : M3.vs.length = T := by rw [← hM3]; simp [Mem.readAt]; exact f2v
  obtain ⟨ga, gb, gc, hgw, hgn⟩ : ∃ x y z, wordV (M2.msg 1 i) = .agg #[.int .i64 x, .int .u32 y, .int .u32 z] ∧ (x == 77 && (y == 1073741824 && z == 0)) = false := by
    refine isW_no ?_
    rw [PA.m1 i hi]; exact getD_any hh hi
  have HI2 := Lib.hid (hi')
  have HM1 := Lib.hid (hM1)
  have HM2 := Lib.hid (hM2)
  have HM3 := Lib.hid (hM3)
  have HGW := Lib.hid (hgw)
  have F1 := Lib.hid (f1)
  have F1V := Lib.hid (f1v)
  have F2 := Lib.hid (f2)
  have F2V := Lib.hid (f2v)
  have F3 := Lib.hid (f3)
  have F3V := Lib.hid (f3v)
  have HG1 := Lib.hid (G1)
  have HG2 := Lib.hid (G2)
  have HG3 := Lib.hid (G3)
  clear PA hw0 hw1 hM1 hM2 hM3 f1 f1v f2 f2v f3 f3v G1 G2 G3 hlen hgw hi'
  clear hh hh2
  have HM := Lib.hid hM
  have HG := Lib.hid hg.1
  have E1 := Lib.hid e1
  have E2 := Lib.hid e2
  have HN1 := Lib.hid hn1
  have HN2 := Lib.hid hn2
  have HOK := Lib.hid hok
  have HW1 := Lib.hid h0
  have hbb := b2 w (.cells #[.int .i64 T, .slice (some ⟨bF, oF, none⟩) n1 c1, .slice y2 n2 c2] 25) (.cells #[.int .i64 xa, .int .u32 xb, .int .u32 xc, .int .i64 xt, .int .i64 zA, .int .i64 zB, .int .i64 zC, .bool false] 75)
  have FF := Lib.hid (hF.below hbb)
  have DD := Lib.hid (hd.below hbb)
  have HGL := Lib.hid (show 1 + l.length ≤ 41 by omega)
  have NB0 := Lib.hid (show 1 + l.length ≤ 999 by omega)
  have NB1 := Lib.hid (show 1 + l.length + 1 ≤ 999 by omega)
  have NB2 := Lib.hid (show 1 + l.length + 1 + 1 ≤ 999 by omega)
  have NB3 := Lib.hid (show 1 + l.length + 1 + 1 + 1 ≤ 999 by omega)
  have KT0 := Lib.hid (show 0 < T by omega)
  have KT1 := Lib.hid (show 1 < T by omega)
  have KT2 := Lib.hid (show 2 < T by omega)
  have KP0 := Lib.hid (show 0 < n1 by omega)
  have KP1 := Lib.hid (show 1 < n1 by omega)
  have KP2 := Lib.hid (show 2 < n1 by omega)
  rw [hn1] at h0 h1 FF ⊢
  rw [hn2] at hl DD ⊢
  (try rw [hn1] at h3)
  (try rw [hn1] at hP3)
  have qN := neqW
  have qE := eqlW
  have X2 := Lib.hid (Box.alloc (Box.new w #[.int .i64 T, .slice (some ⟨bF, oF, none⟩) n1 c1, .slice y2 n2 c2] 25 rfl) (.cells #[.int .i64 xa, .int .u32 xb, .int .u32 xc, .int .i64 xt, .int .i64 zA, .int .i64 zB, .int .i64 zC, .bool false] 75))
  have X3 := Lib.hid (Box.new (w.alloc (.cells #[.int .i64 T, .slice (some ⟨bF, oF, none⟩) n1 c1, .slice y2 n2 c2] 25)) #[.int .i64 xa, .int .u32 xb, .int .u32 xc, .int .i64 xt, .int .i64 zA, .int .i64 zB, .int .i64 zC, .bool false] 75 (n := w.heap.size + 1) (by simp))
  have BB := Lib.hid hbb
  clear hbb hF hd hok hg hM e1 e2 hn2 hS
  go_enter Try.func5, Try.ntmps5
  go_wp2_with fail
  generalize (w.alloc (.cells #[.int .i64 T, .slice (some ⟨bF, oF, none⟩) n1 c1, .slice y2 n2 c2] 25)).alloc (.cells #[.int .i64 xa, .int .u32 xb, .int .u32 xc, .int .i64 xt, .int .i64 zA, .int .i64 zB, .int .i64 zC, .bool false] 75) = W0 at *
  obtain ⟨b3, hb3⟩ : ∃ br, w.heap.size + 1 = br := ⟨_, rfl⟩
  obtain ⟨b2, hb2⟩ : ∃ bp, w.heap.size = bp := ⟨_, rfl⟩
  have hbq := hb2
  rw [hb3] at X3 ⊢
  rw [hb2] at X2 hb3 ⊢
  refine (awake_any _).mono ?_
  rintro e a0 ⟨rfl, hb⟩
  replace X2 := Lib.hid (X2.out.below (hb))
  replace X3 := Lib.hid (X3.out.below (hb))
  replace FF := Lib.hid (FF.out.below (hb))
  replace DD := Lib.hid (DD.out.below (hb))
  replace BB := Lib.hid (BB.out.trans ((hb).mono BB.out.size))
  clear hb
  obtain ⟨⟨m0, m1, m2⟩, -⟩ := X2.out.cells3
  go_wp2_with fail
  clear m0 m1 m2
  have hbg : Calls Try.prog 16 #[.agg #[.int .i64 T, .slice (some ⟨bF, oF, none⟩) n1 c1, .slice y2 n2 c2]] a0 fun e w' => ∃ pv vv, e = .returned (.tuple #[.agg #[pv, vv], .bool true]) ∧ MD (fun b => a0.heap.size ≤ b) w' pv vv M ∧ Below a0.heap.size a0 w' := by
    rcases FF.out with ⟨a', c', he', hw'⟩ | ⟨b', o', c', he', hbl, hcc⟩
    · exfalso; have hz := HN1.out; rw [hw'] at hz; simp at hz; omega
    · rw [HN1.out] at he'
      simp only [Value.slice.injEq, Option.some.injEq, Addr.mk.injEq, and_true] at he'
      obtain ⟨⟨rfl, rfl⟩, -, rfl⟩ := he'
      have hq := begun_ok T bF oF c1 ws (.slice y2 n2 c2) l a0 HW1.out (by rw [HN1.out]; omega) t0 t1 hbl hcc DD.out (by rw [HN2.out]; omega) HOK.out
      rw [HN1.out, HM.out] at hq
      exact hq
  refine (hbg).mono ?_
  rintro e a1 ⟨pv, vv, rfl, hm, hb⟩
  replace X2 := Lib.hid (X2.out.below (hb))
  replace X3 := Lib.hid (X3.out.below (hb))
  replace FF := Lib.hid (FF.out.below (hb))
  replace DD := Lib.hid (DD.out.below (hb))
  replace BB := Lib.hid (BB.out.trans ((hb).mono BB.out.size))
  clear hb
  have MM := Lib.hid (hm)
  clear hm hbg
  obtain ⟨u1, u2, e1, e2⟩ := MM.out.sl E1.out E2.out
  subst e1 e2
  clear FF
  clear DD
  clear X2
  go_upto_region 4 with fail
  replace MM := Lib.hid MM.out.addlt
  have hlt_b5 := BB.out.size
  have hlt_b5_X3 := X3.out.lt
  replace X3 := Lib.hid (X3.out.below (below_new a1 (.cells #[.slice u1 n1 n1, .slice u2 T T] 31)))
  replace MM := Lib.hid (MM.out.below (below_new a1 (.cells #[.slice u1 n1 n1, .slice u2 T T] 31)))
  replace BB := Lib.hid (BB.out.trans ((below_new a1 (.cells #[.slice u1 n1 n1, .slice u2 T T] 31)).mono BB.out.size))
  have B5 := Lib.hid (Box.new a1 #[.slice u1 n1 n1, .slice u2 T T] 31 rfl)
  have hsz_b5 : (World.alloc a1 (.cells #[.slice u1 n1 n1, .slice u2 T T] 31)).heap.size = (World.heap a1).size + 1 := by simp
  generalize World.alloc a1 (.cells #[.slice u1 n1 n1, .slice u2 T T] 31) = a2 at *
  generalize World.heap a1 = hp_b5 at *
  generalize hp_b5.size = b5 at *
  have hne_b3_b5 : b3 ≠ b5 := Nat.ne_of_lt hlt_b5_X3
  have hle_b5 := hlt_b5
  clear hlt_b5_X3 hlt_b5
  replace MM := Lib.hid (MM.out.imp (D' := fun b => b ≠ b5) (fun b hb => Nat.ne_of_lt hb.2))
  obtain ⟨⟨m0, m1⟩, g0, g1⟩ := B5.out.cells2
  go_wp2_with fail
  clear m0 m1 g0 g1
  refine (size_any u1 u2 n1 T _).mono ?_
  rintro e a3 ⟨rfl, hb⟩
  replace X3 := Lib.hid (X3.out.below (hb))
  replace MM := Lib.hid (MM.out.below (hb))
  replace B5 := Lib.hid (B5.out.below (hb))
  replace BB := Lib.hid (BB.out.trans ((hb).mono BB.out.size))
  clear hb
  go_upto_region 8 with fail
  have hl5q := B5.out.lt
  have hlt_b9 := BB.out.size
  have hlt_b9_X3 := X3.out.lt
  have hlt_b9_B5 := B5.out.lt
  replace X3 := Lib.hid (X3.out.below (below_new a3 (.cells #[.int .i64 77, .int .u32 1073741824, .int .u32 0] 45)))
  replace MM := Lib.hid (MM.out.below (below_new a3 (.cells #[.int .i64 77, .int .u32 1073741824, .int .u32 0] 45)))
  replace B5 := Lib.hid (B5.out.below (below_new a3 (.cells #[.int .i64 77, .int .u32 1073741824, .int .u32 0] 45)))
  replace BB := Lib.hid (BB.out.trans ((below_new a3 (.cells #[.int .i64 77, .int .u32 1073741824, .int .u32 0] 45)).mono BB.out.size))
  have B9 := Lib.hid (Box.new a3 #[.int .i64 77, .int .u32 1073741824, .int .u32 0] 45 rfl)
  have hsz_b9 : (World.alloc a3 (.cells #[.int .i64 77, .int .u32 1073741824, .int .u32 0] 45)).heap.size = (World.heap a3).size + 1 := by simp
  generalize World.alloc a3 (.cells #[.int .i64 77, .int .u32 1073741824, .int .u32 0] 45) = a4 at *
  generalize World.heap a3 = hp_b9 at *
  generalize hp_b9.size = b9 at *
  have hne_b9_b5 : b9 ≠ b5 := Nat.ne_of_gt hlt_b9_B5
  clear hlt_b9_X3 hlt_b9_B5 hlt_b9
  have hlt_b10 := BB.out.size
  replace X3 := Lib.hid (X3.out.below (below_new a4 (.cells #[.int .i64 78, .int .u32 1073741824, .int .u32 0] 45)))
  replace MM := Lib.hid (MM.out.below (below_new a4 (.cells #[.int .i64 78, .int .u32 1073741824, .int .u32 0] 45)))
  replace B5 := Lib.hid (B5.out.below (below_new a4 (.cells #[.int .i64 78, .int .u32 1073741824, .int .u32 0] 45)))
  replace B9 := Lib.hid (B9.out.below (below_new a4 (.cells #[.int .i64 78, .int .u32 1073741824, .int .u32 0] 45)))
  replace BB := Lib.hid (BB.out.trans ((below_new a4 (.cells #[.int .i64 78, .int .u32 1073741824, .int .u32 0] 45)).mono BB.out.size))
  have B10 := Lib.hid (Box.new a4 #[.int .i64 78, .int .u32 1073741824, .int .u32 0] 45 (n := b9 + 1) hsz_b9.symm)
  have hsz_b10 : (World.alloc a4 (.cells #[.int .i64 78, .int .u32 1073741824, .int .u32 0] 45)).heap.size = b9 + 1 + 1 := by simp [hsz_b9]
  rw [hsz_b9] at hlt_b10
  generalize World.alloc a4 (.cells #[.int .i64 78, .int .u32 1073741824, .int .u32 0] 45) = a5 at *
  obtain ⟨b10, hq_b10⟩ : ∃ b, b9 + 1 = b := ⟨_, rfl⟩
  rw [hq_b10] at B10 hsz_b10 ⊢
  have hne_b10_b5 : b10 ≠ b5 := by rw [← hq_b10]; omega
  clear hlt_b10 hl5q
  obtain ⟨⟨m0, m1⟩, g0, g1⟩ := B5.out.cells2
  obtain ⟨⟨n0, n1', n2'⟩, -⟩ := B9.out.cells3
  obtain ⟨⟨k0, k1, k2⟩, -⟩ := B10.out.cells3
  go_wp2_with fail
  clear m0 m1 g0 g1
  clear n0 n1' n2'
  clear k0 k1 k2
  refine (has_any _ _ M (1 + l.length) 1 77 1073741824 0 _ MM.out.mw HG.out (Nat.le_trans NB0.out (by decide)) (by rw [E1.out]; exact KP1.out)).mono ?_
  rintro e a6 ⟨rfl, hb⟩
  replace X3 := Lib.hid (X3.out.below (hb))
  replace MM := Lib.hid (MM.out.below (hb))
  replace B5 := Lib.hid (B5.out.below (hb))
  replace B9 := Lib.hid (B9.out.below (hb))
  replace B10 := Lib.hid (B10.out.below (hb))
  replace BB := Lib.hid (BB.out.trans ((hb).mono BB.out.size))
  clear hb
  rw [HHA.out]
  obtain ⟨⟨m0, m1⟩, g0, g1⟩ := B5.out.cells2
  obtain ⟨⟨n0, n1', n2'⟩, -⟩ := B9.out.cells3
  obtain ⟨⟨k0, k1, k2⟩, -⟩ := B10.out.cells3
  go_wp2_with fail
  clear m0 m1 g0 g1
  clear n0 n1' n2'
  clear k0 k1 k2
  refine (has_any _ _ M (1 + l.length) 2 78 1073741824 0 _ MM.out.mw HG.out (Nat.le_trans NB0.out (by decide)) (by rw [E1.out]; exact KP2.out)).mono ?_
  rintro e a7 ⟨rfl, hb⟩
  replace X3 := Lib.hid (X3.out.below (hb))
  replace MM := Lib.hid (MM.out.below (hb))
  replace B5 := Lib.hid (B5.out.below (hb))
  replace B9 := Lib.hid (B9.out.below (hb))
  replace B10 := Lib.hid (B10.out.below (hb))
  replace BB := Lib.hid (BB.out.trans ((hb).mono BB.out.size))
  clear hb
  rw [HHB.out]
  obtain ⟨⟨m0, m1⟩, g0, g1⟩ := B5.out.cells2
  obtain ⟨d0, d1, d2, d3, d4, d5, d6, d7⟩ := X3.out.all8
  go_wp2_with fail
  clear m0 m1 g0 g1
  clear d0 d1 d2 d3 d4 d5 d6 d7
  have hlc := B5.out.lt
  refine (store_plain _ _ M (1 + l.length) 0 0 xa xb xc _ _ MM.out HG.out NB0.out (by rw [E2.out]; exact KT0.out) (by rw [E1.out]; exact KP0.out)).mono ?_
  rintro e a8 ⟨pv, vv, rfl, hm, hb⟩
  replace X3 := Lib.hid (X3.out.below (hb))
  replace MM := Lib.hid (MM.out.below (hb))
  replace B5 := Lib.hid (B5.out.below (hb))
  replace B9 := Lib.hid (B9.out.below (hb))
  replace B10 := Lib.hid (B10.out.below (hb))
  replace BB := Lib.hid (BB.out.trans ((hb).mono BB.out.size))
  clear hb
  have MX := Lib.hid (hm)
  clear hm
  clear MM
  rw [HM1.out] at MX
  have MM := Lib.hid (MX.out.imp (D' := fun b => b ≠ b5) (fun b hb => hb.elim id (fun h e => absurd (e ▸ h) (Nat.not_le_of_lt hlc))))
  clear MX hlc
  obtain ⟨p1, v1, e1, e2⟩ := MM.out.sl F1.out F1V.out
  subst e1 e2
  obtain ⟨⟨m0, m1⟩, g0, g1⟩ := B5.out.cells2
  go_upto_region 11 with fail
  clear m0 m1 g0 g1
  replace X3 := Lib.hid (X3.out.only hne_b3_b5 (((Only.refl b5 a8).set 0 (.slice p1 n1 n1)).set 1 (.slice v1 T T)))
  replace B9 := Lib.hid (B9.out.only hne_b9_b5 (((Only.refl b5 a8).set 0 (.slice p1 n1 n1)).set 1 (.slice v1 T T)))
  replace B10 := Lib.hid (B10.out.only hne_b10_b5 (((Only.refl b5 a8).set 0 (.slice p1 n1 n1)).set 1 (.slice v1 T T)))
  replace MM := Lib.hid (MM.out.only B5.out (by simp) (((Only.refl b5 a8).set 0 (.slice p1 n1 n1)).set 1 (.slice v1 T T)))
  replace BB := Lib.hid (((BB.out).put b5 hle_b5 0 (.slice p1 n1 n1)).put b5 hle_b5 1 (.slice v1 T T))
  replace B5 : Hid (Box (World.setCell (World.setCell a8 ⟨b5, 0, none⟩ (.slice p1 n1 n1)) ⟨b5, 1, none⟩ (.slice v1 T T)) b5 #[.slice p1 n1 n1, .slice v1 T T] 31) := Lib.hid (((B5.out).set 0 (.slice p1 n1 n1)).set 1 (.slice v1 T T))
  generalize (World.setCell (World.setCell a8 ⟨b5, 0, none⟩ (.slice p1 n1 n1)) ⟨b5, 1, none⟩ (.slice v1 T T)) = s1 at *
  obtain ⟨⟨m0, m1⟩, g0, g1⟩ := B5.out.cells2
  obtain ⟨⟨n0, n1', n2'⟩, -⟩ := B9.out.cells3
  go_wp2_with fail
  clear m0 m1 g0 g1
  clear n0 n1' n2'
  have hlc := B5.out.lt
  refine (store_rel _ _ M1 (1 + l.length + 1) 0 1 77 1073741824 0 _ _ MM.out HG1.out NB1.out (by rw [F1V.out]; exact KT0.out) (by rw [F1.out]; exact KP1.out)).mono ?_
  rintro e a9 ⟨pv, vv, rfl, hm, hb⟩
  replace X3 := Lib.hid (X3.out.below (hb))
  replace B5 := Lib.hid (B5.out.below (hb))
  replace B9 := Lib.hid (B9.out.below (hb))
  replace B10 := Lib.hid (B10.out.below (hb))
  replace MM := Lib.hid (MM.out.below (hb))
  replace BB := Lib.hid (BB.out.trans ((hb).mono BB.out.size))
  clear hb
  have MX := Lib.hid (hm)
  clear hm
  clear MM
  rw [HM2.out] at MX
  have MM := Lib.hid (MX.out.imp (D' := fun b => b ≠ b5) (fun b hb => hb.elim id (fun h e => absurd (e ▸ h) (Nat.not_le_of_lt hlc))))
  clear MX hlc
  obtain ⟨p2, v2, e1, e2⟩ := MM.out.sl F2.out F2V.out
  subst e1 e2
  obtain ⟨⟨m0, m1⟩, g0, g1⟩ := B5.out.cells2
  go_upto_region 12 with fail
  clear m0 m1 g0 g1
  replace X3 := Lib.hid (X3.out.only hne_b3_b5 (((Only.refl b5 a9).set 0 (.slice p2 n1 n1)).set 1 (.slice v2 T T)))
  replace B9 := Lib.hid (B9.out.only hne_b9_b5 (((Only.refl b5 a9).set 0 (.slice p2 n1 n1)).set 1 (.slice v2 T T)))
  replace B10 := Lib.hid (B10.out.only hne_b10_b5 (((Only.refl b5 a9).set 0 (.slice p2 n1 n1)).set 1 (.slice v2 T T)))
  replace MM := Lib.hid (MM.out.only B5.out (by simp) (((Only.refl b5 a9).set 0 (.slice p2 n1 n1)).set 1 (.slice v2 T T)))
  replace BB := Lib.hid (((BB.out).put b5 hle_b5 0 (.slice p2 n1 n1)).put b5 hle_b5 1 (.slice v2 T T))
  replace B5 : Hid (Box (World.setCell (World.setCell a9 ⟨b5, 0, none⟩ (.slice p2 n1 n1)) ⟨b5, 1, none⟩ (.slice v2 T T)) b5 #[.slice p2 n1 n1, .slice v2 T T] 31) := Lib.hid (((B5.out).set 0 (.slice p2 n1 n1)).set 1 (.slice v2 T T))
  generalize (World.setCell (World.setCell a9 ⟨b5, 0, none⟩ (.slice p2 n1 n1)) ⟨b5, 1, none⟩ (.slice v2 T T)) = s2 at *
  go_upto_region 13 with fail
  replace MM := Lib.hid MM.out.addlt
  have hlt_b13 := BB.out.size
  have hlt_b13_X3 := X3.out.lt
  have hlt_b13_B5 := B5.out.lt
  have hlt_b13_B9 := B9.out.lt
  have hlt_b13_B10 := B10.out.lt
  replace X3 := Lib.hid (X3.out.below (below_new s2 (.cells #[.int .i64 0, .int .u32 0, .int .u32 0] 45)))
  replace B5 := Lib.hid (B5.out.below (below_new s2 (.cells #[.int .i64 0, .int .u32 0, .int .u32 0] 45)))
  replace B9 := Lib.hid (B9.out.below (below_new s2 (.cells #[.int .i64 0, .int .u32 0, .int .u32 0] 45)))
  replace B10 := Lib.hid (B10.out.below (below_new s2 (.cells #[.int .i64 0, .int .u32 0, .int .u32 0] 45)))
  replace MM := Lib.hid (MM.out.below (below_new s2 (.cells #[.int .i64 0, .int .u32 0, .int .u32 0] 45)))
  replace BB := Lib.hid (BB.out.trans ((below_new s2 (.cells #[.int .i64 0, .int .u32 0, .int .u32 0] 45)).mono BB.out.size))
  have B13 := Lib.hid (Box.new s2 #[.int .i64 0, .int .u32 0, .int .u32 0] 45 rfl)
  have hsz_b13 : (World.alloc s2 (.cells #[.int .i64 0, .int .u32 0, .int .u32 0] 45)).heap.size = (World.heap s2).size + 1 := by simp
  generalize World.alloc s2 (.cells #[.int .i64 0, .int .u32 0, .int .u32 0] 45) = a10 at *
  generalize World.heap s2 = hp_b13 at *
  generalize hp_b13.size = b13 at *
  have hne_b13_b5 : b13 ≠ b5 := Nat.ne_of_gt hlt_b13_B5
  have hne_b3_b13 : b3 ≠ b13 := Nat.ne_of_lt hlt_b13_X3
  have hne_b5_b13 : b5 ≠ b13 := Nat.ne_of_lt hlt_b13_B5
  have hne_b9_b13 : b9 ≠ b13 := Nat.ne_of_lt hlt_b13_B9
  have hne_b10_b13 : b10 ≠ b13 := Nat.ne_of_lt hlt_b13_B10
  have hle_b13 := hlt_b13
  clear hlt_b13_X3 hlt_b13_B5 hlt_b13_B9 hlt_b13_B10 hlt_b13
  replace MM := Lib.hid (MM.out.imp (D' := fun b => b ≠ b5 ∧ b ≠ b13) (fun b hb => ⟨hb.1, Nat.ne_of_lt hb.2⟩))
  obtain ⟨⟨m0, m1⟩, g0, g1⟩ := B5.out.cells2
  obtain ⟨d0, d1, d2, d3, d4, d5, d6, d7⟩ := X3.out.all8
  go_wp2_with fail
  clear m0 m1 g0 g1
  clear d0 d1 d2 d3 d4 d5 d6 d7
  have hlc := B5.out.lt
  have hlc13 := B13.out.lt
  refine (load_acq _ _ M2 (1 + l.length + 1 + 1) 1 1 zA _ _ MM.out HG2.out (Nat.le_trans NB2.out (by decide)) (by rw [F2V.out]; exact KT1.out) (by rw [F2.out]; exact KP1.out) bA.1 bA.2).mono ?_
  rintro e a11 ⟨vv, rfl, hm, hb⟩
  replace X3 := Lib.hid (X3.out.below (hb))
  replace B5 := Lib.hid (B5.out.below (hb))
  replace B9 := Lib.hid (B9.out.below (hb))
  replace B10 := Lib.hid (B10.out.below (hb))
  replace MM := Lib.hid (MM.out.below (hb))
  replace B13 := Lib.hid (B13.out.below (hb))
  replace BB := Lib.hid (BB.out.trans ((hb).mono BB.out.size))
  clear hb
  have MX := Lib.hid (hm)
  clear hm
  clear MM
  rw [HI2.out, HM3.out] at MX
  have MM := Lib.hid (MX.out.imp (D' := fun b => b ≠ b5 ∧ b ≠ b13) (fun b hb => hb.elim id (fun h => ⟨fun e => absurd (e ▸ h) (Nat.not_le_of_lt hlc), fun e => absurd (e ▸ h) (Nat.not_le_of_lt hlc13)⟩)))
  clear MX hlc hlc13
  obtain ⟨_, v3, e1, e2⟩ := MM.out.sl F3.out F3V.out
  clear e1
  subst e2
  rw [HI2.out, HGW.out]
  obtain ⟨⟨m0, m1⟩, g0, g1⟩ := B5.out.cells2
  have on := ((Only.refl b5 a11).set 0 (.slice p2 n1 n1)).set 1 (.slice v3 T T)
  have r13 := B13.out.only (Ne.symm hne_b5_b13) on
  obtain ⟨⟨q0, q1, q2⟩, s0, s1, s2⟩ := r13.cells3
  go_upto_region 16 with fail
  clear m0 m1 g0 g1
  clear on r13 q0 q1 q2 s0 s1 s2
  replace X3 := Lib.hid (X3.out.only hne_b3_b5 (((Only.refl b5 a11).set 0 (.slice p2 n1 n1)).set 1 (.slice v3 T T)))
  replace B9 := Lib.hid (B9.out.only hne_b9_b5 (((Only.refl b5 a11).set 0 (.slice p2 n1 n1)).set 1 (.slice v3 T T)))
  replace B10 := Lib.hid (B10.out.only hne_b10_b5 (((Only.refl b5 a11).set 0 (.slice p2 n1 n1)).set 1 (.slice v3 T T)))
  replace B13 := Lib.hid (B13.out.only hne_b13_b5 (((Only.refl b5 a11).set 0 (.slice p2 n1 n1)).set 1 (.slice v3 T T)))
  replace MM := Lib.hid (MM.out.only B5.out (by simp) (((Only.refl b5 a11).set 0 (.slice p2 n1 n1)).set 1 (.slice v3 T T)))
  replace BB := Lib.hid (((BB.out).put b5 hle_b5 0 (.slice p2 n1 n1)).put b5 hle_b5 1 (.slice v3 T T))
  replace B5 : Hid (Box (World.setCell (World.setCell a11 ⟨b5, 0, none⟩ (.slice p2 n1 n1)) ⟨b5, 1, none⟩ (.slice v3 T T)) b5 #[.slice p2 n1 n1, .slice v3 T T] 31) := Lib.hid (((B5.out).set 0 (.slice p2 n1 n1)).set 1 (.slice v3 T T))
  generalize (World.setCell (World.setCell a11 ⟨b5, 0, none⟩ (.slice p2 n1 n1)) ⟨b5, 1, none⟩ (.slice v3 T T)) = sa at *
  replace X3 := Lib.hid (X3.out.only hne_b3_b13 ((((Only.refl b13 sa).set 0 (.int .i64 ga)).set 1 (.int .u32 gb)).set 2 (.int .u32 gc)))
  replace B5 := Lib.hid (B5.out.only hne_b5_b13 ((((Only.refl b13 sa).set 0 (.int .i64 ga)).set 1 (.int .u32 gb)).set 2 (.int .u32 gc)))
  replace B9 := Lib.hid (B9.out.only hne_b9_b13 ((((Only.refl b13 sa).set 0 (.int .i64 ga)).set 1 (.int .u32 gb)).set 2 (.int .u32 gc)))
  replace B10 := Lib.hid (B10.out.only hne_b10_b13 ((((Only.refl b13 sa).set 0 (.int .i64 ga)).set 1 (.int .u32 gb)).set 2 (.int .u32 gc)))
  replace MM := Lib.hid (MM.out.only B13.out (by simp) ((((Only.refl b13 sa).set 0 (.int .i64 ga)).set 1 (.int .u32 gb)).set 2 (.int .u32 gc)))
  replace BB := Lib.hid ((((BB.out).put b13 hle_b13 0 (.int .i64 ga)).put b13 hle_b13 1 (.int .u32 gb)).put b13 hle_b13 2 (.int .u32 gc))
  replace B13 : Hid (Box (World.setCell (World.setCell (World.setCell sa ⟨b13, 0, none⟩ (.int .i64 ga)) ⟨b13, 1, none⟩ (.int .u32 gb)) ⟨b13, 2, none⟩ (.int .u32 gc)) b13 #[.int .i64 ga, .int .u32 gb, .int .u32 gc] 45) := Lib.hid ((((B13.out).set 0 (.int .i64 ga)).set 1 (.int .u32 gb)).set 2 (.int .u32 gc))
  generalize (World.setCell (World.setCell (World.setCell sa ⟨b13, 0, none⟩ (.int .i64 ga)) ⟨b13, 1, none⟩ (.int .u32 gb)) ⟨b13, 2, none⟩ (.int .u32 gc)) = sb at *
  obtain ⟨d0, d1, d2, d3, d4, d5, d6, d7⟩ := X3.out.all8
  obtain ⟨⟨f0, f1', f2'⟩, -⟩ := B13.out.cells3
  obtain ⟨⟨n0, n1', n2'⟩, -⟩ := B9.out.cells3
  have F9 := BB.out
  go_wp2
  all_goals (go_ret; exact ⟨by simp, by first | exact F9 | (rw [← hbq]; exact F9)⟩)

set_option maxRecDepth 100000 in
set_option maxHeartbeats 6400000 in
theorem passes_look (T bF oF c1 : Nat) (ws : List Wd) (v : Value) (l : List DoV) (M : Mem) (hM : (newMem T ws).ress l = M) (xa xb xc xt zA zB zC : Int) (w : World) (h0 : 0 < ws.length) (h1 : ws.length ≤ 8) (t0 : 1 ≤ T) (t1 : T ≤ 8)
    (hF : IsWords w (.slice (some ⟨bF, oF, none⟩) ws.length c1) ws) (hd : IsDos w v l) (hl : l.length ≤ 40) (hok : DosOk l) (bt : -9223372036854775808 ≤ xt ∧ xt < 9223372036854775808) (bA : -9223372036854775808 ≤ zA ∧ zA < 9223372036854775808) (bB : -9223372036854775808 ≤ zB ∧ zB < 9223372036854775808) (bC : -9223372036854775808 ≤ zC ∧ zC < 9223372036854775808) (hT3 : 3 ≤ T) (hP3 : 3 ≤ ws.length) (hh : (M.hist 1).any (isW 77 1073741824 0) = false) (hh2 : (M.hist 2).any (isW 78 1073741824 0) = false) :
    Calls Try.prog 5 #[.agg #[.int .i64 T, .slice (some ⟨bF, oF, none⟩) ws.length c1, v], .agg #[.int .i64 xa, .int .u32 xb, .int .u32 xc, .int .i64 xt, .int .i64 zA, .int .i64 zB, .int .i64 zC, .bool true]] w fun e w' => e = .returned (.bool true) ∧ Below w.heap.size w w' := by
  obtain ⟨y2, c2, rfl⟩ := hd.slice
  have hg := ress_good (newMem_good T ws (by omega) t1) l
  have hS := ress_sound (newMem_sound T ws) (newMem_good T ws (by omega) t1) l (by omega)
  rw [hM] at hg hS
  obtain ⟨n1, hn1⟩ : ∃ n, ws.length = n := ⟨_, rfl⟩
  obtain ⟨n2, hn2⟩ : ∃ n, l.length = n := ⟨_, rfl⟩
  have e1 : M.hs.length = n1 := by rw [hg.2.1]; simp [newMem, hn1]
  have e2 : M.vs.length = T := by rw [hg.2.2]; simp [newMem]
  have HHA := Lib.hid hh
  have HHB := Lib.hid hh2
  have hlen : ∀ p, p < 3 → 0 < (M.hist p).length ∧ (M.hist p).length ≤ 41 := fun p hp => by have := hg.1.hist (p := p) (by omega); omega
  have hl0 := hlen 0 (by omega)
  have hl1' := hlen 1 (by omega)
  have hl2' := hlen 2 (by omega)
  obtain ⟨PA, hw0, hw1⟩ := pass_two hS (by omega) (by omega) (by omega) (fun p hp => by have := hlen p hp; omega) xa xb xc 77 1073741824 0
  have G1 := hg.1.writeAt 0 0 xa xb xc false (by omega)
  obtain ⟨M1, hM1⟩ : ∃ M1, M.writeAt 0 0 xa xb xc false = M1 := ⟨_, rfl⟩
  have f1 : M1.hs.length = n1 := by rw [← hM1, writeAt_len]; exact e1
  have f1v : M1.vs.length = T := by rw [← hM1]; simp [Mem.writeAt]; exact e2
  rw [hM1] at PA hw0 hw1 G1
  have G2 := G1.writeAt 0 1 77 1073741824 0 true (by omega)
  obtain ⟨M2, hM2⟩ : ∃ M2, M1.writeAt 0 1 77 1073741824 0 true = M2 := ⟨_, rfl⟩
  have f2 : M2.hs.length = n1 := by rw [← hM2, writeAt_len]; exact f1
  have f2v : M2.vs.length = T := by rw [← hM2]; simp [Mem.writeAt]; exact f1v
  rw [hM2] at PA hw0 hw1 G2
  obtain ⟨la, lb, lc, TL⟩ := pass_tail PA (by omega) (by omega) (by omega) (by omega) (by omega) hw0 hh2
  obtain ⟨L0, hL0⟩ : ∃ L, (M.hist 0).length = L := ⟨_, rfl⟩
  obtain ⟨L1, hL1⟩ : ∃ L, (M.hist 1).length = L := ⟨_, rfl⟩
  obtain ⟨L2, hL2⟩ : ∃ L, (M.hist 2).length = L := ⟨_, rfl⟩
  have hP1 := PA.h1
  rw [hL0, hL1, hL2] at TL
  rw [hL1] at hP1 hw1
  have G3 := G2.readAt 1 1 L1 true
  have S3 := PA.s.readAt (k := 1) (p := 1) (i := L1) (by omega) (by omega) (by omega) (by omega) true
  have hi2 : (M2.hist 1).length - 1 = L1 := by first | exact hi | omega
  obtain ⟨M3, hM3⟩ : ∃ M3, M2.readAt 1 1 L1 true = M3 := ⟨_, rfl⟩
  rw [hM3] at TL G3 S3
  have G3b := G3.readAt 1 2 (L2 - 1) true
  obtain ⟨M3b, hM3b⟩ : ∃ Mx, M3.readAt 1 2 (L2 - 1) true = Mx := ⟨_, rfl⟩
  rw [hM3b] at TL G3b
  have n3b : M3b.hs.length = n1 := by rw [← hM3b]; exact TL.n3.1.trans e1
  have G4 := G3b.writeAt 1 2 78 1073741824 0 true (by omega)
  obtain ⟨M4, hM4⟩ : ∃ M4, M3b.writeAt 1 2 78 1073741824 0 true = M4 := ⟨_, rfl⟩
  rw [hM4] at TL G4
  have f3 : M3.hs.length = n1 := TL.n3.1.trans e1
  have f3v : M3.vs.length = T := TL.n3.2.trans e2
  have f4 : M4.hs.length = n1 := TL.n4.1.trans e1
  have f4v : M4.vs.length = T := TL.n4.2.trans e2
  obtain ⟨j, hj⟩ : ∃ j, (chooseL (M4.hist 2).length (atL (M4.view 2) (2 : Nat)) xt).toNat = j := ⟨_, rfl⟩
  have hjl : j ≤ L2 := by
    have := chooseL_in (n := (M4.hist 2).length) (f := atL (M4.view 2) (2 : Nat)) (c := xt) (by rw [TL.l4]; omega)
    rw [TL.l4] at this hj
    omega
  have G5 := G4.readAt 2 2 j true
  obtain ⟨M5, hM5⟩ : ∃ M5, M4.readAt 2 2 j true = M5 := ⟨_, rfl⟩
  rw [hM5] at G5
  have f5 : M5.hs.length = n1 := by rw [← hM5]; exact f4
  have f5v : M5.vs.length = T := by rw [← hM5]; simp [Mem.readAt]; exact f4v
  have htail : ∃ ga gb gc ta tb tc, wordV (M4.msg 2 j) = .agg #[.int .i64 ga, .int .u32 gb, .int .u32 gc] ∧ wordV (M5.msg 0 (chooseL (M5.hist 0).length (atL (M5.view 2) (0 : Nat)) zC).toNat) = .agg #[.int .i64 ta, .int .u32 tb, .int .u32 tc] ∧
      ((ga == 78 && (gb == 1073741824 && gc == 0)) = false ∨ ((ga = 78 ∧ gb = 1073741824 ∧ gc = 0) ∧ ta = xa ∧ tb = xb ∧ tc = xc)) := by
    by_cases hjj : j = L2
    · subst hjj
      have hc := TL.c4 zC
      rw [hM5] at hc
      refine ⟨78, 1073741824, 0, xa, xb, xc, TL.k4, ?_, .inr ⟨⟨rfl, rfl, rfl⟩, rfl, rfl, rfl⟩⟩
      rw [hc]
      have : M5.msg 0 L0 = M4.msg 0 L0 := by rw [← hM5]; rfl
      rw [this]; exact TL.w4
    · obtain ⟨ga, gb, gc, hgw, hgn⟩ := isW_no (TL.o4 j (by omega))
      exact ⟨ga, gb, gc, _, _, _, hgw, rfl, .inl hgn⟩
  obtain ⟨ga, gb, gc, ta, tb, tc, hgw, htw, hfin⟩ := htail
  have HFIN := Lib.hid hfin
  clear hfin
  have hlw : wordV (M3.msg 2 (L2 - 1)) = .agg #[.int .i64 la, .int .u32 lb, .int .u32 lc] := by
    have := TL.m3
    rw [TL.l3] at this
    unfold wordV; rw [this.1, this.2.1, this.2.2]
  have HC3 := Lib.hid (TL.c3 zB)
  have HW3 := Lib.hid (TL.w3)
  have HL3 := Lib.hid (TL.l3)
  have HM3F := Lib.hid (TL.m3)
  have HW1F := Lib.hid (hw1)
  have HI2 := Lib.hid (hi2)
  have HM1 := Lib.hid (hM1)
  have HM2 := Lib.hid (hM2)
  have HM3 := Lib.hid (hM3)
  have HM3B := Lib.hid (hM3b)
  have HM4 := Lib.hid (hM4)
  have HM5 := Lib.hid (hM5)
  have HJ := Lib.hid (hj)
  have HGW := Lib.hid (hgw)
  have HTW := Lib.hid (htw)
  have HLW := Lib.hid (hlw)
  have F1 := Lib.hid (f1)
  have F1V := Lib.hid (f1v)
  have F2 := Lib.hid (f2)
  have F2V := Lib.hid (f2v)
  have F3 := Lib.hid (f3)
  have F3V := Lib.hid (f3v)
  have F4 := Lib.hid (f4)
  have F4V := Lib.hid (f4v)
  have F5 := Lib.hid (f5)
  have F5V := Lib.hid (f5v)
  have HG1 := Lib.hid (G1)
  have HG2 := Lib.hid (G2)
  have HG3 := Lib.hid (G3)
  have HG4 := Lib.hid (G4)
  have HG5 := Lib.hid (G5)
  clear PA hw0 hw1 hM1 hM2 hM3 f1 f1v f2 f2v f3 f3v G1 G2 G3 hlen TL hP1 S3 hi2 G3b hM3b n3b G4 hM4 f4 f4v hj G5 hM5 f5 f5v hgw htw hlw
  clear hh hh2
  have HM := Lib.hid hM
  have HG := Lib.hid hg.1
  have E1 := Lib.hid e1
  have E2 := Lib.hid e2
  have HN1 := Lib.hid hn1
  have HN2 := Lib.hid hn2
  have HOK := Lib.hid hok
  have HW1 := Lib.hid h0
  have hbb := b2 w (.cells #[.int .i64 T, .slice (some ⟨bF, oF, none⟩) n1 c1, .slice y2 n2 c2] 25) (.cells #[.int .i64 xa, .int .u32 xb, .int .u32 xc, .int .i64 xt, .int .i64 zA, .int .i64 zB, .int .i64 zC, .bool true] 75)
  have FF := Lib.hid (hF.below hbb)
  have DD := Lib.hid (hd.below hbb)
  have HGL := Lib.hid (show 1 + l.length ≤ 41 by omega)
  have NB0 := Lib.hid (show 1 + l.length ≤ 999 by omega)
  have NB1 := Lib.hid (show 1 + l.length + 1 ≤ 999 by omega)
  have NB2 := Lib.hid (show 1 + l.length + 1 + 1 ≤ 999 by omega)
  have NB3 := Lib.hid (show 1 + l.length + 1 + 1 + 1 ≤ 999 by omega)
  have KT0 := Lib.hid (show 0 < T by omega)
  have KT1 := Lib.hid (show 1 < T by omega)
  have KT2 := Lib.hid (show 2 < T by omega)
  have KP0 := Lib.hid (show 0 < n1 by omega)
  have KP1 := Lib.hid (show 1 < n1 by omega)
  have KP2 := Lib.hid (show 2 < n1 by omega)
  rw [hn1] at h0 h1 FF ⊢
  rw [hn2] at hl DD ⊢
  (try rw [hn1] at h3)
  (try rw [hn1] at hP3)
  have qN := neqW
  have qE := eqlW
  have X2 := Lib.hid (Box.alloc (Box.new w #[.int .i64 T, .slice (some ⟨bF, oF, none⟩) n1 c1, .slice y2 n2 c2] 25 rfl) (.cells #[.int .i64 xa, .int .u32 xb, .int .u32 xc, .int .i64 xt, .int .i64 zA, .int .i64 zB, .int .i64 zC, .bool true] 75))
  have X3 := Lib.hid (Box.new (w.alloc (.cells #[.int .i64 T, .slice (some ⟨bF, oF, none⟩) n1 c1, .slice y2 n2 c2] 25)) #[.int .i64 xa, .int .u32 xb, .int .u32 xc, .int .i64 xt, .int .i64 zA, .int .i64 zB, .int .i64 zC, .bool true] 75 (n := w.heap.size + 1) (by simp))
  have BB := Lib.hid hbb
  clear hbb hF hd hok hg hM e1 e2 hn2 hS
  go_enter Try.func5, Try.ntmps5
  go_wp2_with fail
  generalize (w.alloc (.cells #[.int .i64 T, .slice (some ⟨bF, oF, none⟩) n1 c1, .slice y2 n2 c2] 25)).alloc (.cells #[.int .i64 xa, .int .u32 xb, .int .u32 xc, .int .i64 xt, .int .i64 zA, .int .i64 zB, .int .i64 zC, .bool true] 75) = W0 at *
  obtain ⟨b3, hb3⟩ : ∃ br, w.heap.size + 1 = br := ⟨_, rfl⟩
  obtain ⟨b2, hb2⟩ : ∃ bp, w.heap.size = bp := ⟨_, rfl⟩
  have hbq := hb2
  rw [hb3] at X3 ⊢
  rw [hb2] at X2 hb3 ⊢
  refine (awake_any _).mono ?_
  rintro e a0 ⟨rfl, hb⟩
  replace X2 := Lib.hid (X2.out.below (hb))
  replace X3 := Lib.hid (X3.out.below (hb))
  replace FF := Lib.hid (FF.out.below (hb))
  replace DD := Lib.hid (DD.out.below (hb))
  replace BB := Lib.hid (BB.out.trans ((hb).mono BB.out.size))
  clear hb
  obtain ⟨⟨m0, m1, m2⟩, -⟩ := X2.out.cells3
  go_wp2_with fail
  clear m0 m1 m2
  have hbg : Calls Try.prog 16 #[.agg #[.int .i64 T, .slice (some ⟨bF, oF, none⟩) n1 c1, .slice y2 n2 c2]] a0 fun e w' => ∃ pv vv, e = .returned (.tuple #[.agg #[pv, vv], .bool true]) ∧ MD (fun b => a0.heap.size ≤ b) w' pv vv M ∧ Below a0.heap.size a0 w' := by
    rcases FF.out with ⟨a', c', he', hw'⟩ | ⟨b', o', c', he', hbl, hcc⟩
    · exfalso; have hz := HN1.out; rw [hw'] at hz; simp at hz; omega
    · rw [HN1.out] at he'
      simp only [Value.slice.injEq, Option.some.injEq, Addr.mk.injEq, and_true] at he'
      obtain ⟨⟨rfl, rfl⟩, -, rfl⟩ := he'
      have hq := begun_ok T bF oF c1 ws (.slice y2 n2 c2) l a0 HW1.out (by rw [HN1.out]; omega) t0 t1 hbl hcc DD.out (by rw [HN2.out]; omega) HOK.out
      rw [HN1.out, HM.out] at hq
      exact hq
  refine (hbg).mono ?_
  rintro e a1 ⟨pv, vv, rfl, hm, hb⟩
  replace X2 := Lib.hid (X2.out.below (hb))
  replace X3 := Lib.hid (X3.out.below (hb))
  replace FF := Lib.hid (FF.out.below (hb))
  replace DD := Lib.hid (DD.out.below (hb))
  replace BB := Lib.hid (BB.out.trans ((hb).mono BB.out.size))
  clear hb
  have MM := Lib.hid (hm)
  clear hm hbg
  obtain ⟨u1, u2, e1, e2⟩ := MM.out.sl E1.out E2.out
  subst e1 e2
  clear FF
  clear DD
  clear X2
  go_upto_region 4 with fail
  replace MM := Lib.hid MM.out.addlt
  have hlt_b5 := BB.out.size
  have hlt_b5_X3 := X3.out.lt
  replace X3 := Lib.hid (X3.out.below (below_new a1 (.cells #[.slice u1 n1 n1, .slice u2 T T] 31)))
  replace MM := Lib.hid (MM.out.below (below_new a1 (.cells #[.slice u1 n1 n1, .slice u2 T T] 31)))
  replace BB := Lib.hid (BB.out.trans ((below_new a1 (.cells #[.slice u1 n1 n1, .slice u2 T T] 31)).mono BB.out.size))
  have B5 := Lib.hid (Box.new a1 #[.slice u1 n1 n1, .slice u2 T T] 31 rfl)
  have hsz_b5 : (World.alloc a1 (.cells #[.slice u1 n1 n1, .slice u2 T T] 31)).heap.size = (World.heap a1).size + 1 := by simp
  generalize World.alloc a1 (.cells #[.slice u1 n1 n1, .slice u2 T T] 31) = a2 at *
  generalize World.heap a1 = hp_b5 at *
  generalize hp_b5.size = b5 at *
  have hne_b3_b5 : b3 ≠ b5 := Nat.ne_of_lt hlt_b5_X3
  have hle_b5 := hlt_b5
  clear hlt_b5_X3 hlt_b5
  replace MM := Lib.hid (MM.out.imp (D' := fun b => b ≠ b5) (fun b hb => Nat.ne_of_lt hb.2))
  obtain ⟨⟨m0, m1⟩, g0, g1⟩ := B5.out.cells2
  go_wp2_with fail
  clear m0 m1 g0 g1
  refine (size_any u1 u2 n1 T _).mono ?_
  rintro e a3 ⟨rfl, hb⟩
  replace X3 := Lib.hid (X3.out.below (hb))
  replace MM := Lib.hid (MM.out.below (hb))
  replace B5 := Lib.hid (B5.out.below (hb))
  replace BB := Lib.hid (BB.out.trans ((hb).mono BB.out.size))
  clear hb
  go_upto_region 8 with fail
  have hl5q := B5.out.lt
  have hlt_b9 := BB.out.size
  have hlt_b9_X3 := X3.out.lt
  have hlt_b9_B5 := B5.out.lt
  replace X3 := Lib.hid (X3.out.below (below_new a3 (.cells #[.int .i64 77, .int .u32 1073741824, .int .u32 0] 45)))
  replace MM := Lib.hid (MM.out.below (below_new a3 (.cells #[.int .i64 77, .int .u32 1073741824, .int .u32 0] 45)))
  replace B5 := Lib.hid (B5.out.below (below_new a3 (.cells #[.int .i64 77, .int .u32 1073741824, .int .u32 0] 45)))
  replace BB := Lib.hid (BB.out.trans ((below_new a3 (.cells #[.int .i64 77, .int .u32 1073741824, .int .u32 0] 45)).mono BB.out.size))
  have B9 := Lib.hid (Box.new a3 #[.int .i64 77, .int .u32 1073741824, .int .u32 0] 45 rfl)
  have hsz_b9 : (World.alloc a3 (.cells #[.int .i64 77, .int .u32 1073741824, .int .u32 0] 45)).heap.size = (World.heap a3).size + 1 := by simp
  generalize World.alloc a3 (.cells #[.int .i64 77, .int .u32 1073741824, .int .u32 0] 45) = a4 at *
  generalize World.heap a3 = hp_b9 at *
  generalize hp_b9.size = b9 at *
  have hne_b9_b5 : b9 ≠ b5 := Nat.ne_of_gt hlt_b9_B5
  clear hlt_b9_X3 hlt_b9_B5 hlt_b9
  have hlt_b10 := BB.out.size
  replace X3 := Lib.hid (X3.out.below (below_new a4 (.cells #[.int .i64 78, .int .u32 1073741824, .int .u32 0] 45)))
  replace MM := Lib.hid (MM.out.below (below_new a4 (.cells #[.int .i64 78, .int .u32 1073741824, .int .u32 0] 45)))
  replace B5 := Lib.hid (B5.out.below (below_new a4 (.cells #[.int .i64 78, .int .u32 1073741824, .int .u32 0] 45)))
  replace B9 := Lib.hid (B9.out.below (below_new a4 (.cells #[.int .i64 78, .int .u32 1073741824, .int .u32 0] 45)))
  replace BB := Lib.hid (BB.out.trans ((below_new a4 (.cells #[.int .i64 78, .int .u32 1073741824, .int .u32 0] 45)).mono BB.out.size))
  have B10 := Lib.hid (Box.new a4 #[.int .i64 78, .int .u32 1073741824, .int .u32 0] 45 (n := b9 + 1) hsz_b9.symm)
  have hsz_b10 : (World.alloc a4 (.cells #[.int .i64 78, .int .u32 1073741824, .int .u32 0] 45)).heap.size = b9 + 1 + 1 := by simp [hsz_b9]
  rw [hsz_b9] at hlt_b10
  generalize World.alloc a4 (.cells #[.int .i64 78, .int .u32 1073741824, .int .u32 0] 45) = a5 at *
  obtain ⟨b10, hq_b10⟩ : ∃ b, b9 + 1 = b := ⟨_, rfl⟩
  rw [hq_b10] at B10 hsz_b10 ⊢
  have hne_b10_b5 : b10 ≠ b5 := by rw [← hq_b10]; omega
  clear hlt_b10 hl5q
  obtain ⟨⟨m0, m1⟩, g0, g1⟩ := B5.out.cells2
  obtain ⟨⟨n0, n1', n2'⟩, -⟩ := B9.out.cells3
  obtain ⟨⟨k0, k1, k2⟩, -⟩ := B10.out.cells3
  go_wp2_with fail
  clear m0 m1 g0 g1
  clear n0 n1' n2'
  clear k0 k1 k2
  refine (has_any _ _ M (1 + l.length) 1 77 1073741824 0 _ MM.out.mw HG.out (Nat.le_trans NB0.out (by decide)) (by rw [E1.out]; exact KP1.out)).mono ?_
  rintro e a6 ⟨rfl, hb⟩
  replace X3 := Lib.hid (X3.out.below (hb))
  replace MM := Lib.hid (MM.out.below (hb))
  replace B5 := Lib.hid (B5.out.below (hb))
  replace B9 := Lib.hid (B9.out.below (hb))
  replace B10 := Lib.hid (B10.out.below (hb))
  replace BB := Lib.hid (BB.out.trans ((hb).mono BB.out.size))
  clear hb
  rw [HHA.out]
  obtain ⟨⟨m0, m1⟩, g0, g1⟩ := B5.out.cells2
  obtain ⟨⟨n0, n1', n2'⟩, -⟩ := B9.out.cells3
  obtain ⟨⟨k0, k1, k2⟩, -⟩ := B10.out.cells3
  go_wp2_with fail
  clear m0 m1 g0 g1
  clear n0 n1' n2'
  clear k0 k1 k2
  refine (has_any _ _ M (1 + l.length) 2 78 1073741824 0 _ MM.out.mw HG.out (Nat.le_trans NB0.out (by decide)) (by rw [E1.out]; exact KP2.out)).mono ?_
  rintro e a7 ⟨rfl, hb⟩
  replace X3 := Lib.hid (X3.out.below (hb))
  replace MM := Lib.hid (MM.out.below (hb))
  replace B5 := Lib.hid (B5.out.below (hb))
  replace B9 := Lib.hid (B9.out.below (hb))
  replace B10 := Lib.hid (B10.out.below (hb))
  replace BB := Lib.hid (BB.out.trans ((hb).mono BB.out.size))
  clear hb
  rw [HHB.out]
  obtain ⟨⟨m0, m1⟩, g0, g1⟩ := B5.out.cells2
  obtain ⟨d0, d1, d2, d3, d4, d5, d6, d7⟩ := X3.out.all8
  go_wp2_with fail
  clear m0 m1 g0 g1
  clear d0 d1 d2 d3 d4 d5 d6 d7
  have hlc := B5.out.lt
  refine (store_plain _ _ M (1 + l.length) 0 0 xa xb xc _ _ MM.out HG.out NB0.out (by rw [E2.out]; exact KT0.out) (by rw [E1.out]; exact KP0.out)).mono ?_
  rintro e a8 ⟨pv, vv, rfl, hm, hb⟩
  replace X3 := Lib.hid (X3.out.below (hb))
  replace MM := Lib.hid (MM.out.below (hb))
  replace B5 := Lib.hid (B5.out.below (hb))
  replace B9 := Lib.hid (B9.out.below (hb))
  replace B10 := Lib.hid (B10.out.below (hb))
  replace BB := Lib.hid (BB.out.trans ((hb).mono BB.out.size))
  clear hb
  have MX := Lib.hid (hm)
  clear hm
  clear MM
  rw [HM1.out] at MX
  have MM := Lib.hid (MX.out.imp (D' := fun b => b ≠ b5) (fun b hb => hb.elim id (fun h e => absurd (e ▸ h) (Nat.not_le_of_lt hlc))))
  clear MX hlc
  obtain ⟨p1, v1, e1, e2⟩ := MM.out.sl F1.out F1V.out
  subst e1 e2
  obtain ⟨⟨m0, m1⟩, g0, g1⟩ := B5.out.cells2
  go_upto_region 11 with fail
  clear m0 m1 g0 g1
  replace X3 := Lib.hid (X3.out.only hne_b3_b5 (((Only.refl b5 a8).set 0 (.slice p1 n1 n1)).set 1 (.slice v1 T T)))
  replace B9 := Lib.hid (B9.out.only hne_b9_b5 (((Only.refl b5 a8).set 0 (.slice p1 n1 n1)).set 1 (.slice v1 T T)))
  replace B10 := Lib.hid (B10.out.only hne_b10_b5 (((Only.refl b5 a8).set 0 (.slice p1 n1 n1)).set 1 (.slice v1 T T)))
  replace MM := Lib.hid (MM.out.only B5.out (by simp) (((Only.refl b5 a8).set 0 (.slice p1 n1 n1)).set 1 (.slice v1 T T)))
  replace BB := Lib.hid (((BB.out).put b5 hle_b5 0 (.slice p1 n1 n1)).put b5 hle_b5 1 (.slice v1 T T))
  replace B5 : Hid (Box (World.setCell (World.setCell a8 ⟨b5, 0, none⟩ (.slice p1 n1 n1)) ⟨b5, 1, none⟩ (.slice v1 T T)) b5 #[.slice p1 n1 n1, .slice v1 T T] 31) := Lib.hid (((B5.out).set 0 (.slice p1 n1 n1)).set 1 (.slice v1 T T))
  generalize (World.setCell (World.setCell a8 ⟨b5, 0, none⟩ (.slice p1 n1 n1)) ⟨b5, 1, none⟩ (.slice v1 T T)) = s1 at *
  obtain ⟨⟨m0, m1⟩, g0, g1⟩ := B5.out.cells2
  obtain ⟨⟨n0, n1', n2'⟩, -⟩ := B9.out.cells3
  go_wp2_with fail
  clear m0 m1 g0 g1
  clear n0 n1' n2'
  have hlc := B5.out.lt
  refine (store_rel _ _ M1 (1 + l.length + 1) 0 1 77 1073741824 0 _ _ MM.out HG1.out NB1.out (by rw [F1V.out]; exact KT0.out) (by rw [F1.out]; exact KP1.out)).mono ?_
  rintro e a9 ⟨pv, vv, rfl, hm, hb⟩
  replace X3 := Lib.hid (X3.out.below (hb))
  replace B5 := Lib.hid (B5.out.below (hb))
  replace B9 := Lib.hid (B9.out.below (hb))
  replace B10 := Lib.hid (B10.out.below (hb))
  replace MM := Lib.hid (MM.out.below (hb))
  replace BB := Lib.hid (BB.out.trans ((hb).mono BB.out.size))
  clear hb
  have MX := Lib.hid (hm)
  clear hm
  clear MM
  rw [HM2.out] at MX
  have MM := Lib.hid (MX.out.imp (D' := fun b => b ≠ b5) (fun b hb => hb.elim id (fun h e => absurd (e ▸ h) (Nat.not_le_of_lt hlc))))
  clear MX hlc
  obtain ⟨p2, v2, e1, e2⟩ := MM.out.sl F2.out F2V.out
  subst e1 e2
  obtain ⟨⟨m0, m1⟩, g0, g1⟩ := B5.out.cells2
  go_upto_region 12 with fail
  clear m0 m1 g0 g1
  replace X3 := Lib.hid (X3.out.only hne_b3_b5 (((Only.refl b5 a9).set 0 (.slice p2 n1 n1)).set 1 (.slice v2 T T)))
  replace B9 := Lib.hid (B9.out.only hne_b9_b5 (((Only.refl b5 a9).set 0 (.slice p2 n1 n1)).set 1 (.slice v2 T T)))
  replace B10 := Lib.hid (B10.out.only hne_b10_b5 (((Only.refl b5 a9).set 0 (.slice p2 n1 n1)).set 1 (.slice v2 T T)))
  replace MM := Lib.hid (MM.out.only B5.out (by simp) (((Only.refl b5 a9).set 0 (.slice p2 n1 n1)).set 1 (.slice v2 T T)))
  replace BB := Lib.hid (((BB.out).put b5 hle_b5 0 (.slice p2 n1 n1)).put b5 hle_b5 1 (.slice v2 T T))
  replace B5 : Hid (Box (World.setCell (World.setCell a9 ⟨b5, 0, none⟩ (.slice p2 n1 n1)) ⟨b5, 1, none⟩ (.slice v2 T T)) b5 #[.slice p2 n1 n1, .slice v2 T T] 31) := Lib.hid (((B5.out).set 0 (.slice p2 n1 n1)).set 1 (.slice v2 T T))
  generalize (World.setCell (World.setCell a9 ⟨b5, 0, none⟩ (.slice p2 n1 n1)) ⟨b5, 1, none⟩ (.slice v2 T T)) = s2 at *
  go_upto_region 13 with fail
  replace MM := Lib.hid MM.out.addlt
  have hlt_b13 := BB.out.size
  have hlt_b13_X3 := X3.out.lt
  have hlt_b13_B5 := B5.out.lt
  have hlt_b13_B9 := B9.out.lt
  have hlt_b13_B10 := B10.out.lt
  replace X3 := Lib.hid (X3.out.below (below_new s2 (.cells #[.int .i64 0, .int .u32 0, .int .u32 0] 45)))
  replace B5 := Lib.hid (B5.out.below (below_new s2 (.cells #[.int .i64 0, .int .u32 0, .int .u32 0] 45)))
  replace B9 := Lib.hid (B9.out.below (below_new s2 (.cells #[.int .i64 0, .int .u32 0, .int .u32 0] 45)))
  replace B10 := Lib.hid (B10.out.below (below_new s2 (.cells #[.int .i64 0, .int .u32 0, .int .u32 0] 45)))
  replace MM := Lib.hid (MM.out.below (below_new s2 (.cells #[.int .i64 0, .int .u32 0, .int .u32 0] 45)))
  replace BB := Lib.hid (BB.out.trans ((below_new s2 (.cells #[.int .i64 0, .int .u32 0, .int .u32 0] 45)).mono BB.out.size))
  have B13 := Lib.hid (Box.new s2 #[.int .i64 0, .int .u32 0, .int .u32 0] 45 rfl)
  have hsz_b13 : (World.alloc s2 (.cells #[.int .i64 0, .int .u32 0, .int .u32 0] 45)).heap.size = (World.heap s2).size + 1 := by simp
  generalize World.alloc s2 (.cells #[.int .i64 0, .int .u32 0, .int .u32 0] 45) = a10 at *
  generalize World.heap s2 = hp_b13 at *
  generalize hp_b13.size = b13 at *
  have hne_b13_b5 : b13 ≠ b5 := Nat.ne_of_gt hlt_b13_B5
  have hne_b3_b13 : b3 ≠ b13 := Nat.ne_of_lt hlt_b13_X3
  have hne_b5_b13 : b5 ≠ b13 := Nat.ne_of_lt hlt_b13_B5
  have hne_b9_b13 : b9 ≠ b13 := Nat.ne_of_lt hlt_b13_B9
  have hne_b10_b13 : b10 ≠ b13 := Nat.ne_of_lt hlt_b13_B10
  have hle_b13 := hlt_b13
  clear hlt_b13_X3 hlt_b13_B5 hlt_b13_B9 hlt_b13_B10 hlt_b13
  replace MM := Lib.hid (MM.out.imp (D' := fun b => b ≠ b5 ∧ b ≠ b13) (fun b hb => ⟨hb.1, Nat.ne_of_lt hb.2⟩))
  obtain ⟨⟨m0, m1⟩, g0, g1⟩ := B5.out.cells2
  obtain ⟨d0, d1, d2, d3, d4, d5, d6, d7⟩ := X3.out.all8
  go_wp2_with fail
  clear m0 m1 g0 g1
  clear d0 d1 d2 d3 d4 d5 d6 d7
  have hlc := B5.out.lt
  have hlc13 := B13.out.lt
  refine (look_ok _ _ M2 (1 + l.length + 1 + 1) 1 1 _ _ MM.out HG2.out (Nat.le_trans NB2.out (by decide)) (by rw [F2V.out]; exact KT1.out) (by rw [F2.out]; exact KP1.out)).mono ?_
  rintro e a11 ⟨vv, rfl, hm, hb⟩
  replace X3 := Lib.hid (X3.out.below (hb))
  replace B5 := Lib.hid (B5.out.below (hb))
  replace B9 := Lib.hid (B9.out.below (hb))
  replace B10 := Lib.hid (B10.out.below (hb))
  replace MM := Lib.hid (MM.out.below (hb))
  replace B13 := Lib.hid (B13.out.below (hb))
  replace BB := Lib.hid (BB.out.trans ((hb).mono BB.out.size))
  clear hb
  have MX := Lib.hid (hm)
  clear hm
  clear MM
  rw [HI2.out, HM3.out] at MX
  have MM := Lib.hid (MX.out.imp (D' := fun b => b ≠ b5 ∧ b ≠ b13) (fun b hb => hb.elim id (fun h => ⟨fun e => absurd (e ▸ h) (Nat.not_le_of_lt hlc), fun e => absurd (e ▸ h) (Nat.not_le_of_lt hlc13)⟩)))
  clear MX hlc hlc13
  obtain ⟨_, v3, e1, e2⟩ := MM.out.sl F3.out F3V.out
  clear e1
  subst e2
  rw [HI2.out, HW1F.out]
  obtain ⟨⟨m0, m1⟩, g0, g1⟩ := B5.out.cells2
  have on := ((Only.refl b5 a11).set 0 (.slice p2 n1 n1)).set 1 (.slice v3 T T)
  have r13 := B13.out.only (Ne.symm hne_b5_b13) on
  obtain ⟨⟨q0, q1, q2⟩, s0, s1, s2⟩ := r13.cells3
  go_upto_region 16 with fail
  clear m0 m1 g0 g1
  clear on r13 q0 q1 q2 s0 s1 s2
  replace X3 := Lib.hid (X3.out.only hne_b3_b5 (((Only.refl b5 a11).set 0 (.slice p2 n1 n1)).set 1 (.slice v3 T T)))
  replace B9 := Lib.hid (B9.out.only hne_b9_b5 (((Only.refl b5 a11).set 0 (.slice p2 n1 n1)).set 1 (.slice v3 T T)))
  replace B10 := Lib.hid (B10.out.only hne_b10_b5 (((Only.refl b5 a11).set 0 (.slice p2 n1 n1)).set 1 (.slice v3 T T)))
  replace B13 := Lib.hid (B13.out.only hne_b13_b5 (((Only.refl b5 a11).set 0 (.slice p2 n1 n1)).set 1 (.slice v3 T T)))
  replace MM := Lib.hid (MM.out.only B5.out (by simp) (((Only.refl b5 a11).set 0 (.slice p2 n1 n1)).set 1 (.slice v3 T T)))
  replace BB := Lib.hid (((BB.out).put b5 hle_b5 0 (.slice p2 n1 n1)).put b5 hle_b5 1 (.slice v3 T T))
  replace B5 : Hid (Box (World.setCell (World.setCell a11 ⟨b5, 0, none⟩ (.slice p2 n1 n1)) ⟨b5, 1, none⟩ (.slice v3 T T)) b5 #[.slice p2 n1 n1, .slice v3 T T] 31) := Lib.hid (((B5.out).set 0 (.slice p2 n1 n1)).set 1 (.slice v3 T T))
  generalize (World.setCell (World.setCell a11 ⟨b5, 0, none⟩ (.slice p2 n1 n1)) ⟨b5, 1, none⟩ (.slice v3 T T)) = sa at *
  replace X3 := Lib.hid (X3.out.only hne_b3_b13 ((((Only.refl b13 sa).set 0 (.int .i64 77)).set 1 (.int .u32 1073741824)).set 2 (.int .u32 0)))
  replace B5 := Lib.hid (B5.out.only hne_b5_b13 ((((Only.refl b13 sa).set 0 (.int .i64 77)).set 1 (.int .u32 1073741824)).set 2 (.int .u32 0)))
  replace B9 := Lib.hid (B9.out.only hne_b9_b13 ((((Only.refl b13 sa).set 0 (.int .i64 77)).set 1 (.int .u32 1073741824)).set 2 (.int .u32 0)))
  replace B10 := Lib.hid (B10.out.only hne_b10_b13 ((((Only.refl b13 sa).set 0 (.int .i64 77)).set 1 (.int .u32 1073741824)).set 2 (.int .u32 0)))
  replace MM := Lib.hid (MM.out.only B13.out (by simp) ((((Only.refl b13 sa).set 0 (.int .i64 77)).set 1 (.int .u32 1073741824)).set 2 (.int .u32 0)))
  replace BB := Lib.hid ((((BB.out).put b13 hle_b13 0 (.int .i64 77)).put b13 hle_b13 1 (.int .u32 1073741824)).put b13 hle_b13 2 (.int .u32 0))
  replace B13 : Hid (Box (World.setCell (World.setCell (World.setCell sa ⟨b13, 0, none⟩ (.int .i64 77)) ⟨b13, 1, none⟩ (.int .u32 1073741824)) ⟨b13, 2, none⟩ (.int .u32 0)) b13 #[.int .i64 77, .int .u32 1073741824, .int .u32 0] 45) := Lib.hid ((((B13.out).set 0 (.int .i64 77)).set 1 (.int .u32 1073741824)).set 2 (.int .u32 0))
  generalize (World.setCell (World.setCell (World.setCell sa ⟨b13, 0, none⟩ (.int .i64 77)) ⟨b13, 1, none⟩ (.int .u32 1073741824)) ⟨b13, 2, none⟩ (.int .u32 0)) = sb at *
  obtain ⟨d0, d1, d2, d3, d4, d5, d6, d7⟩ := X3.out.all8
  obtain ⟨⟨f0, f1', f2'⟩, -⟩ := B13.out.cells3
  obtain ⟨⟨n0, n1', n2'⟩, -⟩ := B9.out.cells3
  obtain ⟨⟨m0, m1⟩, g0, g1⟩ := B5.out.cells2
  go_wp2_with fail
  clear d0 d1 d2 d3 d4 d5 d6 d7
  clear f0 f1' f2'
  clear n0 n1' n2'
  clear m0 m1 g0 g1
  refine (load_plain _ _ M3 (1 + l.length + 1 + 1) 1 0 zB _ _ MM.out HG3.out (Nat.le_trans NB2.out (by decide)) (by rw [F3V.out]; exact KT1.out) (by rw [F3.out]; exact KP0.out) bB.1 bB.2).mono ?_
  rintro e a12 ⟨vx, rfl, hm, hb⟩
  replace X3 := Lib.hid (X3.out.below (hb))
  replace B5 := Lib.hid (B5.out.below (hb))
  replace B9 := Lib.hid (B9.out.below (hb))
  replace B10 := Lib.hid (B10.out.below (hb))
  replace B13 := Lib.hid (B13.out.below (hb))
  replace MM := Lib.hid (MM.out.below (hb))
  replace BB := Lib.hid (BB.out.trans ((hb).mono BB.out.size))
  clear hb
  rw [HC3.out, HW3.out]
  obtain ⟨_, x2, -, e2⟩ := hm.sl (np := n1) (nv := T) (by exact F3.out) (by simp [Mem.readAt]; exact F3V.out)
  subst e2
  clear hm
  go_upto_region 21 with fail
  have hlt_b14 := BB.out.size
  have hlt_b14_X3 := X3.out.lt
  have hlt_b14_B5 := B5.out.lt
  have hlt_b14_B9 := B9.out.lt
  have hlt_b14_B10 := B10.out.lt
  have hlt_b14_B13 := B13.out.lt
  replace X3 := Lib.hid (X3.out.below (below_new a12 (.cells #[.slice p2 n1 n1, .slice x2 T T] 31)))
  replace B5 := Lib.hid (B5.out.below (below_new a12 (.cells #[.slice p2 n1 n1, .slice x2 T T] 31)))
  replace B9 := Lib.hid (B9.out.below (below_new a12 (.cells #[.slice p2 n1 n1, .slice x2 T T] 31)))
  replace B10 := Lib.hid (B10.out.below (below_new a12 (.cells #[.slice p2 n1 n1, .slice x2 T T] 31)))
  replace B13 := Lib.hid (B13.out.below (below_new a12 (.cells #[.slice p2 n1 n1, .slice x2 T T] 31)))
  replace MM := Lib.hid (MM.out.below (below_new a12 (.cells #[.slice p2 n1 n1, .slice x2 T T] 31)))
  replace BB := Lib.hid (BB.out.trans ((below_new a12 (.cells #[.slice p2 n1 n1, .slice x2 T T] 31)).mono BB.out.size))
  have B14 := Lib.hid (Box.new a12 #[.slice p2 n1 n1, .slice x2 T T] 31 rfl)
  have hsz_b14 : (World.alloc a12 (.cells #[.slice p2 n1 n1, .slice x2 T T] 31)).heap.size = (World.heap a12).size + 1 := by simp
  generalize World.alloc a12 (.cells #[.slice p2 n1 n1, .slice x2 T T] 31) = a13 at *
  generalize World.heap a12 = hp_b14 at *
  generalize hp_b14.size = b14 at *
  have hne_b14_b5 : b14 ≠ b5 := Nat.ne_of_gt hlt_b14_B5
  have hne_b14_b13 : b14 ≠ b13 := Nat.ne_of_gt hlt_b14_B13
  clear hlt_b14_X3 hlt_b14_B5 hlt_b14_B9 hlt_b14_B10 hlt_b14_B13 hlt_b14
  have hlt_b15 := BB.out.size
  replace X3 := Lib.hid (X3.out.below (below_new a13 (.cells #[.int .i64 xa, .int .u32 xb, .int .u32 xc] 45)))
  replace B5 := Lib.hid (B5.out.below (below_new a13 (.cells #[.int .i64 xa, .int .u32 xb, .int .u32 xc] 45)))
  replace B9 := Lib.hid (B9.out.below (below_new a13 (.cells #[.int .i64 xa, .int .u32 xb, .int .u32 xc] 45)))
  replace B10 := Lib.hid (B10.out.below (below_new a13 (.cells #[.int .i64 xa, .int .u32 xb, .int .u32 xc] 45)))
  replace B13 := Lib.hid (B13.out.below (below_new a13 (.cells #[.int .i64 xa, .int .u32 xb, .int .u32 xc] 45)))
  replace MM := Lib.hid (MM.out.below (below_new a13 (.cells #[.int .i64 xa, .int .u32 xb, .int .u32 xc] 45)))
  replace B14 := Lib.hid (B14.out.below (below_new a13 (.cells #[.int .i64 xa, .int .u32 xb, .int .u32 xc] 45)))
  replace BB := Lib.hid (BB.out.trans ((below_new a13 (.cells #[.int .i64 xa, .int .u32 xb, .int .u32 xc] 45)).mono BB.out.size))
  have B15 := Lib.hid (Box.new a13 #[.int .i64 xa, .int .u32 xb, .int .u32 xc] 45 (n := b14 + 1) hsz_b14.symm)
  have hsz_b15 : (World.alloc a13 (.cells #[.int .i64 xa, .int .u32 xb, .int .u32 xc] 45)).heap.size = b14 + 1 + 1 := by simp [hsz_b14]
  rw [hsz_b14] at hlt_b15
  generalize World.alloc a13 (.cells #[.int .i64 xa, .int .u32 xb, .int .u32 xc] 45) = a14 at *
  obtain ⟨b15, hq_b15⟩ : ∃ b, b14 + 1 = b := ⟨_, rfl⟩
  rw [hq_b15] at B15 hsz_b15 ⊢
  clear hlt_b15
  obtain ⟨⟨f0, f1', f2'⟩, -⟩ := B15.out.cells3
  obtain ⟨d0, d1, d2, d3, d4, d5, d6, d7⟩ := X3.out.all8
  obtain ⟨⟨m0, m1⟩, g0, g1⟩ := B5.out.cells2
  go_wp2_with fail
  clear f0 f1' f2'
  clear d0 d1 d2 d3 d4 d5 d6 d7
  clear m0 m1 g0 g1
  refine (last_ok _ _ M3 (1 + l.length + 1 + 1) 2 _ MM.out.mw HG3.out (Nat.le_trans NB2.out (by decide)) (by rw [F3.out]; exact KP2.out)).mono ?_
  rintro e a15 ⟨rfl, hb⟩
  replace X3 := Lib.hid (X3.out.below (hb))
  replace B5 := Lib.hid (B5.out.below (hb))
  replace B9 := Lib.hid (B9.out.below (hb))
  replace B10 := Lib.hid (B10.out.below (hb))
  replace B13 := Lib.hid (B13.out.below (hb))
  replace MM := Lib.hid (MM.out.below (hb))
  replace B14 := Lib.hid (B14.out.below (hb))
  replace B15 := Lib.hid (B15.out.below (hb))
  replace BB := Lib.hid (BB.out.trans ((hb).mono BB.out.size))
  clear hb
  rw [HL3.out, HLW.out]
  go_upto_region 24 with fail
  clear B13
  clear B14
  clear B15
  clear B9
  replace MM := Lib.hid (MM.out.imp (D' := fun b => b ≠ b5) (fun b hb => hb.1))
  have hlt_b17 := BB.out.size
  have hlt_b17_X3 := X3.out.lt
  have hlt_b17_B5 := B5.out.lt
  have hlt_b17_B10 := B10.out.lt
  replace X3 := Lib.hid (X3.out.below (below_new a15 (.cells #[.int .i64 la, .int .u32 lb, .int .u32 lc] 45)))
  replace B5 := Lib.hid (B5.out.below (below_new a15 (.cells #[.int .i64 la, .int .u32 lb, .int .u32 lc] 45)))
  replace B10 := Lib.hid (B10.out.below (below_new a15 (.cells #[.int .i64 la, .int .u32 lb, .int .u32 lc] 45)))
  replace MM := Lib.hid (MM.out.below (below_new a15 (.cells #[.int .i64 la, .int .u32 lb, .int .u32 lc] 45)))
  replace BB := Lib.hid (BB.out.trans ((below_new a15 (.cells #[.int .i64 la, .int .u32 lb, .int .u32 lc] 45)).mono BB.out.size))
  have B17 := Lib.hid (Box.new a15 #[.int .i64 la, .int .u32 lb, .int .u32 lc] 45 rfl)
  have hsz_b17 : (World.alloc a15 (.cells #[.int .i64 la, .int .u32 lb, .int .u32 lc] 45)).heap.size = (World.heap a15).size + 1 := by simp
  generalize World.alloc a15 (.cells #[.int .i64 la, .int .u32 lb, .int .u32 lc] 45) = a16 at *
  generalize World.heap a15 = hp_b17 at *
  generalize hp_b17.size = b17 at *
  have hne_b17_b5 : b17 ≠ b5 := Nat.ne_of_gt hlt_b17_B5
  clear hlt_b17_X3 hlt_b17_B5 hlt_b17_B10 hlt_b17
  obtain ⟨⟨f0, f1', f2'⟩, -⟩ := B17.out.cells3
  obtain ⟨⟨k0, k1, k2⟩, -⟩ := B10.out.cells3
  obtain ⟨⟨m0, m1⟩, g0, g1⟩ := B5.out.cells2
  go_wp2_with fail
  clear f0 f1' f2'
  clear k0 k1 k2
  clear m0 m1 g0 g1
  have hlc := B5.out.lt
  refine (swap_hit _ _ M3 (1 + l.length + 1 + 1) 1 2 la lb lc 78 1073741824 0 _ _ MM.out HG3.out NB2.out (by rw [F3V.out]; exact KT1.out) (by rw [F3.out]; exact KP2.out) HM3F.out).mono ?_
  rintro e a17 ⟨pv, vv, rfl, hm, hb⟩
  replace X3 := Lib.hid (X3.out.below (hb))
  replace B5 := Lib.hid (B5.out.below (hb))
  replace B10 := Lib.hid (B10.out.below (hb))
  replace MM := Lib.hid (MM.out.below (hb))
  replace B17 := Lib.hid (B17.out.below (hb))
  replace BB := Lib.hid (BB.out.trans ((hb).mono BB.out.size))
  clear hb
  have MX := Lib.hid (hm)
  clear hm
  clear MM
  rw [HL3.out, HM3B.out, HM4.out] at MX
  have MM := Lib.hid (MX.out.imp (D' := fun b => b ≠ b5) (fun b hb => hb.elim id (fun h e => absurd (e ▸ h) (Nat.not_le_of_lt hlc))))
  clear MX hlc
  obtain ⟨p4, v4, e1, e2⟩ := MM.out.sl F4.out F4V.out
  subst e1 e2
  rw [HL3.out, HLW.out]
  have hbl5 := B5.out.lt
  obtain ⟨⟨m0, m1⟩, g0, g1⟩ := (B5.out.alloc (.cells #[.int .i64 0, .int .u32 0, .int .u32 0] 45)).cells2
  obtain ⟨⟨o0, o1⟩, o2, o3⟩ := ((B5.out.set 0 (.slice p4 n1 n1)).alloc (.cells #[.int .i64 0, .int .u32 0, .int .u32 0] 45)).cells2
  have hsz2 : (World.setCell (World.setCell a17 ⟨b5, 0, none⟩ (.slice p4 n1 n1)) ⟨b5, 1, none⟩ (.slice v4 T T)).heap.size = a17.heap.size := by simp [World.setCell]
  obtain ⟨⟨q0, q1, q2⟩, s0, s1, s2⟩ := (Box.new (World.setCell (World.setCell a17 ⟨b5, 0, none⟩ (.slice p4 n1 n1)) ⟨b5, 1, none⟩ (.slice v4 T T)) #[.int .i64 0, .int .u32 0, .int .u32 0] 45 hsz2.symm).cells3
  go_upto_region 25 with fail
  clear hbl5 m0 m1 g0 g1 o0 o1 o2 o3 q0 q1 q2 s0 s1 s2
  rw [← hsz2]
  replace X3 := Lib.hid (X3.out.only hne_b3_b5 (((Only.refl b5 a17).set 0 (.slice p4 n1 n1)).set 1 (.slice v4 T T)))
  replace B10 := Lib.hid (B10.out.only hne_b10_b5 (((Only.refl b5 a17).set 0 (.slice p4 n1 n1)).set 1 (.slice v4 T T)))
  replace B17 := Lib.hid (B17.out.only hne_b17_b5 (((Only.refl b5 a17).set 0 (.slice p4 n1 n1)).set 1 (.slice v4 T T)))
  replace MM := Lib.hid (MM.out.only B5.out (by simp) (((Only.refl b5 a17).set 0 (.slice p4 n1 n1)).set 1 (.slice v4 T T)))
  replace BB := Lib.hid (((BB.out).put b5 hle_b5 0 (.slice p4 n1 n1)).put b5 hle_b5 1 (.slice v4 T T))
  replace B5 : Hid (Box (World.setCell (World.setCell a17 ⟨b5, 0, none⟩ (.slice p4 n1 n1)) ⟨b5, 1, none⟩ (.slice v4 T T)) b5 #[.slice p4 n1 n1, .slice v4 T T] 31) := Lib.hid (((B5.out).set 0 (.slice p4 n1 n1)).set 1 (.slice v4 T T))
  generalize (World.setCell (World.setCell a17 ⟨b5, 0, none⟩ (.slice p4 n1 n1)) ⟨b5, 1, none⟩ (.slice v4 T T)) = tb19 at *
  clear hsz2
  have hlt_b19 := BB.out.size
  have hlt_b19_X3 := X3.out.lt
  have hlt_b19_B5 := B5.out.lt
  have hlt_b19_B10 := B10.out.lt
  have hlt_b19_B17 := B17.out.lt
  replace X3 := Lib.hid (X3.out.below (below_new tb19 (.cells #[.int .i64 la, .int .u32 lb, .int .u32 lc] 45)))
  replace B5 := Lib.hid (B5.out.below (below_new tb19 (.cells #[.int .i64 la, .int .u32 lb, .int .u32 lc] 45)))
  replace B10 := Lib.hid (B10.out.below (below_new tb19 (.cells #[.int .i64 la, .int .u32 lb, .int .u32 lc] 45)))
  replace B17 := Lib.hid (B17.out.below (below_new tb19 (.cells #[.int .i64 la, .int .u32 lb, .int .u32 lc] 45)))
  replace MM := Lib.hid (MM.out.below (below_new tb19 (.cells #[.int .i64 la, .int .u32 lb, .int .u32 lc] 45)))
  replace BB := Lib.hid (BB.out.trans ((below_new tb19 (.cells #[.int .i64 la, .int .u32 lb, .int .u32 lc] 45)).mono BB.out.size))
  have B19 := Lib.hid (Box.new tb19 #[.int .i64 la, .int .u32 lb, .int .u32 lc] 45 rfl)
  have hsz_b19 : (World.alloc tb19 (.cells #[.int .i64 la, .int .u32 lb, .int .u32 lc] 45)).heap.size = (World.heap tb19).size + 1 := by simp
  generalize World.alloc tb19 (.cells #[.int .i64 la, .int .u32 lb, .int .u32 lc] 45) = a18 at *
  generalize World.heap tb19 = hp_b19 at *
  generalize hp_b19.size = b19 at *
  have hne_b19_b5 : b19 ≠ b5 := Nat.ne_of_gt hlt_b19_B5
  clear hlt_b19_X3 hlt_b19_B5 hlt_b19_B10 hlt_b19_B17 hlt_b19
  clear B17
  clear B19
  obtain ⟨⟨m0, m1⟩, g0, g1⟩ := B5.out.cells2
  obtain ⟨d0, d1, d2, d3, d4, d5, d6, d7⟩ := X3.out.all8
  go_wp2_with fail
  clear m0 m1 g0 g1
  clear d0 d1 d2 d3 d4 d5 d6 d7
  have hlc := B5.out.lt
  refine (load_acq _ _ M4 (1 + l.length + 1 + 1 + 1) 2 2 xt _ _ MM.out HG4.out (Nat.le_trans NB3.out (by decide)) (by rw [F4V.out]; exact KT2.out) (by rw [F4.out]; exact KP2.out) bt.1 bt.2).mono ?_
  rintro e a19 ⟨vv, rfl, hm, hb⟩
  replace X3 := Lib.hid (X3.out.below (hb))
  replace B5 := Lib.hid (B5.out.below (hb))
  replace B10 := Lib.hid (B10.out.below (hb))
  replace MM := Lib.hid (MM.out.below (hb))
  replace BB := Lib.hid (BB.out.trans ((hb).mono BB.out.size))
  clear hb
  have MX := Lib.hid (hm)
  clear hm
  clear MM
  rw [HJ.out, HM5.out] at MX
  have MM := Lib.hid (MX.out.imp (D' := fun b => b ≠ b5) (fun b hb => hb.elim id (fun h e => absurd (e ▸ h) (Nat.not_le_of_lt hlc))))
  clear MX hlc
  obtain ⟨_, v5, e1, e2⟩ := MM.out.sl F5.out F5V.out
  clear e1
  subst e2
  rw [HJ.out, HGW.out]
  have hbl5 := B5.out.lt
  obtain ⟨⟨m0, m1⟩, g0, g1⟩ := (B5.out.alloc (.cells #[.int .i64 0, .int .u32 0, .int .u32 0] 45)).cells2
  obtain ⟨⟨o0, o1⟩, o2, o3⟩ := ((B5.out.set 0 (.slice p4 n1 n1)).alloc (.cells #[.int .i64 0, .int .u32 0, .int .u32 0] 45)).cells2
  have hsz2 : (World.setCell (World.setCell a19 ⟨b5, 0, none⟩ (.slice p4 n1 n1)) ⟨b5, 1, none⟩ (.slice v5 T T)).heap.size = a19.heap.size := by simp [World.setCell]
  obtain ⟨⟨q0, q1, q2⟩, s0, s1, s2⟩ := (Box.new (World.setCell (World.setCell a19 ⟨b5, 0, none⟩ (.slice p4 n1 n1)) ⟨b5, 1, none⟩ (.slice v5 T T)) #[.int .i64 0, .int .u32 0, .int .u32 0] 45 hsz2.symm).cells3
  go_upto_region 26 with fail
  clear hbl5 m0 m1 g0 g1 o0 o1 o2 o3 q0 q1 q2 s0 s1 s2
  rw [← hsz2]
  replace X3 := Lib.hid (X3.out.only hne_b3_b5 (((Only.refl b5 a19).set 0 (.slice p4 n1 n1)).set 1 (.slice v5 T T)))
  replace B10 := Lib.hid (B10.out.only hne_b10_b5 (((Only.refl b5 a19).set 0 (.slice p4 n1 n1)).set 1 (.slice v5 T T)))
  replace MM := Lib.hid (MM.out.only B5.out (by simp) (((Only.refl b5 a19).set 0 (.slice p4 n1 n1)).set 1 (.slice v5 T T)))
  replace BB := Lib.hid (((BB.out).put b5 hle_b5 0 (.slice p4 n1 n1)).put b5 hle_b5 1 (.slice v5 T T))
  replace B5 : Hid (Box (World.setCell (World.setCell a19 ⟨b5, 0, none⟩ (.slice p4 n1 n1)) ⟨b5, 1, none⟩ (.slice v5 T T)) b5 #[.slice p4 n1 n1, .slice v5 T T] 31) := Lib.hid (((B5.out).set 0 (.slice p4 n1 n1)).set 1 (.slice v5 T T))
  generalize (World.setCell (World.setCell a19 ⟨b5, 0, none⟩ (.slice p4 n1 n1)) ⟨b5, 1, none⟩ (.slice v5 T T)) = tb22 at *
  clear hsz2
  have hlt_b22 := BB.out.size
  have hlt_b22_X3 := X3.out.lt
  have hlt_b22_B5 := B5.out.lt
  have hlt_b22_B10 := B10.out.lt
  replace X3 := Lib.hid (X3.out.below (below_new tb22 (.cells #[.int .i64 ga, .int .u32 gb, .int .u32 gc] 45)))
  replace B5 := Lib.hid (B5.out.below (below_new tb22 (.cells #[.int .i64 ga, .int .u32 gb, .int .u32 gc] 45)))
  replace B10 := Lib.hid (B10.out.below (below_new tb22 (.cells #[.int .i64 ga, .int .u32 gb, .int .u32 gc] 45)))
  replace MM := Lib.hid (MM.out.below (below_new tb22 (.cells #[.int .i64 ga, .int .u32 gb, .int .u32 gc] 45)))
  replace BB := Lib.hid (BB.out.trans ((below_new tb22 (.cells #[.int .i64 ga, .int .u32 gb, .int .u32 gc] 45)).mono BB.out.size))
  have B22 := Lib.hid (Box.new tb22 #[.int .i64 ga, .int .u32 gb, .int .u32 gc] 45 rfl)
  have hsz_b22 : (World.alloc tb22 (.cells #[.int .i64 ga, .int .u32 gb, .int .u32 gc] 45)).heap.size = (World.heap tb22).size + 1 := by simp
  generalize World.alloc tb22 (.cells #[.int .i64 ga, .int .u32 gb, .int .u32 gc] 45) = a20 at *
  generalize World.heap tb22 = hp_b22 at *
  generalize hp_b22.size = b22 at *
  have hne_b22_b5 : b22 ≠ b5 := Nat.ne_of_gt hlt_b22_B5
  clear hlt_b22_X3 hlt_b22_B5 hlt_b22_B10 hlt_b22
  obtain ⟨⟨m0, m1⟩, g0, g1⟩ := B5.out.cells2
  obtain ⟨d0, d1, d2, d3, d4, d5, d6, d7⟩ := X3.out.all8
  go_wp2_with fail
  clear m0 m1 g0 g1
  clear d0 d1 d2 d3 d4 d5 d6 d7
  refine (load_plain _ _ M5 (1 + l.length + 1 + 1 + 1) 2 0 zC _ _ MM.out HG5.out (Nat.le_trans NB3.out (by decide)) (by rw [F5V.out]; exact KT2.out) (by rw [F5.out]; exact KP0.out) bC.1 bC.2).mono ?_
  rintro e a21 ⟨vx, rfl, hm, hb⟩
  replace X3 := Lib.hid (X3.out.below (hb))
  replace B5 := Lib.hid (B5.out.below (hb))
  replace B10 := Lib.hid (B10.out.below (hb))
  replace MM := Lib.hid (MM.out.below (hb))
  replace B22 := Lib.hid (B22.out.below (hb))
  replace BB := Lib.hid (BB.out.trans ((hb).mono BB.out.size))
  clear hb
  rw [HTW.out]
  obtain ⟨_, w2, -, e2⟩ := hm.sl (np := n1) (nv := T) (by exact F5.out) (by simp [Mem.readAt]; exact F5V.out)
  subst e2
  clear hm
  go_upto_region 27 with fail
  have hlt_b24 := BB.out.size
  have hlt_b24_X3 := X3.out.lt
  have hlt_b24_B5 := B5.out.lt
  have hlt_b24_B10 := B10.out.lt
  have hlt_b24_B22 := B22.out.lt
  replace X3 := Lib.hid (X3.out.below (below_new a21 (.cells #[.slice p4 n1 n1, .slice w2 T T] 31)))
  replace B5 := Lib.hid (B5.out.below (below_new a21 (.cells #[.slice p4 n1 n1, .slice w2 T T] 31)))
  replace B10 := Lib.hid (B10.out.below (below_new a21 (.cells #[.slice p4 n1 n1, .slice w2 T T] 31)))
  replace MM := Lib.hid (MM.out.below (below_new a21 (.cells #[.slice p4 n1 n1, .slice w2 T T] 31)))
  replace B22 := Lib.hid (B22.out.below (below_new a21 (.cells #[.slice p4 n1 n1, .slice w2 T T] 31)))
  replace BB := Lib.hid (BB.out.trans ((below_new a21 (.cells #[.slice p4 n1 n1, .slice w2 T T] 31)).mono BB.out.size))
  have B24 := Lib.hid (Box.new a21 #[.slice p4 n1 n1, .slice w2 T T] 31 rfl)
  have hsz_b24 : (World.alloc a21 (.cells #[.slice p4 n1 n1, .slice w2 T T] 31)).heap.size = (World.heap a21).size + 1 := by simp
  generalize World.alloc a21 (.cells #[.slice p4 n1 n1, .slice w2 T T] 31) = a22 at *
  generalize World.heap a21 = hp_b24 at *
  generalize hp_b24.size = b24 at *
  have hne_b24_b5 : b24 ≠ b5 := Nat.ne_of_gt hlt_b24_B5
  clear hlt_b24_X3 hlt_b24_B5 hlt_b24_B10 hlt_b24_B22 hlt_b24
  have hlt_b25 := BB.out.size
  replace X3 := Lib.hid (X3.out.below (below_new a22 (.cells #[.int .i64 ta, .int .u32 tb, .int .u32 tc] 45)))
  replace B5 := Lib.hid (B5.out.below (below_new a22 (.cells #[.int .i64 ta, .int .u32 tb, .int .u32 tc] 45)))
  replace B10 := Lib.hid (B10.out.below (below_new a22 (.cells #[.int .i64 ta, .int .u32 tb, .int .u32 tc] 45)))
  replace MM := Lib.hid (MM.out.below (below_new a22 (.cells #[.int .i64 ta, .int .u32 tb, .int .u32 tc] 45)))
  replace B22 := Lib.hid (B22.out.below (below_new a22 (.cells #[.int .i64 ta, .int .u32 tb, .int .u32 tc] 45)))
  replace B24 := Lib.hid (B24.out.below (below_new a22 (.cells #[.int .i64 ta, .int .u32 tb, .int .u32 tc] 45)))
  replace BB := Lib.hid (BB.out.trans ((below_new a22 (.cells #[.int .i64 ta, .int .u32 tb, .int .u32 tc] 45)).mono BB.out.size))
  have B25 := Lib.hid (Box.new a22 #[.int .i64 ta, .int .u32 tb, .int .u32 tc] 45 (n := b24 + 1) hsz_b24.symm)
  have hsz_b25 : (World.alloc a22 (.cells #[.int .i64 ta, .int .u32 tb, .int .u32 tc] 45)).heap.size = b24 + 1 + 1 := by simp [hsz_b24]
  rw [hsz_b24] at hlt_b25
  generalize World.alloc a22 (.cells #[.int .i64 ta, .int .u32 tb, .int .u32 tc] 45) = a23 at *
  obtain ⟨b25, hq_b25⟩ : ∃ b, b24 + 1 = b := ⟨_, rfl⟩
  rw [hq_b25] at B25 hsz_b25 ⊢
  obtain ⟨⟨f0, f1', f2'⟩, -⟩ := B22.out.cells3
  obtain ⟨⟨i0, i1, i2⟩, -⟩ := B25.out.cells3
  obtain ⟨⟨k0, k1, k2⟩, -⟩ := B10.out.cells3
  obtain ⟨d0, d1, d2, d3, d4, d5, d6, d7⟩ := X3.out.all8
  have F9 := BB.out
  rcases HFIN.out with hfin | ⟨⟨rfl, rfl, rfl⟩, rfl, rfl, rfl⟩
  · go_wp2
    go_ret
    exact ⟨by simp, by first | exact F9 | (rw [← hbq]; exact F9)⟩
  · go_wp2
    go_ret
    exact ⟨by simp, by first | exact F9 | (rw [← hbq]; exact F9)⟩

set_option maxRecDepth 100000 in
set_option maxHeartbeats 6400000 in
theorem passes_flag (T bF oF c1 : Nat) (ws : List Wd) (v : Value) (l : List DoV) (M : Mem) (hM : (newMem T ws).ress l = M) (xa xb xc xt zA zB zC : Int) (w : World) (h0 : 0 < ws.length) (h1 : ws.length ≤ 8) (t0 : 1 ≤ T) (t1 : T ≤ 8)
    (hF : IsWords w (.slice (some ⟨bF, oF, none⟩) ws.length c1) ws) (hd : IsDos w v l) (hl : l.length ≤ 40) (hok : DosOk l) (bt : -9223372036854775808 ≤ xt ∧ xt < 9223372036854775808) (bA : -9223372036854775808 ≤ zA ∧ zA < 9223372036854775808) (bB : -9223372036854775808 ≤ zB ∧ zB < 9223372036854775808) (bC : -9223372036854775808 ≤ zC ∧ zC < 9223372036854775808) (hT3 : 3 ≤ T) (hP3 : 3 ≤ ws.length) (hh : (M.hist 1).any (isW 77 1073741824 0) = false) (hh2 : (M.hist 2).any (isW 78 1073741824 0) = false) (hi : (chooseL (((M.writeAt 0 0 xa xb xc false).writeAt 0 1 77 1073741824 0 true).hist 1).length (atL (((M.writeAt 0 0 xa xb xc false).writeAt 0 1 77 1073741824 0 true).view 1) (1 : Nat)) zA).toNat = (M.hist 1).length) :
    Calls Try.prog 5 #[.agg #[.int .i64 T, .slice (some ⟨bF, oF, none⟩) ws.length c1, v], .agg #[.int .i64 xa, .int .u32 xb, .int .u32 xc, .int .i64 xt, .int .i64 zA, .int .i64 zB, .int .i64 zC, .bool false]] w fun e w' => e = .returned (.bool true) ∧ Below w.heap.size w w' := by
  obtain ⟨y2, c2, rfl⟩ := hd.slice
  have hg := ress_good (newMem_good T ws (by omega) t1) l
  have hS := ress_sound (newMem_sound T ws) (newMem_good T ws (by omega) t1) l (by omega)
  rw [hM] at hg hS
  obtain ⟨n1, hn1⟩ : ∃ n, ws.length = n := ⟨_, rfl⟩
  obtain ⟨n2, hn2⟩ : ∃ n, l.length = n := ⟨_, rfl⟩
  have e1 : M.hs.length = n1 := by rw [hg.2.1]; simp [newMem, hn1]
  have e2 : M.vs.length = T := by rw [hg.2.2]; simp [newMem]
  have HHA := Lib.hid hh
  have HHB := Lib.hid hh2
  have hlen : ∀ p, p < 3 → 0 < (M.hist p).length ∧ (M.hist p).length ≤ 41 := fun p hp => by have := hg.1.hist (p := p) (by omega); omega
  have hl0 := hlen 0 (by omega)
  have hl1' := hlen 1 (by omega)
  have hl2' := hlen 2 (by omega)
  obtain ⟨PA, hw0, hw1⟩ := pass_two hS (by omega) (by omega) (by omega) (fun p hp => by have := hlen p hp; omega) xa xb xc 77 1073741824 0
  have G1 := hg.1.writeAt 0 0 xa xb xc false (by omega)
  obtain ⟨M1, hM1⟩ : ∃ M1, M.writeAt 0 0 xa xb xc false = M1 := ⟨_, rfl⟩
  have f1 : M1.hs.length = n1 := by rw [← hM1, writeAt_len]; exact e1
  have f1v : M1.vs.length = T := by rw [← hM1]; simp [Mem.writeAt]; exact e2
  rw [hM1] at PA hw0 hw1 G1 hi
  have G2 := G1.writeAt 0 1 77 1073741824 0 true (by omega)
  obtain ⟨M2, hM2⟩ : ∃ M2, M1.writeAt 0 1 77 1073741824 0 true = M2 := ⟨_, rfl⟩
  have f2 : M2.hs.length = n1 := by rw [← hM2, writeAt_len]; exact f1
  have f2v : M2.vs.length = T := by rw [← hM2]; simp [Mem.writeAt]; exact f1v
  rw [hM2] at PA hw0 hw1 G2 hi
  obtain ⟨la, lb, lc, TL⟩ := pass_tail PA (by omega) (by omega) (by omega) (by omega) (by omega) hw0 hh2
  obtain ⟨L0, hL0⟩ : ∃ L, (M.hist 0).length = L := ⟨_, rfl⟩
  obtain ⟨L1, hL1⟩ : ∃ L, (M.hist 1).length = L := ⟨_, rfl⟩
  obtain ⟨L2, hL2⟩ : ∃ L, (M.hist 2).length = L := ⟨_, rfl⟩
  have hP1 := PA.h1
  rw [hL0, hL1, hL2] at TL
  rw [hL1] at hP1 hw1
  rw [hL1] at hi
  have G3 := G2.readAt 1 1 L1 true
  have S3 := PA.s.readAt (k := 1) (p := 1) (i := L1) (by omega) (by omega) (by omega) (by omega) true
  have hi2 : (chooseL (M2.hist 1).length (atL (M2.view 1) (1 : Nat)) zA).toNat = L1 := by first | exact hi | omega
  obtain ⟨M3, hM3⟩ : ∃ M3, M2.readAt 1 1 L1 true = M3 := ⟨_, rfl⟩
  rw [hM3] at TL G3 S3
  have G3b := G3.readAt 1 2 (L2 - 1) true
  obtain ⟨M3b, hM3b⟩ : ∃ Mx, M3.readAt 1 2 (L2 - 1) true = Mx := ⟨_, rfl⟩
  rw [hM3b] at TL G3b
  have n3b : M3b.hs.length = n1 := by rw [← hM3b]; exact TL.n3.1.trans e1
  have G4 := G3b.writeAt 1 2 78 1073741824 0 true (by omega)
  obtain ⟨M4, hM4⟩ : ∃ M4, M3b.writeAt 1 2 78 1073741824 0 true = M4 := ⟨_, rfl⟩
  rw [hM4] at TL G4
  have f3 : M3.hs.length = n1 := TL.n3.1.trans e1
  have f3v : M3.vs.length = T := TL.n3.2.trans e2
  have f4 : M4.hs.length = n1 := TL.n4.1.trans e1
  have f4v : M4.vs.length = T := TL.n4.2.trans e2
  obtain ⟨j, hj⟩ : ∃ j, (chooseL (M4.hist 2).length (atL (M4.view 2) (2 : Nat)) xt).toNat = j := ⟨_, rfl⟩
  have hjl : j ≤ L2 := by
    have := chooseL_in (n := (M4.hist 2).length) (f := atL (M4.view 2) (2 : Nat)) (c := xt) (by rw [TL.l4]; omega)
    rw [TL.l4] at this hj
    omega
  have G5 := G4.readAt 2 2 j true
  obtain ⟨M5, hM5⟩ : ∃ M5, M4.readAt 2 2 j true = M5 := ⟨_, rfl⟩
  rw [hM5] at G5
  have f5 : M5.hs.length = n1 := by rw [← hM5]; exact f4
  have f5v : M5.vs.length = T := by rw [← hM5]; simp [Mem.readAt]; exact f4v
  have htail : ∃ ga gb gc ta tb tc, wordV (M4.msg 2 j) = .agg #[.int .i64 ga, .int .u32 gb, .int .u32 gc] ∧ wordV (M5.msg 0 (chooseL (M5.hist 0).length (atL (M5.view 2) (0 : Nat)) zC).toNat) = .agg #[.int .i64 ta, .int .u32 tb, .int .u32 tc] ∧
      ((ga == 78 && (gb == 1073741824 && gc == 0)) = false ∨ ((ga = 78 ∧ gb = 1073741824 ∧ gc = 0) ∧ ta = xa ∧ tb = xb ∧ tc = xc)) := by
    by_cases hjj : j = L2
    · subst hjj
      have hc := TL.c4 zC
      rw [hM5] at hc
      refine ⟨78, 1073741824, 0, xa, xb, xc, TL.k4, ?_, .inr ⟨⟨rfl, rfl, rfl⟩, rfl, rfl, rfl⟩⟩
      rw [hc]
      have : M5.msg 0 L0 = M4.msg 0 L0 := by rw [← hM5]; rfl
      rw [this]; exact TL.w4
    · obtain ⟨ga, gb, gc, hgw, hgn⟩ := isW_no (TL.o4 j (by omega))
      exact ⟨ga, gb, gc, _, _, _, hgw, rfl, .inl hgn⟩
  obtain ⟨ga, gb, gc, ta, tb, tc, hgw, htw, hfin⟩ := htail
  have HFIN := Lib.hid hfin
  clear hfin
  have hlw : wordV (M3.msg 2 (L2 - 1)) = .agg #[.int .i64 la, .int .u32 lb, .int .u32 lc] := by
    have := TL.m3
    rw [TL.l3] at this
    unfold wordV; rw [this.1, this.2.1, this.2.2]
  have HC3 := Lib.hid (TL.c3 zB)
  have HW3 := Lib.hid (TL.w3)
  have HL3 := Lib.hid (TL.l3)
  have HM3F := Lib.hid (TL.m3)
  have HW1F := Lib.hid (hw1)
  have HI2 := Lib.hid (hi2)
  have HM1 := Lib.hid (hM1)
  have HM2 := Lib.hid (hM2)
  have HM3 := Lib.hid (hM3)
  have HM3B := Lib.hid (hM3b)
  have HM4 := Lib.hid (hM4)
  have HM5 := Lib.hid (hM5)
  have HJ := Lib.hid (hj)
  have HGW := Lib.hid (hgw)
  have HTW := Lib.hid (htw)
  have HLW := Lib.hid (hlw)
  have F1 := Lib.hid (f1)
  have F1V := Lib.hid (f1v)
  have F2 := Lib.hid (f2)
  have F2V := Lib.hid (f2v)
  have F3 := Lib.hid (f3)
  have F3V := Lib.hid (f3v)
  have F4 := Lib.hid (f4)
  have F4V := Lib.hid (f4v)
  have F5 := Lib.hid (f5)
  have F5V := Lib.hid (f5v)
  have HG1 := Lib.hid (G1)
  have HG2 := Lib.hid (G2)
  have HG3 := Lib.hid (G3)
  have HG4 := Lib.hid (G4)
  have HG5 := Lib.hid (G5)
  clear PA hw0 hw1 hM1 hM2 hM3 f1 f1v f2 f2v f3 f3v G1 G2 G3 hlen TL hP1 S3 hi2 G3b hM3b n3b G4 hM4 f4 f4v hj G5 hM5 f5 f5v hgw htw hlw
  clear hh hh2
  have HM := Lib.hid hM
  have HG := Lib.hid hg.1
  have E1 := Lib.hid e1
  have E2 := Lib.hid e2
  have HN1 := Lib.hid hn1
  have HN2 := Lib.hid hn2
  have HOK := Lib.hid hok
  have HW1 := Lib.hid h0
  have hbb := b2 w (.cells #[.int .i64 T, .slice (some ⟨bF, oF, none⟩) n1 c1, .slice y2 n2 c2] 25) (.cells #[.int .i64 xa, .int .u32 xb, .int .u32 xc, .int .i64 xt, .int .i64 zA, .int .i64 zB, .int .i64 zC, .bool false] 75)
  have FF := Lib.hid (hF.below hbb)
  have DD := Lib.hid (hd.below hbb)
  have HGL := Lib.hid (show 1 + l.length ≤ 41 by omega)
  have NB0 := Lib.hid (show 1 + l.length ≤ 999 by omega)
  have NB1 := Lib.hid (show 1 + l.length + 1 ≤ 999 by omega)
  have NB2 := Lib.hid (show 1 + l.length + 1 + 1 ≤ 999 by omega)
  have NB3 := Lib.hid (show 1 + l.length + 1 + 1 + 1 ≤ 999 by omega)
  have KT0 := Lib.hid (show 0 < T by omega)
  have KT1 := Lib.hid (show 1 < T by omega)
  have KT2 := Lib.hid (show 2 < T by omega)
  have KP0 := Lib.hid (show 0 < n1 by omega)
  have KP1 := Lib.hid (show 1 < n1 by omega)
  have KP2 := Lib.hid (show 2 < n1 by omega)
  rw [hn1] at h0 h1 FF ⊢
  rw [hn2] at hl DD ⊢
  (try rw [hn1] at h3)
  (try rw [hn1] at hP3)
  have qN := neqW
  have qE := eqlW
  have X2 := Lib.hid (Box.alloc (Box.new w #[.int .i64 T, .slice (some ⟨bF, oF, none⟩) n1 c1, .slice y2 n2 c2] 25 rfl) (.cells #[.int .i64 xa, .int .u32 xb, .int .u32 xc, .int .i64 xt, .int .i64 zA, .int .i64 zB, .int .i64 zC, .bool false] 75))
  have X3 := Lib.hid (Box.new (w.alloc (.cells #[.int .i64 T, .slice (some ⟨bF, oF, none⟩) n1 c1, .slice y2 n2 c2] 25)) #[.int .i64 xa, .int .u32 xb, .int .u32 xc, .int .i64 xt, .int .i64 zA, .int .i64 zB, .int .i64 zC, .bool false] 75 (n := w.heap.size + 1) (by simp))
  have BB := Lib.hid hbb
  clear hbb hF hd hok hg hM e1 e2 hn2 hS
  go_enter Try.func5, Try.ntmps5
  go_wp2_with fail
  generalize (w.alloc (.cells #[.int .i64 T, .slice (some ⟨bF, oF, none⟩) n1 c1, .slice y2 n2 c2] 25)).alloc (.cells #[.int .i64 xa, .int .u32 xb, .int .u32 xc, .int .i64 xt, .int .i64 zA, .int .i64 zB, .int .i64 zC, .bool false] 75) = W0 at *
  obtain ⟨b3, hb3⟩ : ∃ br, w.heap.size + 1 = br := ⟨_, rfl⟩
  obtain ⟨b2, hb2⟩ : ∃ bp, w.heap.size = bp := ⟨_, rfl⟩
  have hbq := hb2
  rw [hb3] at X3 ⊢
  rw [hb2] at X2 hb3 ⊢
  refine (awake_any _).mono ?_
  rintro e a0 ⟨rfl, hb⟩
  replace X2 := Lib.hid (X2.out.below (hb))
  replace X3 := Lib.hid (X3.out.below (hb))
  replace FF := Lib.hid (FF.out.below (hb))
  replace DD := Lib.hid (DD.out.below (hb))
  replace BB := Lib.hid (BB.out.trans ((hb).mono BB.out.size))
  clear hb
  obtain ⟨⟨m0, m1, m2⟩, -⟩ := X2.out.cells3
  go_wp2_with fail
  clear m0 m1 m2
  have hbg : Calls Try.prog 16 #[.agg #[.int .i64 T, .slice (some ⟨bF, oF, none⟩) n1 c1, .slice y2 n2 c2]] a0 fun e w' => ∃ pv vv, e = .returned (.tuple #[.agg #[pv, vv], .bool true]) ∧ MD (fun b => a0.heap.size ≤ b) w' pv vv M ∧ Below a0.heap.size a0 w' := by
    rcases FF.out with ⟨a', c', he', hw'⟩ | ⟨b', o', c', he', hbl, hcc⟩
    · exfalso; have hz := HN1.out; rw [hw'] at hz; simp at hz; omega
    · rw [HN1.out] at he'
      simp only [Value.slice.injEq, Option.some.injEq, Addr.mk.injEq, and_true] at he'
      obtain ⟨⟨rfl, rfl⟩, -, rfl⟩ := he'
      have hq := begun_ok T bF oF c1 ws (.slice y2 n2 c2) l a0 HW1.out (by rw [HN1.out]; omega) t0 t1 hbl hcc DD.out (by rw [HN2.out]; omega) HOK.out
      rw [HN1.out, HM.out] at hq
      exact hq
  refine (hbg).mono ?_
  rintro e a1 ⟨pv, vv, rfl, hm, hb⟩
  replace X2 := Lib.hid (X2.out.below (hb))
  replace X3 := Lib.hid (X3.out.below (hb))
  replace FF := Lib.hid (FF.out.below (hb))
  replace DD := Lib.hid (DD.out.below (hb))
  replace BB := Lib.hid (BB.out.trans ((hb).mono BB.out.size))
  clear hb
  have MM := Lib.hid (hm)
  clear hm hbg
  obtain ⟨u1, u2, e1, e2⟩ := MM.out.sl E1.out E2.out
  subst e1 e2
  clear FF
  clear DD
  clear X2
  go_upto_region 4 with fail
  replace MM := Lib.hid MM.out.addlt
  have hlt_b5 := BB.out.size
  have hlt_b5_X3 := X3.out.lt
  replace X3 := Lib.hid (X3.out.below (below_new a1 (.cells #[.slice u1 n1 n1, .slice u2 T T] 31)))
  replace MM := Lib.hid (MM.out.below (below_new a1 (.cells #[.slice u1 n1 n1, .slice u2 T T] 31)))
  replace BB := Lib.hid (BB.out.trans ((below_new a1 (.cells #[.slice u1 n1 n1, .slice u2 T T] 31)).mono BB.out.size))
  have B5 := Lib.hid (Box.new a1 #[.slice u1 n1 n1, .slice u2 T T] 31 rfl)
  have hsz_b5 : (World.alloc a1 (.cells #[.slice u1 n1 n1, .slice u2 T T] 31)).heap.size = (World.heap a1).size + 1 := by simp
  generalize World.alloc a1 (.cells #[.slice u1 n1 n1, .slice u2 T T] 31) = a2 at *
  generalize World.heap a1 = hp_b5 at *
  generalize hp_b5.size = b5 at *
  have hne_b3_b5 : b3 ≠ b5 := Nat.ne_of_lt hlt_b5_X3
  have hle_b5 := hlt_b5
  clear hlt_b5_X3 hlt_b5
  replace MM := Lib.hid (MM.out.imp (D' := fun b => b ≠ b5) (fun b hb => Nat.ne_of_lt hb.2))
  obtain ⟨⟨m0, m1⟩, g0, g1⟩ := B5.out.cells2
  go_wp2_with fail
  clear m0 m1 g0 g1
  refine (size_any u1 u2 n1 T _).mono ?_
  rintro e a3 ⟨rfl, hb⟩
  replace X3 := Lib.hid (X3.out.below (hb))
  replace MM := Lib.hid (MM.out.below (hb))
  replace B5 := Lib.hid (B5.out.below (hb))
  replace BB := Lib.hid (BB.out.trans ((hb).mono BB.out.size))
  clear hb
  go_upto_region 8 with fail
  have hl5q := B5.out.lt
  have hlt_b9 := BB.out.size
  have hlt_b9_X3 := X3.out.lt
  have hlt_b9_B5 := B5.out.lt
  replace X3 := Lib.hid (X3.out.below (below_new a3 (.cells #[.int .i64 77, .int .u32 1073741824, .int .u32 0] 45)))
  replace MM := Lib.hid (MM.out.below (below_new a3 (.cells #[.int .i64 77, .int .u32 1073741824, .int .u32 0] 45)))
  replace B5 := Lib.hid (B5.out.below (below_new a3 (.cells #[.int .i64 77, .int .u32 1073741824, .int .u32 0] 45)))
  replace BB := Lib.hid (BB.out.trans ((below_new a3 (.cells #[.int .i64 77, .int .u32 1073741824, .int .u32 0] 45)).mono BB.out.size))
  have B9 := Lib.hid (Box.new a3 #[.int .i64 77, .int .u32 1073741824, .int .u32 0] 45 rfl)
  have hsz_b9 : (World.alloc a3 (.cells #[.int .i64 77, .int .u32 1073741824, .int .u32 0] 45)).heap.size = (World.heap a3).size + 1 := by simp
  generalize World.alloc a3 (.cells #[.int .i64 77, .int .u32 1073741824, .int .u32 0] 45) = a4 at *
  generalize World.heap a3 = hp_b9 at *
  generalize hp_b9.size = b9 at *
  have hne_b9_b5 : b9 ≠ b5 := Nat.ne_of_gt hlt_b9_B5
  clear hlt_b9_X3 hlt_b9_B5 hlt_b9
  have hlt_b10 := BB.out.size
  replace X3 := Lib.hid (X3.out.below (below_new a4 (.cells #[.int .i64 78, .int .u32 1073741824, .int .u32 0] 45)))
  replace MM := Lib.hid (MM.out.below (below_new a4 (.cells #[.int .i64 78, .int .u32 1073741824, .int .u32 0] 45)))
  replace B5 := Lib.hid (B5.out.below (below_new a4 (.cells #[.int .i64 78, .int .u32 1073741824, .int .u32 0] 45)))
  replace B9 := Lib.hid (B9.out.below (below_new a4 (.cells #[.int .i64 78, .int .u32 1073741824, .int .u32 0] 45)))
  replace BB := Lib.hid (BB.out.trans ((below_new a4 (.cells #[.int .i64 78, .int .u32 1073741824, .int .u32 0] 45)).mono BB.out.size))
  have B10 := Lib.hid (Box.new a4 #[.int .i64 78, .int .u32 1073741824, .int .u32 0] 45 (n := b9 + 1) hsz_b9.symm)
  have hsz_b10 : (World.alloc a4 (.cells #[.int .i64 78, .int .u32 1073741824, .int .u32 0] 45)).heap.size = b9 + 1 + 1 := by simp [hsz_b9]
  rw [hsz_b9] at hlt_b10
  generalize World.alloc a4 (.cells #[.int .i64 78, .int .u32 1073741824, .int .u32 0] 45) = a5 at *
  obtain ⟨b10, hq_b10⟩ : ∃ b, b9 + 1 = b := ⟨_, rfl⟩
  rw [hq_b10] at B10 hsz_b10 ⊢
  have hne_b10_b5 : b10 ≠ b5 := by rw [← hq_b10]; omega
  clear hlt_b10 hl5q
  obtain ⟨⟨m0, m1⟩, g0, g1⟩ := B5.out.cells2
  obtain ⟨⟨n0, n1', n2'⟩, -⟩ := B9.out.cells3
  obtain ⟨⟨k0, k1, k2⟩, -⟩ := B10.out.cells3
  go_wp2_with fail
  clear m0 m1 g0 g1
  clear n0 n1' n2'
  clear k0 k1 k2
  refine (has_any _ _ M (1 + l.length) 1 77 1073741824 0 _ MM.out.mw HG.out (Nat.le_trans NB0.out (by decide)) (by rw [E1.out]; exact KP1.out)).mono ?_
  rintro e a6 ⟨rfl, hb⟩
  replace X3 := Lib.hid (X3.out.below (hb))
  replace MM := Lib.hid (MM.out.below (hb))
  replace B5 := Lib.hid (B5.out.below (hb))
  replace B9 := Lib.hid (B9.out.below (hb))
  replace B10 := Lib.hid (B10.out.below (hb))
  replace BB := Lib.hid (BB.out.trans ((hb).mono BB.out.size))
  clear hb
  rw [HHA.out]
  obtain ⟨⟨m0, m1⟩, g0, g1⟩ := B5.out.cells2
  obtain ⟨⟨n0, n1', n2'⟩, -⟩ := B9.out.cells3
  obtain ⟨⟨k0, k1, k2⟩, -⟩ := B10.out.cells3
  go_wp2_with fail
  clear m0 m1 g0 g1
  clear n0 n1' n2'
  clear k0 k1 k2
  refine (has_any _ _ M (1 + l.length) 2 78 1073741824 0 _ MM.out.mw HG.out (Nat.le_trans NB0.out (by decide)) (by rw [E1.out]; exact KP2.out)).mono ?_
  rintro e a7 ⟨rfl, hb⟩
  replace X3 := Lib.hid (X3.out.below (hb))
  replace MM := Lib.hid (MM.out.below (hb))
  replace B5 := Lib.hid (B5.out.below (hb))
  replace B9 := Lib.hid (B9.out.below (hb))
  replace B10 := Lib.hid (B10.out.below (hb))
  replace BB := Lib.hid (BB.out.trans ((hb).mono BB.out.size))
  clear hb
  rw [HHB.out]
  obtain ⟨⟨m0, m1⟩, g0, g1⟩ := B5.out.cells2
  obtain ⟨d0, d1, d2, d3, d4, d5, d6, d7⟩ := X3.out.all8
  go_wp2_with fail
  clear m0 m1 g0 g1
  clear d0 d1 d2 d3 d4 d5 d6 d7
  have hlc := B5.out.lt
  refine (store_plain _ _ M (1 + l.length) 0 0 xa xb xc _ _ MM.out HG.out NB0.out (by rw [E2.out]; exact KT0.out) (by rw [E1.out]; exact KP0.out)).mono ?_
  rintro e a8 ⟨pv, vv, rfl, hm, hb⟩
  replace X3 := Lib.hid (X3.out.below (hb))
  replace MM := Lib.hid (MM.out.below (hb))
  replace B5 := Lib.hid (B5.out.below (hb))
  replace B9 := Lib.hid (B9.out.below (hb))
  replace B10 := Lib.hid (B10.out.below (hb))
  replace BB := Lib.hid (BB.out.trans ((hb).mono BB.out.size))
  clear hb
  have MX := Lib.hid (hm)
  clear hm
  clear MM
  rw [HM1.out] at MX
  have MM := Lib.hid (MX.out.imp (D' := fun b => b ≠ b5) (fun b hb => hb.elim id (fun h e => absurd (e ▸ h) (Nat.not_le_of_lt hlc))))
  clear MX hlc
  obtain ⟨p1, v1, e1, e2⟩ := MM.out.sl F1.out F1V.out
  subst e1 e2
  obtain ⟨⟨m0, m1⟩, g0, g1⟩ := B5.out.cells2
  go_upto_region 11 with fail
  clear m0 m1 g0 g1
  replace X3 := Lib.hid (X3.out.only hne_b3_b5 (((Only.refl b5 a8).set 0 (.slice p1 n1 n1)).set 1 (.slice v1 T T)))
  replace B9 := Lib.hid (B9.out.only hne_b9_b5 (((Only.refl b5 a8).set 0 (.slice p1 n1 n1)).set 1 (.slice v1 T T)))
  replace B10 := Lib.hid (B10.out.only hne_b10_b5 (((Only.refl b5 a8).set 0 (.slice p1 n1 n1)).set 1 (.slice v1 T T)))
  replace MM := Lib.hid (MM.out.only B5.out (by simp) (((Only.refl b5 a8).set 0 (.slice p1 n1 n1)).set 1 (.slice v1 T T)))
  replace BB := Lib.hid (((BB.out).put b5 hle_b5 0 (.slice p1 n1 n1)).put b5 hle_b5 1 (.slice v1 T T))
  replace B5 : Hid (Box (World.setCell (World.setCell a8 ⟨b5, 0, none⟩ (.slice p1 n1 n1)) ⟨b5, 1, none⟩ (.slice v1 T T)) b5 #[.slice p1 n1 n1, .slice v1 T T] 31) := Lib.hid (((B5.out).set 0 (.slice p1 n1 n1)).set 1 (.slice v1 T T))
  generalize (World.setCell (World.setCell a8 ⟨b5, 0, none⟩ (.slice p1 n1 n1)) ⟨b5, 1, none⟩ (.slice v1 T T)) = s1 at *
  obtain ⟨⟨m0, m1⟩, g0, g1⟩ := B5.out.cells2
  obtain ⟨⟨n0, n1', n2'⟩, -⟩ := B9.out.cells3
  go_wp2_with fail
  clear m0 m1 g0 g1
  clear n0 n1' n2'
  have hlc := B5.out.lt
  refine (store_rel _ _ M1 (1 + l.length + 1) 0 1 77 1073741824 0 _ _ MM.out HG1.out NB1.out (by rw [F1V.out]; exact KT0.out) (by rw [F1.out]; exact KP1.out)).mono ?_
  rintro e a9 ⟨pv, vv, rfl, hm, hb⟩
  replace X3 := Lib.hid (X3.out.below (hb))
  replace B5 := Lib.hid (B5.out.below (hb))
  replace B9 := Lib.hid (B9.out.below (hb))
  replace B10 := Lib.hid (B10.out.below (hb))
  replace MM := Lib.hid (MM.out.below (hb))
  replace BB := Lib.hid (BB.out.trans ((hb).mono BB.out.size))
  clear hb
  have MX := Lib.hid (hm)
  clear hm
  clear MM
  rw [HM2.out] at MX
  have MM := Lib.hid (MX.out.imp (D' := fun b => b ≠ b5) (fun b hb => hb.elim id (fun h e => absurd (e ▸ h) (Nat.not_le_of_lt hlc))))
  clear MX hlc
  obtain ⟨p2, v2, e1, e2⟩ := MM.out.sl F2.out F2V.out
  subst e1 e2
  obtain ⟨⟨m0, m1⟩, g0, g1⟩ := B5.out.cells2
  go_upto_region 12 with fail
  clear m0 m1 g0 g1
  replace X3 := Lib.hid (X3.out.only hne_b3_b5 (((Only.refl b5 a9).set 0 (.slice p2 n1 n1)).set 1 (.slice v2 T T)))
  replace B9 := Lib.hid (B9.out.only hne_b9_b5 (((Only.refl b5 a9).set 0 (.slice p2 n1 n1)).set 1 (.slice v2 T T)))
  replace B10 := Lib.hid (B10.out.only hne_b10_b5 (((Only.refl b5 a9).set 0 (.slice p2 n1 n1)).set 1 (.slice v2 T T)))
  replace MM := Lib.hid (MM.out.only B5.out (by simp) (((Only.refl b5 a9).set 0 (.slice p2 n1 n1)).set 1 (.slice v2 T T)))
  replace BB := Lib.hid (((BB.out).put b5 hle_b5 0 (.slice p2 n1 n1)).put b5 hle_b5 1 (.slice v2 T T))
  replace B5 : Hid (Box (World.setCell (World.setCell a9 ⟨b5, 0, none⟩ (.slice p2 n1 n1)) ⟨b5, 1, none⟩ (.slice v2 T T)) b5 #[.slice p2 n1 n1, .slice v2 T T] 31) := Lib.hid (((B5.out).set 0 (.slice p2 n1 n1)).set 1 (.slice v2 T T))
  generalize (World.setCell (World.setCell a9 ⟨b5, 0, none⟩ (.slice p2 n1 n1)) ⟨b5, 1, none⟩ (.slice v2 T T)) = s2 at *
  go_upto_region 13 with fail
  replace MM := Lib.hid MM.out.addlt
  have hlt_b13 := BB.out.size
  have hlt_b13_X3 := X3.out.lt
  have hlt_b13_B5 := B5.out.lt
  have hlt_b13_B9 := B9.out.lt
  have hlt_b13_B10 := B10.out.lt
  replace X3 := Lib.hid (X3.out.below (below_new s2 (.cells #[.int .i64 0, .int .u32 0, .int .u32 0] 45)))
  replace B5 := Lib.hid (B5.out.below (below_new s2 (.cells #[.int .i64 0, .int .u32 0, .int .u32 0] 45)))
  replace B9 := Lib.hid (B9.out.below (below_new s2 (.cells #[.int .i64 0, .int .u32 0, .int .u32 0] 45)))
  replace B10 := Lib.hid (B10.out.below (below_new s2 (.cells #[.int .i64 0, .int .u32 0, .int .u32 0] 45)))
  replace MM := Lib.hid (MM.out.below (below_new s2 (.cells #[.int .i64 0, .int .u32 0, .int .u32 0] 45)))
  replace BB := Lib.hid (BB.out.trans ((below_new s2 (.cells #[.int .i64 0, .int .u32 0, .int .u32 0] 45)).mono BB.out.size))
  have B13 := Lib.hid (Box.new s2 #[.int .i64 0, .int .u32 0, .int .u32 0] 45 rfl)
  have hsz_b13 : (World.alloc s2 (.cells #[.int .i64 0, .int .u32 0, .int .u32 0] 45)).heap.size = (World.heap s2).size + 1 := by simp
  generalize World.alloc s2 (.cells #[.int .i64 0, .int .u32 0, .int .u32 0] 45) = a10 at *
  generalize World.heap s2 = hp_b13 at *
  generalize hp_b13.size = b13 at *
  have hne_b13_b5 : b13 ≠ b5 := Nat.ne_of_gt hlt_b13_B5
  have hne_b3_b13 : b3 ≠ b13 := Nat.ne_of_lt hlt_b13_X3
  have hne_b5_b13 : b5 ≠ b13 := Nat.ne_of_lt hlt_b13_B5
  have hne_b9_b13 : b9 ≠ b13 := Nat.ne_of_lt hlt_b13_B9
  have hne_b10_b13 : b10 ≠ b13 := Nat.ne_of_lt hlt_b13_B10
  have hle_b13 := hlt_b13
  clear hlt_b13_X3 hlt_b13_B5 hlt_b13_B9 hlt_b13_B10 hlt_b13
  replace MM := Lib.hid (MM.out.imp (D' := fun b => b ≠ b5 ∧ b ≠ b13) (fun b hb => ⟨hb.1, Nat.ne_of_lt hb.2⟩))
  obtain ⟨⟨m0, m1⟩, g0, g1⟩ := B5.out.cells2
  obtain ⟨d0, d1, d2, d3, d4, d5, d6, d7⟩ := X3.out.all8
  go_wp2_with fail
  clear m0 m1 g0 g1
  clear d0 d1 d2 d3 d4 d5 d6 d7
  have hlc := B5.out.lt
  have hlc13 := B13.out.lt
  refine (load_acq _ _ M2 (1 + l.length + 1 + 1) 1 1 zA _ _ MM.out HG2.out (Nat.le_trans NB2.out (by decide)) (by rw [F2V.out]; exact KT1.out) (by rw [F2.out]; exact KP1.out) bA.1 bA.2).mono ?_
  rintro e a11 ⟨vv, rfl, hm, hb⟩
  replace X3 := Lib.hid (X3.out.below (hb))
  replace B5 := Lib.hid (B5.out.below (hb))
  replace B9 := Lib.hid (B9.out.below (hb))
  replace B10 := Lib.hid (B10.out.below (hb))
  replace MM := Lib.hid (MM.out.below (hb))
  replace B13 := Lib.hid (B13.out.below (hb))
  replace BB := Lib.hid (BB.out.trans ((hb).mono BB.out.size))
  clear hb
  have MX := Lib.hid (hm)
  clear hm
  clear MM
  rw [HI2.out, HM3.out] at MX
  have MM := Lib.hid (MX.out.imp (D' := fun b => b ≠ b5 ∧ b ≠ b13) (fun b hb => hb.elim id (fun h => ⟨fun e => absurd (e ▸ h) (Nat.not_le_of_lt hlc), fun e => absurd (e ▸ h) (Nat.not_le_of_lt hlc13)⟩)))
  clear MX hlc hlc13
  obtain ⟨_, v3, e1, e2⟩ := MM.out.sl F3.out F3V.out
  clear e1
  subst e2
  rw [HI2.out, HW1F.out]
  obtain ⟨⟨m0, m1⟩, g0, g1⟩ := B5.out.cells2
  have on := ((Only.refl b5 a11).set 0 (.slice p2 n1 n1)).set 1 (.slice v3 T T)
  have r13 := B13.out.only (Ne.symm hne_b5_b13) on
  obtain ⟨⟨q0, q1, q2⟩, s0, s1, s2⟩ := r13.cells3
  go_upto_region 16 with fail
  clear m0 m1 g0 g1
  clear on r13 q0 q1 q2 s0 s1 s2
  replace X3 := Lib.hid (X3.out.only hne_b3_b5 (((Only.refl b5 a11).set 0 (.slice p2 n1 n1)).set 1 (.slice v3 T T)))
  replace B9 := Lib.hid (B9.out.only hne_b9_b5 (((Only.refl b5 a11).set 0 (.slice p2 n1 n1)).set 1 (.slice v3 T T)))
  replace B10 := Lib.hid (B10.out.only hne_b10_b5 (((Only.refl b5 a11).set 0 (.slice p2 n1 n1)).set 1 (.slice v3 T T)))
  replace B13 := Lib.hid (B13.out.only hne_b13_b5 (((Only.refl b5 a11).set 0 (.slice p2 n1 n1)).set 1 (.slice v3 T T)))
  replace MM := Lib.hid (MM.out.only B5.out (by simp) (((Only.refl b5 a11).set 0 (.slice p2 n1 n1)).set 1 (.slice v3 T T)))
  replace BB := Lib.hid (((BB.out).put b5 hle_b5 0 (.slice p2 n1 n1)).put b5 hle_b5 1 (.slice v3 T T))
  replace B5 : Hid (Box (World.setCell (World.setCell a11 ⟨b5, 0, none⟩ (.slice p2 n1 n1)) ⟨b5, 1, none⟩ (.slice v3 T T)) b5 #[.slice p2 n1 n1, .slice v3 T T] 31) := Lib.hid (((B5.out).set 0 (.slice p2 n1 n1)).set 1 (.slice v3 T T))
  generalize (World.setCell (World.setCell a11 ⟨b5, 0, none⟩ (.slice p2 n1 n1)) ⟨b5, 1, none⟩ (.slice v3 T T)) = sa at *
  replace X3 := Lib.hid (X3.out.only hne_b3_b13 ((((Only.refl b13 sa).set 0 (.int .i64 77)).set 1 (.int .u32 1073741824)).set 2 (.int .u32 0)))
  replace B5 := Lib.hid (B5.out.only hne_b5_b13 ((((Only.refl b13 sa).set 0 (.int .i64 77)).set 1 (.int .u32 1073741824)).set 2 (.int .u32 0)))
  replace B9 := Lib.hid (B9.out.only hne_b9_b13 ((((Only.refl b13 sa).set 0 (.int .i64 77)).set 1 (.int .u32 1073741824)).set 2 (.int .u32 0)))
  replace B10 := Lib.hid (B10.out.only hne_b10_b13 ((((Only.refl b13 sa).set 0 (.int .i64 77)).set 1 (.int .u32 1073741824)).set 2 (.int .u32 0)))
  replace MM := Lib.hid (MM.out.only B13.out (by simp) ((((Only.refl b13 sa).set 0 (.int .i64 77)).set 1 (.int .u32 1073741824)).set 2 (.int .u32 0)))
  replace BB := Lib.hid ((((BB.out).put b13 hle_b13 0 (.int .i64 77)).put b13 hle_b13 1 (.int .u32 1073741824)).put b13 hle_b13 2 (.int .u32 0))
  replace B13 : Hid (Box (World.setCell (World.setCell (World.setCell sa ⟨b13, 0, none⟩ (.int .i64 77)) ⟨b13, 1, none⟩ (.int .u32 1073741824)) ⟨b13, 2, none⟩ (.int .u32 0)) b13 #[.int .i64 77, .int .u32 1073741824, .int .u32 0] 45) := Lib.hid ((((B13.out).set 0 (.int .i64 77)).set 1 (.int .u32 1073741824)).set 2 (.int .u32 0))
  generalize (World.setCell (World.setCell (World.setCell sa ⟨b13, 0, none⟩ (.int .i64 77)) ⟨b13, 1, none⟩ (.int .u32 1073741824)) ⟨b13, 2, none⟩ (.int .u32 0)) = sb at *
  obtain ⟨d0, d1, d2, d3, d4, d5, d6, d7⟩ := X3.out.all8
  obtain ⟨⟨f0, f1', f2'⟩, -⟩ := B13.out.cells3
  obtain ⟨⟨n0, n1', n2'⟩, -⟩ := B9.out.cells3
  obtain ⟨⟨m0, m1⟩, g0, g1⟩ := B5.out.cells2
  go_wp2_with fail
  clear d0 d1 d2 d3 d4 d5 d6 d7
  clear f0 f1' f2'
  clear n0 n1' n2'
  clear m0 m1 g0 g1
  refine (load_plain _ _ M3 (1 + l.length + 1 + 1) 1 0 zB _ _ MM.out HG3.out (Nat.le_trans NB2.out (by decide)) (by rw [F3V.out]; exact KT1.out) (by rw [F3.out]; exact KP0.out) bB.1 bB.2).mono ?_
  rintro e a12 ⟨vx, rfl, hm, hb⟩
  replace X3 := Lib.hid (X3.out.below (hb))
  replace B5 := Lib.hid (B5.out.below (hb))
  replace B9 := Lib.hid (B9.out.below (hb))
  replace B10 := Lib.hid (B10.out.below (hb))
  replace B13 := Lib.hid (B13.out.below (hb))
  replace MM := Lib.hid (MM.out.below (hb))
  replace BB := Lib.hid (BB.out.trans ((hb).mono BB.out.size))
  clear hb
  rw [HC3.out, HW3.out]
  obtain ⟨_, x2, -, e2⟩ := hm.sl (np := n1) (nv := T) (by exact F3.out) (by simp [Mem.readAt]; exact F3V.out)
  subst e2
  clear hm
  go_upto_region 21 with fail
  have hlt_b14 := BB.out.size
  have hlt_b14_X3 := X3.out.lt
  have hlt_b14_B5 := B5.out.lt
  have hlt_b14_B9 := B9.out.lt
  have hlt_b14_B10 := B10.out.lt
  have hlt_b14_B13 := B13.out.lt
  replace X3 := Lib.hid (X3.out.below (below_new a12 (.cells #[.slice p2 n1 n1, .slice x2 T T] 31)))
  replace B5 := Lib.hid (B5.out.below (below_new a12 (.cells #[.slice p2 n1 n1, .slice x2 T T] 31)))
  replace B9 := Lib.hid (B9.out.below (below_new a12 (.cells #[.slice p2 n1 n1, .slice x2 T T] 31)))
  replace B10 := Lib.hid (B10.out.below (below_new a12 (.cells #[.slice p2 n1 n1, .slice x2 T T] 31)))
  replace B13 := Lib.hid (B13.out.below (below_new a12 (.cells #[.slice p2 n1 n1, .slice x2 T T] 31)))
  replace MM := Lib.hid (MM.out.below (below_new a12 (.cells #[.slice p2 n1 n1, .slice x2 T T] 31)))
  replace BB := Lib.hid (BB.out.trans ((below_new a12 (.cells #[.slice p2 n1 n1, .slice x2 T T] 31)).mono BB.out.size))
  have B14 := Lib.hid (Box.new a12 #[.slice p2 n1 n1, .slice x2 T T] 31 rfl)
  have hsz_b14 : (World.alloc a12 (.cells #[.slice p2 n1 n1, .slice x2 T T] 31)).heap.size = (World.heap a12).size + 1 := by simp
  generalize World.alloc a12 (.cells #[.slice p2 n1 n1, .slice x2 T T] 31) = a13 at *
  generalize World.heap a12 = hp_b14 at *
  generalize hp_b14.size = b14 at *
  have hne_b14_b5 : b14 ≠ b5 := Nat.ne_of_gt hlt_b14_B5
  have hne_b14_b13 : b14 ≠ b13 := Nat.ne_of_gt hlt_b14_B13
  clear hlt_b14_X3 hlt_b14_B5 hlt_b14_B9 hlt_b14_B10 hlt_b14_B13 hlt_b14
  have hlt_b15 := BB.out.size
  replace X3 := Lib.hid (X3.out.below (below_new a13 (.cells #[.int .i64 xa, .int .u32 xb, .int .u32 xc] 45)))
  replace B5 := Lib.hid (B5.out.below (below_new a13 (.cells #[.int .i64 xa, .int .u32 xb, .int .u32 xc] 45)))
  replace B9 := Lib.hid (B9.out.below (below_new a13 (.cells #[.int .i64 xa, .int .u32 xb, .int .u32 xc] 45)))
  replace B10 := Lib.hid (B10.out.below (below_new a13 (.cells #[.int .i64 xa, .int .u32 xb, .int .u32 xc] 45)))
  replace B13 := Lib.hid (B13.out.below (below_new a13 (.cells #[.int .i64 xa, .int .u32 xb, .int .u32 xc] 45)))
  replace MM := Lib.hid (MM.out.below (below_new a13 (.cells #[.int .i64 xa, .int .u32 xb, .int .u32 xc] 45)))
  replace B14 := Lib.hid (B14.out.below (below_new a13 (.cells #[.int .i64 xa, .int .u32 xb, .int .u32 xc] 45)))
  replace BB := Lib.hid (BB.out.trans ((below_new a13 (.cells #[.int .i64 xa, .int .u32 xb, .int .u32 xc] 45)).mono BB.out.size))
  have B15 := Lib.hid (Box.new a13 #[.int .i64 xa, .int .u32 xb, .int .u32 xc] 45 (n := b14 + 1) hsz_b14.symm)
  have hsz_b15 : (World.alloc a13 (.cells #[.int .i64 xa, .int .u32 xb, .int .u32 xc] 45)).heap.size = b14 + 1 + 1 := by simp [hsz_b14]
  rw [hsz_b14] at hlt_b15
  generalize World.alloc a13 (.cells #[.int .i64 xa, .int .u32 xb, .int .u32 xc] 45) = a14 at *
  obtain ⟨b15, hq_b15⟩ : ∃ b, b14 + 1 = b := ⟨_, rfl⟩
  rw [hq_b15] at B15 hsz_b15 ⊢
  clear hlt_b15
  obtain ⟨⟨f0, f1', f2'⟩, -⟩ := B15.out.cells3
  obtain ⟨d0, d1, d2, d3, d4, d5, d6, d7⟩ := X3.out.all8
  obtain ⟨⟨m0, m1⟩, g0, g1⟩ := B5.out.cells2
  go_wp2_with fail
  clear f0 f1' f2'
  clear d0 d1 d2 d3 d4 d5 d6 d7
  clear m0 m1 g0 g1
  refine (last_ok _ _ M3 (1 + l.length + 1 + 1) 2 _ MM.out.mw HG3.out (Nat.le_trans NB2.out (by decide)) (by rw [F3.out]; exact KP2.out)).mono ?_
  rintro e a15 ⟨rfl, hb⟩
  replace X3 := Lib.hid (X3.out.below (hb))
  replace B5 := Lib.hid (B5.out.below (hb))
  replace B9 := Lib.hid (B9.out.below (hb))
  replace B10 := Lib.hid (B10.out.below (hb))
  replace B13 := Lib.hid (B13.out.below (hb))
  replace MM := Lib.hid (MM.out.below (hb))
  replace B14 := Lib.hid (B14.out.below (hb))
  replace B15 := Lib.hid (B15.out.below (hb))
  replace BB := Lib.hid (BB.out.trans ((hb).mono BB.out.size))
  clear hb
  rw [HL3.out, HLW.out]
  go_upto_region 24 with fail
  clear B13
  clear B14
  clear B15
  clear B9
  replace MM := Lib.hid (MM.out.imp (D' := fun b => b ≠ b5) (fun b hb => hb.1))
  have hlt_b17 := BB.out.size
  have hlt_b17_X3 := X3.out.lt
  have hlt_b17_B5 := B5.out.lt
  have hlt_b17_B10 := B10.out.lt
  replace X3 := Lib.hid (X3.out.below (below_new a15 (.cells #[.int .i64 la, .int .u32 lb, .int .u32 lc] 45)))
  replace B5 := Lib.hid (B5.out.below (below_new a15 (.cells #[.int .i64 la, .int .u32 lb, .int .u32 lc] 45)))
  replace B10 := Lib.hid (B10.out.below (below_new a15 (.cells #[.int .i64 la, .int .u32 lb, .int .u32 lc] 45)))
  replace MM := Lib.hid (MM.out.below (below_new a15 (.cells #[.int .i64 la, .int .u32 lb, .int .u32 lc] 45)))
  replace BB := Lib.hid (BB.out.trans ((below_new a15 (.cells #[.int .i64 la, .int .u32 lb, .int .u32 lc] 45)).mono BB.out.size))
  have B17 := Lib.hid (Box.new a15 #[.int .i64 la, .int .u32 lb, .int .u32 lc] 45 rfl)
  have hsz_b17 : (World.alloc a15 (.cells #[.int .i64 la, .int .u32 lb, .int .u32 lc] 45)).heap.size = (World.heap a15).size + 1 := by simp
  generalize World.alloc a15 (.cells #[.int .i64 la, .int .u32 lb, .int .u32 lc] 45) = a16 at *
  generalize World.heap a15 = hp_b17 at *
  generalize hp_b17.size = b17 at *
  have hne_b17_b5 : b17 ≠ b5 := Nat.ne_of_gt hlt_b17_B5
  clear hlt_b17_X3 hlt_b17_B5 hlt_b17_B10 hlt_b17
  obtain ⟨⟨f0, f1', f2'⟩, -⟩ := B17.out.cells3
  obtain ⟨⟨k0, k1, k2⟩, -⟩ := B10.out.cells3
  obtain ⟨⟨m0, m1⟩, g0, g1⟩ := B5.out.cells2
  go_wp2_with fail
  clear f0 f1' f2'
  clear k0 k1 k2
  clear m0 m1 g0 g1
  have hlc := B5.out.lt
  refine (swap_hit _ _ M3 (1 + l.length + 1 + 1) 1 2 la lb lc 78 1073741824 0 _ _ MM.out HG3.out NB2.out (by rw [F3V.out]; exact KT1.out) (by rw [F3.out]; exact KP2.out) HM3F.out).mono ?_
  rintro e a17 ⟨pv, vv, rfl, hm, hb⟩
  replace X3 := Lib.hid (X3.out.below (hb))
  replace B5 := Lib.hid (B5.out.below (hb))
  replace B10 := Lib.hid (B10.out.below (hb))
  replace MM := Lib.hid (MM.out.below (hb))
  replace B17 := Lib.hid (B17.out.below (hb))
  replace BB := Lib.hid (BB.out.trans ((hb).mono BB.out.size))
  clear hb
  have MX := Lib.hid (hm)
  clear hm
  clear MM
  rw [HL3.out, HM3B.out, HM4.out] at MX
  have MM := Lib.hid (MX.out.imp (D' := fun b => b ≠ b5) (fun b hb => hb.elim id (fun h e => absurd (e ▸ h) (Nat.not_le_of_lt hlc))))
  clear MX hlc
  obtain ⟨p4, v4, e1, e2⟩ := MM.out.sl F4.out F4V.out
  subst e1 e2
  rw [HL3.out, HLW.out]
  have hbl5 := B5.out.lt
  obtain ⟨⟨m0, m1⟩, g0, g1⟩ := (B5.out.alloc (.cells #[.int .i64 0, .int .u32 0, .int .u32 0] 45)).cells2
  obtain ⟨⟨o0, o1⟩, o2, o3⟩ := ((B5.out.set 0 (.slice p4 n1 n1)).alloc (.cells #[.int .i64 0, .int .u32 0, .int .u32 0] 45)).cells2
  have hsz2 : (World.setCell (World.setCell a17 ⟨b5, 0, none⟩ (.slice p4 n1 n1)) ⟨b5, 1, none⟩ (.slice v4 T T)).heap.size = a17.heap.size := by simp [World.setCell]
  obtain ⟨⟨q0, q1, q2⟩, s0, s1, s2⟩ := (Box.new (World.setCell (World.setCell a17 ⟨b5, 0, none⟩ (.slice p4 n1 n1)) ⟨b5, 1, none⟩ (.slice v4 T T)) #[.int .i64 0, .int .u32 0, .int .u32 0] 45 hsz2.symm).cells3
  go_upto_region 25 with fail
  clear hbl5 m0 m1 g0 g1 o0 o1 o2 o3 q0 q1 q2 s0 s1 s2
  rw [← hsz2]
  replace X3 := Lib.hid (X3.out.only hne_b3_b5 (((Only.refl b5 a17).set 0 (.slice p4 n1 n1)).set 1 (.slice v4 T T)))
  replace B10 := Lib.hid (B10.out.only hne_b10_b5 (((Only.refl b5 a17).set 0 (.slice p4 n1 n1)).set 1 (.slice v4 T T)))
  replace B17 := Lib.hid (B17.out.only hne_b17_b5 (((Only.refl b5 a17).set 0 (.slice p4 n1 n1)).set 1 (.slice v4 T T)))
  replace MM := Lib.hid (MM.out.only B5.out (by simp) (((Only.refl b5 a17).set 0 (.slice p4 n1 n1)).set 1 (.slice v4 T T)))
  replace BB := Lib.hid (((BB.out).put b5 hle_b5 0 (.slice p4 n1 n1)).put b5 hle_b5 1 (.slice v4 T T))
  replace B5 : Hid (Box (World.setCell (World.setCell a17 ⟨b5, 0, none⟩ (.slice p4 n1 n1)) ⟨b5, 1, none⟩ (.slice v4 T T)) b5 #[.slice p4 n1 n1, .slice v4 T T] 31) := Lib.hid (((B5.out).set 0 (.slice p4 n1 n1)).set 1 (.slice v4 T T))
  generalize (World.setCell (World.setCell a17 ⟨b5, 0, none⟩ (.slice p4 n1 n1)) ⟨b5, 1, none⟩ (.slice v4 T T)) = tb19 at *
  clear hsz2
  have hlt_b19 := BB.out.size
  have hlt_b19_X3 := X3.out.lt
  have hlt_b19_B5 := B5.out.lt
  have hlt_b19_B10 := B10.out.lt
  have hlt_b19_B17 := B17.out.lt
  replace X3 := Lib.hid (X3.out.below (below_new tb19 (.cells #[.int .i64 la, .int .u32 lb, .int .u32 lc] 45)))
  replace B5 := Lib.hid (B5.out.below (below_new tb19 (.cells #[.int .i64 la, .int .u32 lb, .int .u32 lc] 45)))
  replace B10 := Lib.hid (B10.out.below (below_new tb19 (.cells #[.int .i64 la, .int .u32 lb, .int .u32 lc] 45)))
  replace B17 := Lib.hid (B17.out.below (below_new tb19 (.cells #[.int .i64 la, .int .u32 lb, .int .u32 lc] 45)))
  replace MM := Lib.hid (MM.out.below (below_new tb19 (.cells #[.int .i64 la, .int .u32 lb, .int .u32 lc] 45)))
  replace BB := Lib.hid (BB.out.trans ((below_new tb19 (.cells #[.int .i64 la, .int .u32 lb, .int .u32 lc] 45)).mono BB.out.size))
  have B19 := Lib.hid (Box.new tb19 #[.int .i64 la, .int .u32 lb, .int .u32 lc] 45 rfl)
  have hsz_b19 : (World.alloc tb19 (.cells #[.int .i64 la, .int .u32 lb, .int .u32 lc] 45)).heap.size = (World.heap tb19).size + 1 := by simp
  generalize World.alloc tb19 (.cells #[.int .i64 la, .int .u32 lb, .int .u32 lc] 45) = a18 at *
  generalize World.heap tb19 = hp_b19 at *
  generalize hp_b19.size = b19 at *
  have hne_b19_b5 : b19 ≠ b5 := Nat.ne_of_gt hlt_b19_B5
  clear hlt_b19_X3 hlt_b19_B5 hlt_b19_B10 hlt_b19_B17 hlt_b19
  clear B17
  clear B19
  obtain ⟨⟨m0, m1⟩, g0, g1⟩ := B5.out.cells2
  obtain ⟨d0, d1, d2, d3, d4, d5, d6, d7⟩ := X3.out.all8
  go_wp2_with fail
  clear m0 m1 g0 g1
  clear d0 d1 d2 d3 d4 d5 d6 d7
  have hlc := B5.out.lt
  refine (load_acq _ _ M4 (1 + l.length + 1 + 1 + 1) 2 2 xt _ _ MM.out HG4.out (Nat.le_trans NB3.out (by decide)) (by rw [F4V.out]; exact KT2.out) (by rw [F4.out]; exact KP2.out) bt.1 bt.2).mono ?_
  rintro e a19 ⟨vv, rfl, hm, hb⟩
  replace X3 := Lib.hid (X3.out.below (hb))
  replace B5 := Lib.hid (B5.out.below (hb))
  replace B10 := Lib.hid (B10.out.below (hb))
  replace MM := Lib.hid (MM.out.below (hb))
  replace BB := Lib.hid (BB.out.trans ((hb).mono BB.out.size))
  clear hb
  have MX := Lib.hid (hm)
  clear hm
  clear MM
  rw [HJ.out, HM5.out] at MX
  have MM := Lib.hid (MX.out.imp (D' := fun b => b ≠ b5) (fun b hb => hb.elim id (fun h e => absurd (e ▸ h) (Nat.not_le_of_lt hlc))))
  clear MX hlc
  obtain ⟨_, v5, e1, e2⟩ := MM.out.sl F5.out F5V.out
  clear e1
  subst e2
  rw [HJ.out, HGW.out]
  have hbl5 := B5.out.lt
  obtain ⟨⟨m0, m1⟩, g0, g1⟩ := (B5.out.alloc (.cells #[.int .i64 0, .int .u32 0, .int .u32 0] 45)).cells2
  obtain ⟨⟨o0, o1⟩, o2, o3⟩ := ((B5.out.set 0 (.slice p4 n1 n1)).alloc (.cells #[.int .i64 0, .int .u32 0, .int .u32 0] 45)).cells2
  have hsz2 : (World.setCell (World.setCell a19 ⟨b5, 0, none⟩ (.slice p4 n1 n1)) ⟨b5, 1, none⟩ (.slice v5 T T)).heap.size = a19.heap.size := by simp [World.setCell]
  obtain ⟨⟨q0, q1, q2⟩, s0, s1, s2⟩ := (Box.new (World.setCell (World.setCell a19 ⟨b5, 0, none⟩ (.slice p4 n1 n1)) ⟨b5, 1, none⟩ (.slice v5 T T)) #[.int .i64 0, .int .u32 0, .int .u32 0] 45 hsz2.symm).cells3
  go_upto_region 26 with fail
  clear hbl5 m0 m1 g0 g1 o0 o1 o2 o3 q0 q1 q2 s0 s1 s2
  rw [← hsz2]
  replace X3 := Lib.hid (X3.out.only hne_b3_b5 (((Only.refl b5 a19).set 0 (.slice p4 n1 n1)).set 1 (.slice v5 T T)))
  replace B10 := Lib.hid (B10.out.only hne_b10_b5 (((Only.refl b5 a19).set 0 (.slice p4 n1 n1)).set 1 (.slice v5 T T)))
  replace MM := Lib.hid (MM.out.only B5.out (by simp) (((Only.refl b5 a19).set 0 (.slice p4 n1 n1)).set 1 (.slice v5 T T)))
  replace BB := Lib.hid (((BB.out).put b5 hle_b5 0 (.slice p4 n1 n1)).put b5 hle_b5 1 (.slice v5 T T))
  replace B5 : Hid (Box (World.setCell (World.setCell a19 ⟨b5, 0, none⟩ (.slice p4 n1 n1)) ⟨b5, 1, none⟩ (.slice v5 T T)) b5 #[.slice p4 n1 n1, .slice v5 T T] 31) := Lib.hid (((B5.out).set 0 (.slice p4 n1 n1)).set 1 (.slice v5 T T))
  generalize (World.setCell (World.setCell a19 ⟨b5, 0, none⟩ (.slice p4 n1 n1)) ⟨b5, 1, none⟩ (.slice v5 T T)) = tb22 at *
  clear hsz2
  have hlt_b22 := BB.out.size
  have hlt_b22_X3 := X3.out.lt
  have hlt_b22_B5 := B5.out.lt
  have hlt_b22_B10 := B10.out.lt
  replace X3 := Lib.hid (X3.out.below (below_new tb22 (.cells #[.int .i64 ga, .int .u32 gb, .int .u32 gc] 45)))
  replace B5 := Lib.hid (B5.out.below (below_new tb22 (.cells #[.int .i64 ga, .int .u32 gb, .int .u32 gc] 45)))
  replace B10 := Lib.hid (B10.out.below (below_new tb22 (.cells #[.int .i64 ga, .int .u32 gb, .int .u32 gc] 45)))
  replace MM := Lib.hid (MM.out.below (below_new tb22 (.cells #[.int .i64 ga, .int .u32 gb, .int .u32 gc] 45)))
  replace BB := Lib.hid (BB.out.trans ((below_new tb22 (.cells #[.int .i64 ga, .int .u32 gb, .int .u32 gc] 45)).mono BB.out.size))
  have B22 := Lib.hid (Box.new tb22 #[.int .i64 ga, .int .u32 gb, .int .u32 gc] 45 rfl)
  have hsz_b22 : (World.alloc tb22 (.cells #[.int .i64 ga, .int .u32 gb, .int .u32 gc] 45)).heap.size = (World.heap tb22).size + 1 := by simp
  generalize World.alloc tb22 (.cells #[.int .i64 ga, .int .u32 gb, .int .u32 gc] 45) = a20 at *
  generalize World.heap tb22 = hp_b22 at *
  generalize hp_b22.size = b22 at *
  have hne_b22_b5 : b22 ≠ b5 := Nat.ne_of_gt hlt_b22_B5
  clear hlt_b22_X3 hlt_b22_B5 hlt_b22_B10 hlt_b22
  obtain ⟨⟨m0, m1⟩, g0, g1⟩ := B5.out.cells2
  obtain ⟨d0, d1, d2, d3, d4, d5, d6, d7⟩ := X3.out.all8
  go_wp2_with fail
  clear m0 m1 g0 g1
  clear d0 d1 d2 d3 d4 d5 d6 d7
  refine (load_plain _ _ M5 (1 + l.length + 1 + 1 + 1) 2 0 zC _ _ MM.out HG5.out (Nat.le_trans NB3.out (by decide)) (by rw [F5V.out]; exact KT2.out) (by rw [F5.out]; exact KP0.out) bC.1 bC.2).mono ?_
  rintro e a21 ⟨vx, rfl, hm, hb⟩
  replace X3 := Lib.hid (X3.out.below (hb))
  replace B5 := Lib.hid (B5.out.below (hb))
  replace B10 := Lib.hid (B10.out.below (hb))
  replace MM := Lib.hid (MM.out.below (hb))
  replace B22 := Lib.hid (B22.out.below (hb))
  replace BB := Lib.hid (BB.out.trans ((hb).mono BB.out.size))
  clear hb
  rw [HTW.out]
  obtain ⟨_, w2, -, e2⟩ := hm.sl (np := n1) (nv := T) (by exact F5.out) (by simp [Mem.readAt]; exact F5V.out)
  subst e2
  clear hm
  go_upto_region 27 with fail
  have hlt_b24 := BB.out.size
  have hlt_b24_X3 := X3.out.lt
  have hlt_b24_B5 := B5.out.lt
  have hlt_b24_B10 := B10.out.lt
  have hlt_b24_B22 := B22.out.lt
  replace X3 := Lib.hid (X3.out.below (below_new a21 (.cells #[.slice p4 n1 n1, .slice w2 T T] 31)))
  replace B5 := Lib.hid (B5.out.below (below_new a21 (.cells #[.slice p4 n1 n1, .slice w2 T T] 31)))
  replace B10 := Lib.hid (B10.out.below (below_new a21 (.cells #[.slice p4 n1 n1, .slice w2 T T] 31)))
  replace MM := Lib.hid (MM.out.below (below_new a21 (.cells #[.slice p4 n1 n1, .slice w2 T T] 31)))
  replace B22 := Lib.hid (B22.out.below (below_new a21 (.cells #[.slice p4 n1 n1, .slice w2 T T] 31)))
  replace BB := Lib.hid (BB.out.trans ((below_new a21 (.cells #[.slice p4 n1 n1, .slice w2 T T] 31)).mono BB.out.size))
  have B24 := Lib.hid (Box.new a21 #[.slice p4 n1 n1, .slice w2 T T] 31 rfl)
  have hsz_b24 : (World.alloc a21 (.cells #[.slice p4 n1 n1, .slice w2 T T] 31)).heap.size = (World.heap a21).size + 1 := by simp
  generalize World.alloc a21 (.cells #[.slice p4 n1 n1, .slice w2 T T] 31) = a22 at *
  generalize World.heap a21 = hp_b24 at *
  generalize hp_b24.size = b24 at *
  have hne_b24_b5 : b24 ≠ b5 := Nat.ne_of_gt hlt_b24_B5
  clear hlt_b24_X3 hlt_b24_B5 hlt_b24_B10 hlt_b24_B22 hlt_b24
  have hlt_b25 := BB.out.size
  replace X3 := Lib.hid (X3.out.below (below_new a22 (.cells #[.int .i64 ta, .int .u32 tb, .int .u32 tc] 45)))
  replace B5 := Lib.hid (B5.out.below (below_new a22 (.cells #[.int .i64 ta, .int .u32 tb, .int .u32 tc] 45)))
  replace B10 := Lib.hid (B10.out.below (below_new a22 (.cells #[.int .i64 ta, .int .u32 tb, .int .u32 tc] 45)))
  replace MM := Lib.hid (MM.out.below (below_new a22 (.cells #[.int .i64 ta, .int .u32 tb, .int .u32 tc] 45)))
  replace B22 := Lib.hid (B22.out.below (below_new a22 (.cells #[.int .i64 ta, .int .u32 tb, .int .u32 tc] 45)))
  replace B24 := Lib.hid (B24.out.below (below_new a22 (.cells #[.int .i64 ta, .int .u32 tb, .int .u32 tc] 45)))
  replace BB := Lib.hid (BB.out.trans ((below_new a22 (.cells #[.int .i64 ta, .int .u32 tb, .int .u32 tc] 45)).mono BB.out.size))
  have B25 := Lib.hid (Box.new a22 #[.int .i64 ta, .int .u32 tb, .int .u32 tc] 45 (n := b24 + 1) hsz_b24.symm)
  have hsz_b25 : (World.alloc a22 (.cells #[.int .i64 ta, .int .u32 tb, .int .u32 tc] 45)).heap.size = b24 + 1 + 1 := by simp [hsz_b24]
  rw [hsz_b24] at hlt_b25
  generalize World.alloc a22 (.cells #[.int .i64 ta, .int .u32 tb, .int .u32 tc] 45) = a23 at *
  obtain ⟨b25, hq_b25⟩ : ∃ b, b24 + 1 = b := ⟨_, rfl⟩
  rw [hq_b25] at B25 hsz_b25 ⊢
  obtain ⟨⟨f0, f1', f2'⟩, -⟩ := B22.out.cells3
  obtain ⟨⟨i0, i1, i2⟩, -⟩ := B25.out.cells3
  obtain ⟨⟨k0, k1, k2⟩, -⟩ := B10.out.cells3
  obtain ⟨d0, d1, d2, d3, d4, d5, d6, d7⟩ := X3.out.all8
  have F9 := BB.out
  rcases HFIN.out with hfin | ⟨⟨rfl, rfl, rfl⟩, rfl, rfl, rfl⟩
  · go_wp2
    go_ret
    exact ⟨by simp, by first | exact F9 | (rw [← hbq]; exact F9)⟩
  · go_wp2
    go_ret
    exact ⟨by simp, by first | exact F9 | (rw [← hbq]; exact F9)⟩
end Go.Proofs.Ytbaljoehgdhhhaa
