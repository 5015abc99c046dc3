/- MemoryPasses: the walk, its parts together. -/
import Derived.Test.YtbaljoehgdhhhaaPasses0
namespace Go.Proofs.Ytbaljoehgdhhhaa
open Go.RowKit Go.Shelf Go.Maps

set_option maxRecDepth 100000 in
set_option maxHeartbeats 3200000 in
theorem passes_err (T : Int) (y1 y2 : Option Addr) (n1 c1 n2 c2 : Nat) (xa xb xc xt zA zB zC : Int) (lk : Bool) (w : World) (he : newErr T n1 ≠ 0) :
    Calls Try.prog 5 #[.agg #[.int .i64 T, .slice y1 n1 c1, .slice y2 n2 c2], .agg #[.int .i64 xa, .int .u32 xb, .int .u32 xc, .int .i64 xt, .int .i64 zA, .int .i64 zB, .int .i64 zC, .bool lk]] w fun e w' => e = .returned (.bool true) ∧ Below w.heap.size w w' := by
  have HE := Lib.hid he
  clear he
  have X3 := Lib.hid (Box.alloc (Box.new w #[.int .i64 T, .slice y1 n1 c1, .slice y2 n2 c2] 25 rfl) (.cells #[.int .i64 xa, .int .u32 xb, .int .u32 xc, .int .i64 xt, .int .i64 zA, .int .i64 zB, .int .i64 zC, .bool lk] 75))
  have BB := Lib.hid (b2 w (.cells #[.int .i64 T, .slice y1 n1 c1, .slice y2 n2 c2] 25) (.cells #[.int .i64 xa, .int .u32 xb, .int .u32 xc, .int .i64 xt, .int .i64 zA, .int .i64 zB, .int .i64 zC, .bool lk] 75))
  go_enter Try.func5, Try.ntmps5
  go_wp2_with fail
  generalize (w.alloc (.cells #[.int .i64 T, .slice y1 n1 c1, .slice y2 n2 c2] 25)).alloc (.cells #[.int .i64 xa, .int .u32 xb, .int .u32 xc, .int .i64 xt, .int .i64 zA, .int .i64 zB, .int .i64 zC, .bool lk] 75) = W0 at *
  obtain ⟨b3, hb3⟩ : ∃ bp, w.heap.size = bp := ⟨_, rfl⟩
  have hbq := hb3
  rw [hb3] at X3 ⊢
  refine (awake_any _).mono ?_
  rintro e a0 ⟨rfl, hb⟩
  replace X3 := Lib.hid (X3.out.below (hb))
  replace BB := Lib.hid (BB.out.trans ((hb).mono BB.out.size))
  clear hb
  obtain ⟨⟨m0, m1, m2⟩, -⟩ := X3.out.cells3
  go_wp2_with fail
  clear m0 m1 m2
  refine (begun_err T y1 y2 n1 c1 n2 c2 _ HE.out).mono ?_
  rintro e a1 ⟨rfl, hb⟩
  replace X3 := Lib.hid (X3.out.below (hb))
  replace BB := Lib.hid (BB.out.trans ((hb).mono BB.out.size))
  clear hb
  go_upto_region 4 with fail
  have hlt_b7 := BB.out.size
  have hlt_b7_X3 := X3.out.lt
  replace X3 := Lib.hid (X3.out.below (below_new a1 (.cells #[.slice none 0 0, .slice none 0 0] 31)))
  replace BB := Lib.hid (BB.out.trans ((below_new a1 (.cells #[.slice none 0 0, .slice none 0 0] 31)).mono BB.out.size))
  have B7 := Lib.hid (Box.new a1 #[.slice none 0 0, .slice none 0 0] 31 rfl)
  have hsz_b7 : (World.alloc a1 (.cells #[.slice none 0 0, .slice none 0 0] 31)).heap.size = (World.heap a1).size + 1 := by simp
  generalize World.alloc a1 (.cells #[.slice none 0 0, .slice none 0 0] 31) = a2 at *
  generalize World.heap a1 = hp_b7 at *
  generalize hp_b7.size = b7 at *
  obtain ⟨⟨g0, g1⟩, -⟩ := B7.out.cells2
  go_wp2_with fail
  clear g0 g1
  refine (size_any _ _ _ _ _).mono ?_
  rintro e a3 ⟨rfl, hb⟩
  replace X3 := Lib.hid (X3.out.below (hb))
  replace B7 := Lib.hid (B7.out.below (hb))
  replace BB := Lib.hid (BB.out.trans ((hb).mono BB.out.size))
  clear hb
  have F2 := BB.out
  clear X3 B7 BB
  go_wp2
  go_ret
  exact ⟨by simp, by first | exact F2 | (rw [← hbq]; exact F2)⟩

set_option maxRecDepth 100000 in
set_option maxHeartbeats 3200000 in
theorem passes_many (T bF oF c1 : Nat) (ws : List Wd) (y2 : Option Addr) (n2 c2 : Nat) (xa xb xc xt zA zB zC : Int) (lk : Bool) (w : World) (h0 : 0 < ws.length) (h1 : ws.length ≤ 4096) (t0 : 1 ≤ T) (t1 : T ≤ 8) (hF : IsWords w (.slice (some ⟨bF, oF, none⟩) ws.length c1) ws) (hf : ¬ (ws.length ≤ 8 ∧ n2 ≤ 40)) :
    Calls Try.prog 5 #[.agg #[.int .i64 T, .slice (some ⟨bF, oF, none⟩) ws.length c1, .slice y2 n2 c2], .agg #[.int .i64 xa, .int .u32 xb, .int .u32 xc, .int .i64 xt, .int .i64 zA, .int .i64 zB, .int .i64 zC, .bool lk]] w fun e w' => e = .returned (.bool true) ∧ Below w.heap.size w w' := by
  obtain ⟨n1, hn1⟩ : ∃ n, ws.length = n := ⟨_, rfl⟩
  have HN1 := Lib.hid hn1
  have HW1 := Lib.hid h0
  have HF0 := Lib.hid hf
  have FF := Lib.hid (hF.below (b2 w (.cells #[.int .i64 T, .slice (some ⟨bF, oF, none⟩) n1 c1, .slice y2 n2 c2] 25) (.cells #[.int .i64 xa, .int .u32 xb, .int .u32 xc, .int .i64 xt, .int .i64 zA, .int .i64 zB, .int .i64 zC, .bool lk] 75)))
  rw [hn1] at h0 h1 FF ⊢
  clear hF hf
  have X3 := Lib.hid (Box.alloc (Box.new w #[.int .i64 T, .slice (some ⟨bF, oF, none⟩) n1 c1, .slice y2 n2 c2] 25 rfl) (.cells #[.int .i64 xa, .int .u32 xb, .int .u32 xc, .int .i64 xt, .int .i64 zA, .int .i64 zB, .int .i64 zC, .bool lk] 75))
  have BB := Lib.hid (b2 w (.cells #[.int .i64 T, .slice (some ⟨bF, oF, none⟩) n1 c1, .slice y2 n2 c2] 25) (.cells #[.int .i64 xa, .int .u32 xb, .int .u32 xc, .int .i64 xt, .int .i64 zA, .int .i64 zB, .int .i64 zC, .bool lk] 75))
  go_enter Try.func5, Try.ntmps5
  go_wp2_with fail
  generalize (w.alloc (.cells #[.int .i64 T, .slice (some ⟨bF, oF, none⟩) n1 c1, .slice y2 n2 c2] 25)).alloc (.cells #[.int .i64 xa, .int .u32 xb, .int .u32 xc, .int .i64 xt, .int .i64 zA, .int .i64 zB, .int .i64 zC, .bool lk] 75) = W0 at *
  obtain ⟨b3, hb3⟩ : ∃ bp, w.heap.size = bp := ⟨_, rfl⟩
  have hbq := hb3
  rw [hb3] at X3 ⊢
  refine (awake_any _).mono ?_
  rintro e a0 ⟨rfl, hb⟩
  replace X3 := Lib.hid (X3.out.below (hb))
  replace FF := Lib.hid (FF.out.below (hb))
  replace BB := Lib.hid (BB.out.trans ((hb).mono BB.out.size))
  clear hb
  obtain ⟨⟨m0, m1, m2⟩, -⟩ := X3.out.cells3
  go_wp2_with fail
  clear m0 m1 m2
  have hbg : Calls Try.prog 16 #[.agg #[.int .i64 T, .slice (some ⟨bF, oF, none⟩) n1 c1, .slice y2 n2 c2]] a0 fun e w' => ∃ p q np nv, e = .returned (.tuple #[.agg #[.slice p np np, .slice q nv nv], .bool false]) ∧ Below a0.heap.size a0 w' := by
    rcases FF.out with ⟨a', c', he', hw'⟩ | ⟨b', o', c', he', hbl, hcc⟩
    · exfalso; have hz := HN1.out; rw [hw'] at hz; simp at hz; omega
    · rw [HN1.out] at he'
      simp only [Value.slice.injEq, Option.some.injEq, Addr.mk.injEq, and_true] at he'
      obtain ⟨⟨rfl, rfl⟩, -, rfl⟩ := he'
      have hq := begun_many T bF oF c1 ws y2 n2 c2 a0 HW1.out (by rw [HN1.out]; omega) t0 t1 hbl hcc HF0.out
      rw [HN1.out] at hq
      exact hq
  refine (hbg).mono ?_
  rintro e a1 ⟨p, q, np, nv, rfl, hb⟩
  replace X3 := Lib.hid (X3.out.below (hb))
  replace FF := Lib.hid (FF.out.below (hb))
  replace BB := Lib.hid (BB.out.trans ((hb).mono BB.out.size))
  clear hb
  clear hbg
  go_upto_region 4 with fail
  have hlt_b7 := BB.out.size
  have hlt_b7_X3 := X3.out.lt
  replace X3 := Lib.hid (X3.out.below (below_new a1 (.cells #[.slice p np np, .slice q nv nv] 31)))
  replace FF := Lib.hid (FF.out.below (below_new a1 (.cells #[.slice p np np, .slice q nv nv] 31)))
  replace BB := Lib.hid (BB.out.trans ((below_new a1 (.cells #[.slice p np np, .slice q nv nv] 31)).mono BB.out.size))
  have B7 := Lib.hid (Box.new a1 #[.slice p np np, .slice q nv nv] 31 rfl)
  have hsz_b7 : (World.alloc a1 (.cells #[.slice p np np, .slice q nv nv] 31)).heap.size = (World.heap a1).size + 1 := by simp
  generalize World.alloc a1 (.cells #[.slice p np np, .slice q nv nv] 31) = a2 at *
  generalize World.heap a1 = hp_b7 at *
  generalize hp_b7.size = b7 at *
  obtain ⟨⟨g0, g1⟩, -⟩ := B7.out.cells2
  go_wp2_with fail
  clear g0 g1
  refine (size_any _ _ _ _ _).mono ?_
  rintro e a3 ⟨rfl, hb⟩
  replace X3 := Lib.hid (X3.out.below (hb))
  replace FF := Lib.hid (FF.out.below (hb))
  replace B7 := Lib.hid (B7.out.below (hb))
  replace BB := Lib.hid (BB.out.trans ((hb).mono BB.out.size))
  clear hb
  have F2 := BB.out
  clear X3 FF B7 BB
  go_wp2
  go_ret
  exact ⟨by simp, by first | exact F2 | (rw [← hbq]; exact F2)⟩

theorem passes (T : Int) (vf vl : Value) (ws : List Wd) (l : List DoV) (xa xb xc xt zA zB zC : Int) (lk : Bool) (w : World) (hw : IsWords w vf ws) (hd : IsDos w vl l) (hok : DosOk l) (bt : -9223372036854775808 ≤ xt ∧ xt < 9223372036854775808) (bA : -9223372036854775808 ≤ zA ∧ zA < 9223372036854775808) (bB : -9223372036854775808 ≤ zB ∧ zB < 9223372036854775808) (bC : -9223372036854775808 ≤ zC ∧ zC < 9223372036854775808) :
    Calls Try.prog 5 #[.agg #[.int .i64 T, vf, vl], .agg #[.int .i64 xa, .int .u32 xb, .int .u32 xc, .int .i64 xt, .int .i64 zA, .int .i64 zB, .int .i64 zC, .bool lk]] w fun e w' => e = .returned (.bool true) ∧ Below w.heap.size w w' := by
  by_cases he : newErr T ws.length ≠ 0
  · obtain ⟨y1, c1, rfl⟩ := hw.slice
    obtain ⟨y2, c2, rfl⟩ := hd.slice
    exact passes_err T y1 y2 _ c1 _ c2 xa xb xc xt zA zB zC lk w he
  · have hT : 1 ≤ T ∧ T ≤ 8 ∧ 0 < ws.length ∧ ws.length ≤ 4096 := by
      unfold newErr at he
      have he := Decidable.not_not.1 he
      split at he
      · cases he
      · split at he
        · cases he
        · split at he
          · cases he
          · omega
    clear he
    obtain ⟨T, rfl⟩ : ∃ n : Nat, T = n := ⟨T.toNat, by omega⟩
    obtain ⟨ht0, ht1, h0, h1⟩ := hT
    have hF := hw
    rcases hw with ⟨_, _, _, rfl⟩ | ⟨bF, oF, c1, rfl, _, _⟩
    · simp at h0
    by_cases hf : ws.length ≤ 8 ∧ l.length ≤ 40
    · obtain ⟨hf1, hl⟩ := hf
      obtain ⟨M, hM⟩ : ∃ M, (newMem T ws).ress l = M := ⟨_, rfl⟩
      by_cases h3 : T < 3
      · exact passes_fewT T bF oF c1 ws vl l _ hM xa xb xc xt zA zB zC lk w h0 hf1 (by omega) (by omega) hF hd hl hok bt bA bB bC h3
      · by_cases h4 : ws.length < 3
        · exact passes_fewP T bF oF c1 ws vl l _ hM xa xb xc xt zA zB zC lk w h0 hf1 (by omega) (by omega) hF hd hl hok bt bA bB bC h4
        · cases hh : (M.hist 1).any (isW 77 1073741824 0) with
          | true => exact passes_has1 T bF oF c1 ws vl l _ hM xa xb xc xt zA zB zC lk w h0 hf1 (by omega) (by omega) hF hd hl hok bt bA bB bC (by omega) (by omega) hh
          | false =>
            cases hh2 : (M.hist 2).any (isW 78 1073741824 0) with
            | true => exact passes_has2 T bF oF c1 ws vl l _ hM xa xb xc xt zA zB zC lk w h0 hf1 (by omega) (by omega) hF hd hl hok bt bA bB bC (by omega) (by omega) hh hh2
            | false =>
              cases lk with
              | true => exact passes_look T bF oF c1 ws vl l _ hM xa xb xc xt zA zB zC w h0 hf1 (by omega) (by omega) hF hd hl hok bt bA bB bC (by omega) (by omega) hh hh2
              | false =>
                have hg := ress_good (newMem_good T ws (by omega) (by omega)) l
                have hS := ress_sound (newMem_sound T ws) (newMem_good T ws (by omega) (by omega)) l (by omega)
                rw [hM] at hg hS
                have e1 : M.hs.length = ws.length := by rw [hg.2.1]; simp [newMem]
                have e2 : M.vs.length = T := by rw [hg.2.2]; simp [newMem]
                obtain ⟨PA, -, -⟩ := pass_two hS (by omega) (by omega) (by omega) (fun p hp => by have := hg.1.hist (p := p) (by omega); omega) xa xb xc 77 1073741824 0
                have hc := chooseL_in (n := (((M.writeAt 0 0 xa xb xc false).writeAt 0 1 77 1073741824 0 true).hist 1).length) (f := atL (((M.writeAt 0 0 xa xb xc false).writeAt 0 1 77 1073741824 0 true).view 1) (1 : Nat)) (c := zA) (by rw [PA.h1]; omega)
                have hP1 := PA.h1
                by_cases hi : (chooseL (((M.writeAt 0 0 xa xb xc false).writeAt 0 1 77 1073741824 0 true).hist 1).length (atL (((M.writeAt 0 0 xa xb xc false).writeAt 0 1 77 1073741824 0 true).view 1) (1 : Nat)) zA).toNat = (M.hist 1).length
                · exact passes_flag T bF oF c1 ws vl l _ hM xa xb xc xt zA zB zC w h0 hf1 (by omega) (by omega) hF hd hl hok bt bA bB bC (by omega) (by omega) hh hh2 hi
                · exact passes_other T bF oF c1 ws vl l _ hM xa xb xc xt zA zB zC w h0 hf1 (by omega) (by omega) hF hd hl hok bt bA bB bC (by omega) (by omega) hh hh2 (by omega)
    · obtain ⟨y2, c2, rfl⟩ := hd.slice
      exact passes_many T bF oF c1 ws y2 _ c2 xa xb xc xt zA zB zC lk w h0 h1 (by omega) (by omega) hF hf
end Go.Proofs.Ytbaljoehgdhhhaa
