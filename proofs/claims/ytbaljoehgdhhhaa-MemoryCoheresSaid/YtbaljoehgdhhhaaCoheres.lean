/- MemoryCoheres: the walk, its parts together. -/
import Derived.Test.YtbaljoehgdhhhaaCoheres0
namespace Go.Proofs.Ytbaljoehgdhhhaa
open Go.RowKit Go.Shelf Go.Maps

set_option maxRecDepth 100000 in
set_option maxHeartbeats 3200000 in
theorem coheres_err (T : Int) (y1 y2 : Option Addr) (n1 c1 n2 c2 : Nat) (t op at_ oa ob oc na nb nc z : Int) (w : World) (he : newErr T n1 ≠ 0) :
    Calls Try.prog 4 #[.agg #[.int .i64 T, .slice y1 n1 c1, .slice y2 n2 c2], .agg #[.int .i64 t, .int .i64 op, .int .i64 at_, .int .i64 oa, .int .u32 ob, .int .u32 oc, .int .i64 na, .int .u32 nb, .int .u32 nc, .int .i64 z]] w fun e w' => e = .returned (.bool true) ∧ Below w.heap.size w w' := by
  have HE := Lib.hid he
  clear he
  have X3 := Lib.hid (Box.alloc (Box.new w #[.int .i64 T, .slice y1 n1 c1, .slice y2 n2 c2] 25 rfl) (.cells #[.int .i64 t, .int .i64 op, .int .i64 at_, .int .i64 oa, .int .u32 ob, .int .u32 oc, .int .i64 na, .int .u32 nb, .int .u32 nc, .int .i64 z] 49))
  have BB := Lib.hid (b2 w (.cells #[.int .i64 T, .slice y1 n1 c1, .slice y2 n2 c2] 25) (.cells #[.int .i64 t, .int .i64 op, .int .i64 at_, .int .i64 oa, .int .u32 ob, .int .u32 oc, .int .i64 na, .int .u32 nb, .int .u32 nc, .int .i64 z] 49))
  go_enter Try.func4, Try.ntmps4
  go_wp2_with fail
  generalize (w.alloc (.cells #[.int .i64 T, .slice y1 n1 c1, .slice y2 n2 c2] 25)).alloc (.cells #[.int .i64 t, .int .i64 op, .int .i64 at_, .int .i64 oa, .int .u32 ob, .int .u32 oc, .int .i64 na, .int .u32 nb, .int .u32 nc, .int .i64 z] 49) = W0 at *
  obtain ⟨b3, hb3⟩ : ∃ bp, w.heap.size = bp := ⟨_, rfl⟩
  have hbq := hb3
  rw [hb3] at X3 ⊢
  refine (awake_any _).mono ?_
  rintro e a0 ⟨rfl, hb⟩
  replace X3 := Lib.hid (X3.out.below (hb))
  replace BB := Lib.hid (BB.out.trans ((hb).mono BB.out.size))
  clear hb
  obtain ⟨⟨m0, m1, m2⟩, -⟩ := X3.out.cells3
  go_wp2_with fail
  clear m0 m1 m2
  refine (begun_err T y1 y2 n1 c1 n2 c2 _ HE.out).mono ?_
  rintro e a1 ⟨rfl, hb⟩
  replace X3 := Lib.hid (X3.out.below (hb))
  replace BB := Lib.hid (BB.out.trans ((hb).mono BB.out.size))
  clear hb
  go_upto_region 4 with fail
  have hlt_b7 := BB.out.size
  have hlt_b7_X3 := X3.out.lt
  replace X3 := Lib.hid (X3.out.below (below_new a1 (.cells #[.slice none 0 0, .slice none 0 0] 31)))
  replace BB := Lib.hid (BB.out.trans ((below_new a1 (.cells #[.slice none 0 0, .slice none 0 0] 31)).mono BB.out.size))
  have B7 := Lib.hid (Box.new a1 #[.slice none 0 0, .slice none 0 0] 31 rfl)
  have hsz_b7 : (World.alloc a1 (.cells #[.slice none 0 0, .slice none 0 0] 31)).heap.size = (World.heap a1).size + 1 := by simp
  generalize World.alloc a1 (.cells #[.slice none 0 0, .slice none 0 0] 31) = a2 at *
  generalize World.heap a1 = hp_b7 at *
  generalize hp_b7.size = b7 at *
  have F2 := BB.out
  clear X3 B7 BB
  go_wp2
  go_ret
  exact ⟨by simp, by first | exact F2 | (rw [← hbq]; exact F2)⟩

set_option maxRecDepth 100000 in
set_option maxHeartbeats 3200000 in
theorem coheres_many (T bF oF c1 : Nat) (ws : List Wd) (y2 : Option Addr) (n2 c2 : Nat) (t op at_ oa ob oc na nb nc z : Int) (w : World) (h0 : 0 < ws.length) (h1 : ws.length ≤ 4096) (t0 : 1 ≤ T) (t1 : T ≤ 8) (hF : IsWords w (.slice (some ⟨bF, oF, none⟩) ws.length c1) ws) (hf : ¬ (ws.length ≤ 8 ∧ n2 ≤ 40)) :
    Calls Try.prog 4 #[.agg #[.int .i64 T, .slice (some ⟨bF, oF, none⟩) ws.length c1, .slice y2 n2 c2], .agg #[.int .i64 t, .int .i64 op, .int .i64 at_, .int .i64 oa, .int .u32 ob, .int .u32 oc, .int .i64 na, .int .u32 nb, .int .u32 nc, .int .i64 z]] w fun e w' => e = .returned (.bool true) ∧ Below w.heap.size w w' := by
  obtain ⟨n1, hn1⟩ : ∃ n, ws.length = n := ⟨_, rfl⟩
  have HN1 := Lib.hid hn1
  have HW1 := Lib.hid h0
  have HF0 := Lib.hid hf
  have FF := Lib.hid (hF.below (b2 w (.cells #[.int .i64 T, .slice (some ⟨bF, oF, none⟩) n1 c1, .slice y2 n2 c2] 25) (.cells #[.int .i64 t, .int .i64 op, .int .i64 at_, .int .i64 oa, .int .u32 ob, .int .u32 oc, .int .i64 na, .int .u32 nb, .int .u32 nc, .int .i64 z] 49)))
  rw [hn1] at h0 h1 FF ⊢
  clear hF hf
  have X3 := Lib.hid (Box.alloc (Box.new w #[.int .i64 T, .slice (some ⟨bF, oF, none⟩) n1 c1, .slice y2 n2 c2] 25 rfl) (.cells #[.int .i64 t, .int .i64 op, .int .i64 at_, .int .i64 oa, .int .u32 ob, .int .u32 oc, .int .i64 na, .int .u32 nb, .int .u32 nc, .int .i64 z] 49))
  have BB := Lib.hid (b2 w (.cells #[.int .i64 T, .slice (some ⟨bF, oF, none⟩) n1 c1, .slice y2 n2 c2] 25) (.cells #[.int .i64 t, .int .i64 op, .int .i64 at_, .int .i64 oa, .int .u32 ob, .int .u32 oc, .int .i64 na, .int .u32 nb, .int .u32 nc, .int .i64 z] 49))
  go_enter Try.func4, Try.ntmps4
  go_wp2_with fail
  generalize (w.alloc (.cells #[.int .i64 T, .slice (some ⟨bF, oF, none⟩) n1 c1, .slice y2 n2 c2] 25)).alloc (.cells #[.int .i64 t, .int .i64 op, .int .i64 at_, .int .i64 oa, .int .u32 ob, .int .u32 oc, .int .i64 na, .int .u32 nb, .int .u32 nc, .int .i64 z] 49) = W0 at *
  obtain ⟨b3, hb3⟩ : ∃ bp, w.heap.size = bp := ⟨_, rfl⟩
  have hbq := hb3
  rw [hb3] at X3 ⊢
  refine (awake_any _).mono ?_
  rintro e a0 ⟨rfl, hb⟩
  replace X3 := Lib.hid (X3.out.below (hb))
  replace FF := Lib.hid (FF.out.below (hb))
  replace BB := Lib.hid (BB.out.trans ((hb).mono BB.out.size))
  clear hb
  obtain ⟨⟨m0, m1, m2⟩, -⟩ := X3.out.cells3
  go_wp2_with fail
  clear m0 m1 m2
  have hbg : Calls Try.prog 16 #[.agg #[.int .i64 T, .slice (some ⟨bF, oF, none⟩) n1 c1, .slice y2 n2 c2]] a0 fun e w' => ∃ p q np nv, e = .returned (.tuple #[.agg #[.slice p np np, .slice q nv nv], .bool false]) ∧ Below a0.heap.size a0 w' := by
    rcases FF.out with ⟨a', c', he', hw'⟩ | ⟨b', o', c', he', hbl, hcc⟩
    · exfalso; have hz := HN1.out; rw [hw'] at hz; simp at hz; omega
    · rw [HN1.out] at he'
      simp only [Value.slice.injEq, Option.some.injEq, Addr.mk.injEq, and_true] at he'
      obtain ⟨⟨rfl, rfl⟩, -, rfl⟩ := he'
      have hq := begun_many T bF oF c1 ws y2 n2 c2 a0 HW1.out (by rw [HN1.out]; omega) t0 t1 hbl hcc HF0.out
      rw [HN1.out] at hq
      exact hq
  refine (hbg).mono ?_
  rintro e a1 ⟨p, q, np, nv, rfl, hb⟩
  replace X3 := Lib.hid (X3.out.below (hb))
  replace FF := Lib.hid (FF.out.below (hb))
  replace BB := Lib.hid (BB.out.trans ((hb).mono BB.out.size))
  clear hb
  clear hbg
  go_upto_region 4 with fail
  have hlt_b7 := BB.out.size
  have hlt_b7_X3 := X3.out.lt
  replace X3 := Lib.hid (X3.out.below (below_new a1 (.cells #[.slice p np np, .slice q nv nv] 31)))
  replace FF := Lib.hid (FF.out.below (below_new a1 (.cells #[.slice p np np, .slice q nv nv] 31)))
  replace BB := Lib.hid (BB.out.trans ((below_new a1 (.cells #[.slice p np np, .slice q nv nv] 31)).mono BB.out.size))
  have B7 := Lib.hid (Box.new a1 #[.slice p np np, .slice q nv nv] 31 rfl)
  have hsz_b7 : (World.alloc a1 (.cells #[.slice p np np, .slice q nv nv] 31)).heap.size = (World.heap a1).size + 1 := by simp
  generalize World.alloc a1 (.cells #[.slice p np np, .slice q nv nv] 31) = a2 at *
  generalize World.heap a1 = hp_b7 at *
  generalize hp_b7.size = b7 at *
  have F2 := BB.out
  clear X3 FF B7 BB
  go_wp2
  go_ret
  exact ⟨by simp, by first | exact F2 | (rw [← hbq]; exact F2)⟩

theorem coheres (T : Int) (vf vl : Value) (ws : List Wd) (l : List DoV) (d : DoV) (w : World) (hw : IsWords w vf ws) (hd : IsDos w vl l) (hok : DosOk l) (hdo : d.Ok) :
    Calls Try.prog 4 #[.agg #[.int .i64 T, vf, vl], d.v] w fun e w' => e = .returned (.bool true) ∧ Below w.heap.size w w' := by
  obtain ⟨t, op, at_, oa, ob, oc, na, nb, nc, z⟩ := d
  obtain ⟨⟨p0, p1⟩, z0, z1⟩ := hdo
  simp only at p0 p1 z0 z1
  unfold DoV.v
  simp only
  by_cases he : newErr T ws.length ≠ 0
  · obtain ⟨y1, c1, rfl⟩ := hw.slice
    obtain ⟨y2, c2, rfl⟩ := hd.slice
    exact coheres_err T y1 y2 _ c1 _ c2 t op at_ oa ob oc na nb nc z w he
  · have hT : 1 ≤ T ∧ T ≤ 8 ∧ 0 < ws.length ∧ ws.length ≤ 4096 := by
      unfold newErr at he
      have he := Decidable.not_not.1 he
      split at he
      · cases he
      · split at he
        · cases he
        · split at he
          · cases he
          · omega
    clear he
    obtain ⟨T, rfl⟩ : ∃ n : Nat, T = n := ⟨T.toNat, by omega⟩
    obtain ⟨ht0, ht1, h0, h1⟩ := hT
    have hF := hw
    rcases hw with ⟨_, _, _, rfl⟩ | ⟨bF, oF, c1, rfl, _, _⟩
    · simp at h0
    by_cases hf : ws.length ≤ 8 ∧ l.length ≤ 40
    · obtain ⟨hf1, hl⟩ := hf
      exact coheres_ok T bF oF c1 ws vl l _ rfl t op at_ oa ob oc na nb nc z w h0 hf1 (by omega) (by omega) hF hd hl hok p0 p1 z0 z1
    · obtain ⟨y2, c2, rfl⟩ := hd.slice
      exact coheres_many T bF oF c1 ws y2 _ c2 t op at_ oa ob oc na nb nc z w h0 h1 (by omega) (by omega) hF hf
end Go.Proofs.Ytbaljoehgdhhhaa
