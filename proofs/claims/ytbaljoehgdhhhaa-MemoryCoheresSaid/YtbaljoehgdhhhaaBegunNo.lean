/- begun: cases that are refused. -/
import Derived.Test.YtbaljoehgdhhhaaBegun
namespace Go.Proofs.Ytbaljoehgdhhhaa
open Go.RowKit Go.Shelf Go.Maps

set_option maxRecDepth 100000 in
set_option maxHeartbeats 3200000 in
theorem begun_err (T : Int) (y1 y2 : Option Addr) (n1 c1 n2 c2 : Nat) (w : World) (he : newErr T n1 ≠ 0) :
    Calls Try.prog 16 #[.agg #[.int .i64 T, .slice y1 n1 c1, .slice y2 n2 c2]] w fun e w' => e = .returned (.tuple #[.agg #[.slice none 0 0, .slice none 0 0], .bool false]) ∧ Below w.heap.size w w' := by
  have hz : (newErr T n1 != 0) = true := by simpa using he
  obtain ⟨er, her⟩ : ∃ e, newErr T n1 = e := ⟨_, rfl⟩
  have HER := Lib.hid her
  have HE := Lib.hid he
  rw [her] at hz
  clear her he
  have X1 := Lib.hid (Box.alloc (Box.new w #[.int .i64 T, .slice y1 n1 c1, .slice y2 n2 c2] 25 rfl) (.cells #[.slice none 0 0, .slice none 0 0] 31))
  have X2 := Lib.hid (Box.new (w.alloc (.cells #[.int .i64 T, .slice y1 n1 c1, .slice y2 n2 c2] 25)) #[.slice none 0 0, .slice none 0 0] 31 (n := w.heap.size + 1) (by simp))
  have BB := Lib.hid (b2 w (.cells #[.int .i64 T, .slice y1 n1 c1, .slice y2 n2 c2] 25) (.cells #[.slice none 0 0, .slice none 0 0] 31))
  go_enter Try.func16, Try.ntmps16
  go_upto_region 1 with fail
  generalize (w.alloc (.cells #[.int .i64 T, .slice y1 n1 c1, .slice y2 n2 c2] 25)).alloc (.cells #[.slice none 0 0, .slice none 0 0] 31) = W0 at *
  obtain ⟨b2, hb2⟩ : ∃ br, w.heap.size + 1 = br := ⟨_, rfl⟩
  obtain ⟨b1, hb1⟩ : ∃ bp, w.heap.size = bp := ⟨_, rfl⟩
  have hbq := hb1
  rw [hb2] at X2 ⊢
  rw [hb1] at X1 hb2 ⊢
  obtain ⟨⟨m0, m1, m2⟩, -⟩ := X1.out.cells3
  go_wp2_with fail
  clear m0 m1 m2
  refine (new_err T y1 n1 c1 _ HE.out).mono ?_
  rintro e a0 ⟨rfl, hb⟩
  have X1' := Lib.hid (X1.out.below (hb))
  have X2' := Lib.hid (X2.out.below (hb))
  have BB' := Lib.hid (BB.out.trans ((hb).mono BB.out.size))
  clear X1
  have X1 := X1'
  clear X1'
  clear X2
  have X2 := X2'
  clear X2'
  clear BB
  have BB := BB'
  clear BB'
  clear hb
  rw [HER.out]
  go_upto_region 2 with fail
  have hlt_b4 := BB.out.size
  have hlt_b4_X1 := X1.out.lt
  have hlt_b4_X2 := X2.out.lt
  have X1' := Lib.hid (X1.out.below (below_new a0 (.cells #[.slice none 0 0, .slice none 0 0] 31)))
  have X2' := Lib.hid (X2.out.below (below_new a0 (.cells #[.slice none 0 0, .slice none 0 0] 31)))
  have BB' := Lib.hid (BB.out.trans ((below_new a0 (.cells #[.slice none 0 0, .slice none 0 0] 31)).mono BB.out.size))
  clear X1
  have X1 := X1'
  clear X1'
  clear X2
  have X2 := X2'
  clear X2'
  clear BB
  have BB := BB'
  clear BB'
  have B4 := Lib.hid (Box.new a0 #[.slice none 0 0, .slice none 0 0] 31 rfl)
  have hsz_b4 : (World.alloc a0 (.cells #[.slice none 0 0, .slice none 0 0] 31)).heap.size = (World.heap a0).size + 1 := by simp
  generalize World.alloc a0 (.cells #[.slice none 0 0, .slice none 0 0] 31) = a1 at *
  generalize World.heap a0 = hp_b4 at *
  generalize hp_b4.size = b4 at *
  obtain ⟨⟨m0, m1⟩, -⟩ := B4.out.cells2
  obtain ⟨⟨k0, k1⟩, f0, f1⟩ := X2.out.cells2
  have F2 := Lib.hid ((BB.out.put b2 (by omega) 0 (.slice none 0 0)).put b2 (by omega) 1 (.slice none 0 0))
  obtain ⟨⟨e0, e1⟩, -⟩ := ((X2.out.set 0 (.slice none 0 0)).set 1 (.slice none 0 0)).cells2
  clear X1 X2 B4 BB
  go_wp2
  refine bodyPost_ret (v := .tuple #[.agg #[.slice none 0 0, .slice none 0 0], .bool false]) (by simp [results, Try.f16, go_sem, e0, e1]) rfl ?_
  exact ⟨rfl, F2.out⟩

set_option maxRecDepth 100000 in
set_option maxHeartbeats 3200000 in
theorem begun_many (T b off c1 : Nat) (ws : List Wd) (y2 : Option Addr) (n2 c2 : Nat) (w : World) (h0 : 0 < ws.length) (h1 : ws.length ≤ 4096) (t0 : 1 ≤ T) (t1 : T ≤ 8) (hbl : b < w.heap.size)
    (hc : ∀ i, i < ws.length → w.cell? ⟨b, off + i * 3, none⟩ = some (.int .i64 (ws.getD i (0, 0, 0)).1) ∧ w.cell? ⟨b, off + i * 3 + 1, none⟩ = some (.int .u32 (ws.getD i (0, 0, 0)).2.1) ∧ w.cell? ⟨b, off + i * 3 + 2, none⟩ = some (.int .u32 (ws.getD i (0, 0, 0)).2.2))
    (hf : ¬ (ws.length ≤ 8 ∧ n2 ≤ 40)) :
    Calls Try.prog 16 #[.agg #[.int .i64 T, .slice (some ⟨b, off, none⟩) ws.length c1, .slice y2 n2 c2]] w fun e w' => ∃ p q np nv, e = .returned (.tuple #[.agg #[.slice p np np, .slice q nv nv], .bool false]) ∧ Below w.heap.size w w' := by
  obtain ⟨n1, hn1⟩ : ∃ n, ws.length = n := ⟨_, rfl⟩
  have HC := Lib.hid hc
  have HN1 := Lib.hid hn1
  have HW1 := Lib.hid h0
  rw [hn1] at h0 h1 hf ⊢
  have hd : decide (n1 ≤ 8 ∧ n2 ≤ 40) = false := by simpa using hf
  clear hc hf
  have X1 := Lib.hid (Box.alloc (Box.new w #[.int .i64 T, .slice (some ⟨b, off, none⟩) n1 c1, .slice y2 n2 c2] 25 rfl) (.cells #[.slice none 0 0, .slice none 0 0] 31))
  have X2 := Lib.hid (Box.new (w.alloc (.cells #[.int .i64 T, .slice (some ⟨b, off, none⟩) n1 c1, .slice y2 n2 c2] 25)) #[.slice none 0 0, .slice none 0 0] 31 (n := w.heap.size + 1) (by simp))
  have BB := Lib.hid (b2 w (.cells #[.int .i64 T, .slice (some ⟨b, off, none⟩) n1 c1, .slice y2 n2 c2] 25) (.cells #[.slice none 0 0, .slice none 0 0] 31))
  go_enter Try.func16, Try.ntmps16
  go_upto_region 1 with fail
  generalize (w.alloc (.cells #[.int .i64 T, .slice (some ⟨b, off, none⟩) n1 c1, .slice y2 n2 c2] 25)).alloc (.cells #[.slice none 0 0, .slice none 0 0] 31) = W0 at *
  obtain ⟨b2, hb2⟩ : ∃ br, w.heap.size + 1 = br := ⟨_, rfl⟩
  obtain ⟨b1, hb1⟩ : ∃ bp, w.heap.size = bp := ⟨_, rfl⟩
  have hbq := hb1
  rw [hb2] at X2 ⊢
  rw [hb1] at X1 hb2 ⊢
  obtain ⟨⟨m0, m1, m2⟩, -⟩ := X1.out.cells3
  go_wp2_with fail
  clear m0 m1 m2
  have hsz0 := BB.out.size
  have hnw := new_ok T b off c1 ws W0 HW1.out (by rw [HN1.out]; omega) t0 t1 (by omega) (fun i hi => by obtain ⟨c0, c1, c2⟩ := HC.out i hi; exact ⟨(BB.out.cell hbl).trans c0, (BB.out.cell hbl).trans c1, (BB.out.cell hbl).trans c2⟩)
  rw [HN1.out] at hnw
  refine (hnw).mono ?_
  rintro e a0 ⟨pv, vv, rfl, hm, hb⟩
  have X1' := Lib.hid (X1.out.below (hb))
  have X2' := Lib.hid (X2.out.below (hb))
  have BB' := Lib.hid (BB.out.trans ((hb).mono BB.out.size))
  clear X1
  have X1 := X1'
  clear X1'
  clear X2
  have X2 := X2'
  clear X2'
  clear BB
  have BB := BB'
  clear BB'
  clear hb
  clear hnw
  obtain ⟨p0, q0, e1, e2⟩ : ∃ u1 u2, pv = .slice u1 n1 n1 ∧ vv = .slice u2 T T := hm.sl (by simp [newMem, HN1.out]) (by simp [newMem])
  subst e1 e2
  clear hm
  go_upto_region 2 with fail
  have hlt_b4 := BB.out.size
  have hlt_b4_X1 := X1.out.lt
  have hlt_b4_X2 := X2.out.lt
  have X1' := Lib.hid (X1.out.below (below_new a0 (.cells #[.slice p0 n1 n1, .slice q0 T T] 31)))
  have X2' := Lib.hid (X2.out.below (below_new a0 (.cells #[.slice p0 n1 n1, .slice q0 T T] 31)))
  have BB' := Lib.hid (BB.out.trans ((below_new a0 (.cells #[.slice p0 n1 n1, .slice q0 T T] 31)).mono BB.out.size))
  clear X1
  have X1 := X1'
  clear X1'
  clear X2
  have X2 := X2'
  clear X2'
  clear BB
  have BB := BB'
  clear BB'
  have B4 := Lib.hid (Box.new a0 #[.slice p0 n1 n1, .slice q0 T T] 31 rfl)
  have hsz_b4 : (World.alloc a0 (.cells #[.slice p0 n1 n1, .slice q0 T T] 31)).heap.size = (World.heap a0).size + 1 := by simp
  generalize World.alloc a0 (.cells #[.slice p0 n1 n1, .slice q0 T T] 31) = a1 at *
  generalize World.heap a0 = hp_b4 at *
  generalize hp_b4.size = b4 at *
  obtain ⟨⟨m0, m1, m2⟩, -⟩ := X1.out.cells3
  go_wp2_with fail
  clear m0 m1 m2
  refine (few_any _ _ _ n1 c1 n2 c2 _).mono ?_
  rintro e a2 ⟨rfl, hb⟩
  have X1' := Lib.hid (X1.out.below (hb))
  have X2' := Lib.hid (X2.out.below (hb))
  have B4' := Lib.hid (B4.out.below (hb))
  have BB' := Lib.hid (BB.out.trans ((hb).mono BB.out.size))
  clear X1
  have X1 := X1'
  clear X1'
  clear X2
  have X2 := X2'
  clear X2'
  clear B4
  have B4 := B4'
  clear B4'
  clear BB
  have BB := BB'
  clear BB'
  clear hb
  rw [hd]
  obtain ⟨⟨m0, m1⟩, -⟩ := B4.out.cells2
  obtain ⟨⟨k0, k1⟩, f0, f1⟩ := X2.out.cells2
  have F2 := Lib.hid ((BB.out.put b2 (by omega) 0 (.slice p0 n1 n1)).put b2 (by omega) 1 (.slice q0 T T))
  obtain ⟨⟨e0, e1⟩, -⟩ := ((X2.out.set 0 (.slice p0 n1 n1)).set 1 (.slice q0 T T)).cells2
  clear X1 X2 B4 BB
  go_wp2
  refine bodyPost_ret (v := .tuple #[.agg #[.slice p0 n1 n1, .slice q0 T T], .bool false]) (by simp [results, Try.f16, go_sem, e0, e1]) rfl ?_
  exact ⟨p0, q0, n1, T, rfl, F2.out⟩
end Go.Proofs.Ytbaljoehgdhhhaa
