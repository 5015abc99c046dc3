/- Retire of a bag. -/
import Derived.Test.YtknnnjnnphdipaaRcRetire
namespace Go.Proofs.Ytknnnjnnphdipaa
open Go.ChangeShapes Go.WideShapes Go.ChangeAt Go.RowKit Go.Maps
/-- What Retire answers. -/
def Ret (L : List It) (x : It) (w : World) (e : Ending) (w' : World) : Prop :=
  ∃ cs', e = .returned (.tuple #[.agg cs', .int .i64 (wrongL L x)]) ∧ BV cs' (if wrongL L x = 0 then L ++ [x] else L) ∧ Below w.heap.size w w'
theorem ret_end {L L' : List It} {x : It} {w W : World} {a : Act} {cs : Array Value} {g : Nat} {c : Int} (hp : a.tmps.getD 4 undef = .pointer (some ⟨g, 0, none⟩)) (hc : a.tmps.getD 5 undef = .int .i64 c) (hd : a.defers = [])
    (hB : Box W g cs 29) (hV : BV cs L') (hb : Below w.heap.size w W) (hw : wrongL L x = c) (hL : (if wrongL L x = 0 then L ++ [x] else L) = L') : bodyPost Try.prog Try.f10 (Ret L x w) Exit.ret a W := by
  refine bodyPost_ret (v := .tuple #[.agg cs, .int .i64 c]) ?_ hd ⟨cs, by rw [hw], by rw [hL]; exact hV, hb⟩
  rw [results_cell_tmp (p := 4) (u := 5) (ty := 29) rfl a.tmps Try.prog W, hp, hc]
  simp only [asAddr, Sem.run_pure, Result.andThen_ok, run_loadVar_row W g 29 29 cs (0, 0) _ hB Try.underlying29 rfl hV.info]
set_option maxRecDepth 100000 in
set_option maxHeartbeats 1600000 in
theorem ret_a (cs : Array Value) (L : List It) (x : It) (w : World) (h : BV cs L) (h1 : x.1 < 0) : Calls Try.prog 10 #[.agg cs, itV x] w (Ret L x w) := by
  have HW := Lib.hid (w3 (L := L) (.inl h1))
  have H := Lib.hid h
  clear h
  obtain ⟨x0, x1, x2⟩ := x
  unfold itV
  simp only at *
  have ZS := Lib.hid zBag_size
  have zv := zero29
  go_enter Try.func10, Try.ntmps10
  go_upto_region 1 with fail
  clear zv
  obtain ⟨q, hq⟩ : ∃ q, w.heap.size = q := ⟨_, rfl⟩
  obtain ⟨W, hW⟩ : ∃ W, ((w.alloc (.cells cs 29)).alloc (.cells #[.int .i64 x0, .int .i64 x1, .int .i64 x2] 26)).alloc (.cells zBag 29) = W := ⟨_, rfl⟩
  have B0 : Hid (Box W q cs 29) := Lib.hid (by rw [← hW]; exact ((Box.new w cs 29 hq.symm).alloc _).alloc _)
  have B1 : Hid (Box W (q + 1) #[.int .i64 x0, .int .i64 x1, .int .i64 x2] 26) := Lib.hid (by rw [← hW]; exact (Box.new (w.alloc (.cells cs 29)) _ 26 (by simp; omega)).alloc _)
  have B2 : Hid (Box W (q + 1 + 1) zBag 29) := Lib.hid (by rw [← hW]; exact Box.new _ _ 29 (by simp; omega))
  have BW : Hid (Below w.heap.size w W) := Lib.hid (by rw [← hW]; exact (((below1 w _).alloc (by simp) _).alloc (by simp; omega) _))
  rw [hW, hq]
  have HQ := Lib.hid hq
  clear hW hq
  have y0 := B1.out.cell 0
  have y1 := B1.out.cell 1
  have y2 := B1.out.cell 2
  simp at y0 y1 y2
  go_wp2_with (first
    | ((with_reducible refine wpList_loadBag q cs 29 ?_ ?_ ?_ ?_); rfl; exact B0.out; exact H.out.size)
    | ((with_reducible refine wpList_storeBag (q + 1 + 1) cs zBag 29 ?_ ?_ ?_ ?_ ?_ ?_ ?_); rfl; rfl; exact B2.out; exact ZS.out; exact H.out.size; exact H.out.one)
    | fail)
  exact ret_end rfl rfl rfl (B2.out.rowSame) H.out (below_row BW.out (by have := HQ.out; omega) _) HW.out (by rw [HW.out]; rfl)
set_option maxRecDepth 100000 in
set_option maxHeartbeats 1600000 in
theorem ret_b (cs : Array Value) (L : List It) (x : It) (w : World) (h : BV cs L) (h0 : ¬ x.1 < 0) (h1 : 63 < x.1) : Calls Try.prog 10 #[.agg cs, itV x] w (Ret L x w) := by
  have HW := Lib.hid (w3 (L := L) (x := x) (.inr h1))
  have h1' : 64 ≤ x.1 := by omega
  have H := Lib.hid h
  clear h
  obtain ⟨x0, x1, x2⟩ := x
  unfold itV
  simp only at *
  have ZS := Lib.hid zBag_size
  have zv := zero29
  go_enter Try.func10, Try.ntmps10
  go_upto_region 1 with fail
  clear zv
  obtain ⟨q, hq⟩ : ∃ q, w.heap.size = q := ⟨_, rfl⟩
  obtain ⟨W, hW⟩ : ∃ W, ((w.alloc (.cells cs 29)).alloc (.cells #[.int .i64 x0, .int .i64 x1, .int .i64 x2] 26)).alloc (.cells zBag 29) = W := ⟨_, rfl⟩
  have B0 : Hid (Box W q cs 29) := Lib.hid (by rw [← hW]; exact ((Box.new w cs 29 hq.symm).alloc _).alloc _)
  have B1 : Hid (Box W (q + 1) #[.int .i64 x0, .int .i64 x1, .int .i64 x2] 26) := Lib.hid (by rw [← hW]; exact (Box.new (w.alloc (.cells cs 29)) _ 26 (by simp; omega)).alloc _)
  have B2 : Hid (Box W (q + 1 + 1) zBag 29) := Lib.hid (by rw [← hW]; exact Box.new _ _ 29 (by simp; omega))
  have BW : Hid (Below w.heap.size w W) := Lib.hid (by rw [← hW]; exact (((below1 w _).alloc (by simp) _).alloc (by simp; omega) _))
  rw [hW, hq]
  have HQ := Lib.hid hq
  clear hW hq
  have y0 := B1.out.cell 0
  have y1 := B1.out.cell 1
  have y2 := B1.out.cell 2
  simp at y0 y1 y2
  go_wp2_with (first
    | ((with_reducible refine wpList_loadBag q cs 29 ?_ ?_ ?_ ?_); rfl; exact B0.out; exact H.out.size)
    | ((with_reducible refine wpList_storeBag (q + 1 + 1) cs zBag 29 ?_ ?_ ?_ ?_ ?_ ?_ ?_); rfl; rfl; exact B2.out; exact ZS.out; exact H.out.size; exact H.out.one)
    | fail)
  exact ret_end rfl rfl rfl (B2.out.rowSame) H.out (below_row BW.out (by have := HQ.out; omega) _) HW.out (by rw [HW.out]; rfl)
set_option maxRecDepth 100000 in
set_option maxHeartbeats 1600000 in
theorem ret_c (cs : Array Value) (L : List It) (x : It) (w : World) (h : BV cs L) (h0 : ¬ x.1 < 0) (h1 : ¬ 63 < x.1) (h2 : x.2.1 < 0) : Calls Try.prog 10 #[.agg cs, itV x] w (Ret L x w) := by
  have HW := Lib.hid (w12 (L := L) (x := x) (by omega) (.inl h2))
  have h1' : ¬ 64 ≤ x.1 := by omega
  have H := Lib.hid h
  clear h
  obtain ⟨x0, x1, x2⟩ := x
  unfold itV
  simp only at *
  have ZS := Lib.hid zBag_size
  have zv := zero29
  go_enter Try.func10, Try.ntmps10
  go_upto_region 1 with fail
  clear zv
  obtain ⟨q, hq⟩ : ∃ q, w.heap.size = q := ⟨_, rfl⟩
  obtain ⟨W, hW⟩ : ∃ W, ((w.alloc (.cells cs 29)).alloc (.cells #[.int .i64 x0, .int .i64 x1, .int .i64 x2] 26)).alloc (.cells zBag 29) = W := ⟨_, rfl⟩
  have B0 : Hid (Box W q cs 29) := Lib.hid (by rw [← hW]; exact ((Box.new w cs 29 hq.symm).alloc _).alloc _)
  have B1 : Hid (Box W (q + 1) #[.int .i64 x0, .int .i64 x1, .int .i64 x2] 26) := Lib.hid (by rw [← hW]; exact (Box.new (w.alloc (.cells cs 29)) _ 26 (by simp; omega)).alloc _)
  have B2 : Hid (Box W (q + 1 + 1) zBag 29) := Lib.hid (by rw [← hW]; exact Box.new _ _ 29 (by simp; omega))
  have BW : Hid (Below w.heap.size w W) := Lib.hid (by rw [← hW]; exact (((below1 w _).alloc (by simp) _).alloc (by simp; omega) _))
  rw [hW, hq]
  have HQ := Lib.hid hq
  clear hW hq
  have y0 := B1.out.cell 0
  have y1 := B1.out.cell 1
  have y2 := B1.out.cell 2
  simp at y0 y1 y2
  go_wp2_with (first
    | ((with_reducible refine wpList_loadBag q cs 29 ?_ ?_ ?_ ?_); rfl; exact B0.out; exact H.out.size)
    | ((with_reducible refine wpList_storeBag (q + 1 + 1) cs zBag 29 ?_ ?_ ?_ ?_ ?_ ?_ ?_); rfl; rfl; exact B2.out; exact ZS.out; exact H.out.size; exact H.out.one)
    | fail)
  exact ret_end rfl rfl rfl (B2.out.rowSame) H.out (below_row BW.out (by have := HQ.out; omega) _) HW.out (by rw [HW.out]; rfl)
set_option maxRecDepth 100000 in
set_option maxHeartbeats 1600000 in
theorem ret_d (cs : Array Value) (L : List It) (x : It) (w : World) (h : BV cs L) (h0 : ¬ x.1 < 0) (h1 : ¬ 63 < x.1) (h2 : ¬ x.2.1 < 0) (h3 : x.2.2 < x.2.1) : Calls Try.prog 10 #[.agg cs, itV x] w (Ret L x w) := by
  have HW := Lib.hid (w12 (L := L) (x := x) (by omega) (.inr h3))
  have h1' : ¬ 64 ≤ x.1 := by omega
  have H := Lib.hid h
  clear h
  obtain ⟨x0, x1, x2⟩ := x
  unfold itV
  simp only at *
  have ZS := Lib.hid zBag_size
  have zv := zero29
  go_enter Try.func10, Try.ntmps10
  go_upto_region 1 with fail
  clear zv
  obtain ⟨q, hq⟩ : ∃ q, w.heap.size = q := ⟨_, rfl⟩
  obtain ⟨W, hW⟩ : ∃ W, ((w.alloc (.cells cs 29)).alloc (.cells #[.int .i64 x0, .int .i64 x1, .int .i64 x2] 26)).alloc (.cells zBag 29) = W := ⟨_, rfl⟩
  have B0 : Hid (Box W q cs 29) := Lib.hid (by rw [← hW]; exact ((Box.new w cs 29 hq.symm).alloc _).alloc _)
  have B1 : Hid (Box W (q + 1) #[.int .i64 x0, .int .i64 x1, .int .i64 x2] 26) := Lib.hid (by rw [← hW]; exact (Box.new (w.alloc (.cells cs 29)) _ 26 (by simp; omega)).alloc _)
  have B2 : Hid (Box W (q + 1 + 1) zBag 29) := Lib.hid (by rw [← hW]; exact Box.new _ _ 29 (by simp; omega))
  have BW : Hid (Below w.heap.size w W) := Lib.hid (by rw [← hW]; exact (((below1 w _).alloc (by simp) _).alloc (by simp; omega) _))
  rw [hW, hq]
  have HQ := Lib.hid hq
  clear hW hq
  have y0 := B1.out.cell 0
  have y1 := B1.out.cell 1
  have y2 := B1.out.cell 2
  simp at y0 y1 y2
  go_wp2_with (first
    | ((with_reducible refine wpList_loadBag q cs 29 ?_ ?_ ?_ ?_); rfl; exact B0.out; exact H.out.size)
    | ((with_reducible refine wpList_storeBag (q + 1 + 1) cs zBag 29 ?_ ?_ ?_ ?_ ?_ ?_ ?_); rfl; rfl; exact B2.out; exact ZS.out; exact H.out.size; exact H.out.one)
    | fail)
  exact ret_end rfl rfl rfl (B2.out.rowSame) H.out (below_row BW.out (by have := HQ.out; omega) _) HW.out (by rw [HW.out]; rfl)
set_option maxRecDepth 100000 in
set_option maxHeartbeats 1600000 in
theorem ret_e (cs : Array Value) (L : List It) (x : It) (w : World) (h : BV cs L) (h0 : ¬ x.1 < 0) (h1 : ¬ 63 < x.1) (h2 : ¬ x.2.1 < 0) (h3 : ¬ x.2.2 < x.2.1) (h4 : hasB L x.1 = true) : Calls Try.prog 10 #[.agg cs, itV x] w (Ret L x w) := by
  have HW := Lib.hid (w11 (L := L) (x := x) (by omega) (by omega) h4)
  have HH := Lib.hid h4
  have h1' : ¬ 64 ≤ x.1 := by omega
  clear h4
  have H := Lib.hid h
  clear h
  obtain ⟨x0, x1, x2⟩ := x
  unfold itV
  simp only at *
  have ZS := Lib.hid zBag_size
  have zv := zero29
  go_enter Try.func10, Try.ntmps10
  go_upto_region 1 with fail
  clear zv
  obtain ⟨q, hq⟩ : ∃ q, w.heap.size = q := ⟨_, rfl⟩
  obtain ⟨W, hW⟩ : ∃ W, ((w.alloc (.cells cs 29)).alloc (.cells #[.int .i64 x0, .int .i64 x1, .int .i64 x2] 26)).alloc (.cells zBag 29) = W := ⟨_, rfl⟩
  have B0 : Hid (Box W q cs 29) := Lib.hid (by rw [← hW]; exact ((Box.new w cs 29 hq.symm).alloc _).alloc _)
  have B1 : Hid (Box W (q + 1) #[.int .i64 x0, .int .i64 x1, .int .i64 x2] 26) := Lib.hid (by rw [← hW]; exact (Box.new (w.alloc (.cells cs 29)) _ 26 (by simp; omega)).alloc _)
  have B2 : Hid (Box W (q + 1 + 1) zBag 29) := Lib.hid (by rw [← hW]; exact Box.new _ _ 29 (by simp; omega))
  have BW : Hid (Below w.heap.size w W) := Lib.hid (by rw [← hW]; exact (((below1 w _).alloc (by simp) _).alloc (by simp; omega) _))
  rw [hW, hq]
  have HQ := Lib.hid hq
  clear hW hq
  have y0 := B1.out.cell 0
  have y1 := B1.out.cell 1
  have y2 := B1.out.cell 2
  simp at y0 y1 y2
  go_wp2_with (first
    | ((with_reducible refine wpList_loadBag q cs 29 ?_ ?_ ?_ ?_); rfl; exact B0.out; exact H.out.size)
    | ((with_reducible refine wpList_storeBag (q + 1 + 1) cs zBag 29 ?_ ?_ ?_ ?_ ?_ ?_ ?_); rfl; rfl; exact B2.out; exact ZS.out; exact H.out.size; exact H.out.one)
    | fail)
  refine (contains_any cs L x0 W H.out).mono ?_
  rintro e w1 ⟨rfl, hb⟩
  rw [HH.out]
  have C0 := Lib.hid (B0.out.below hb)
  have C1 := Lib.hid (B1.out.below hb)
  have C2 := Lib.hid (B2.out.below hb)
  have BC := Lib.hid (BW.out.trans (hb.mono BW.out.size))
  clear hb y0 y1 y2
  go_wp2_with (first
    | ((with_reducible refine wpList_loadBag q cs 29 ?_ ?_ ?_ ?_); rfl; exact C0.out; exact H.out.size)
    | ((with_reducible refine wpList_storeBag (q + 1 + 1) cs zBag 29 ?_ ?_ ?_ ?_ ?_ ?_ ?_); rfl; rfl; exact C2.out; exact ZS.out; exact H.out.size; exact H.out.one)
    | fail)
  exact ret_end rfl rfl rfl (C2.out.rowSame) H.out (below_row BC.out (by have := HQ.out; omega) _) HW.out (by rw [HW.out]; rfl)
set_option maxRecDepth 100000 in
set_option maxHeartbeats 1600000 in
theorem ret_f (cs : Array Value) (L : List It) (x : It) (w : World) (h : BV cs L) (h0 : ¬ x.1 < 0) (h1 : ¬ 63 < x.1) (h2 : ¬ x.2.1 < 0) (h3 : ¬ x.2.2 < x.2.1) (h4 : hasB L x.1 = false) (hg : L.length < 64) : Calls Try.prog 10 #[.agg cs, itV x] w (Ret L x w) := by
  have HW := Lib.hid (w0 (L := L) (x := x) (by omega) (by omega) h4)
  have HH := Lib.hid h4
  have h1' : ¬ 64 ≤ x.1 := by omega
  clear h4
  have H := Lib.hid h
  clear h
  obtain ⟨x0, x1, x2⟩ := x
  unfold itV
  simp only at *
  have ZS := Lib.hid zBag_size
  have zv := zero29
  go_enter Try.func10, Try.ntmps10
  go_upto_region 1 with fail
  clear zv
  obtain ⟨q, hq⟩ : ∃ q, w.heap.size = q := ⟨_, rfl⟩
  obtain ⟨W, hW⟩ : ∃ W, ((w.alloc (.cells cs 29)).alloc (.cells #[.int .i64 x0, .int .i64 x1, .int .i64 x2] 26)).alloc (.cells zBag 29) = W := ⟨_, rfl⟩
  have B0 : Hid (Box W q cs 29) := Lib.hid (by rw [← hW]; exact ((Box.new w cs 29 hq.symm).alloc _).alloc _)
  have B1 : Hid (Box W (q + 1) #[.int .i64 x0, .int .i64 x1, .int .i64 x2] 26) := Lib.hid (by rw [← hW]; exact (Box.new (w.alloc (.cells cs 29)) _ 26 (by simp; omega)).alloc _)
  have B2 : Hid (Box W (q + 1 + 1) zBag 29) := Lib.hid (by rw [← hW]; exact Box.new _ _ 29 (by simp; omega))
  have BW : Hid (Below w.heap.size w W) := Lib.hid (by rw [← hW]; exact (((below1 w _).alloc (by simp) _).alloc (by simp; omega) _))
  rw [hW, hq]
  have HQ := Lib.hid hq
  clear hW hq
  have y0 := B1.out.cell 0
  have y1 := B1.out.cell 1
  have y2 := B1.out.cell 2
  simp at y0 y1 y2
  go_wp2_with (first
    | ((with_reducible refine wpList_loadBag q cs 29 ?_ ?_ ?_ ?_); rfl; exact B0.out; exact H.out.size)
    | ((with_reducible refine wpList_storeBag (q + 1 + 1) cs zBag 29 ?_ ?_ ?_ ?_ ?_ ?_ ?_); rfl; rfl; exact B2.out; exact ZS.out; exact H.out.size; exact H.out.one)
    | fail)
  refine (contains_any cs L x0 W H.out).mono ?_
  rintro e w1 ⟨rfl, hb⟩
  rw [HH.out]
  have C0 := Lib.hid (B0.out.below hb)
  have C1 := Lib.hid (B1.out.below hb)
  have C2 := Lib.hid (B2.out.below hb)
  have BC := Lib.hid (BW.out.trans (hb.mono BW.out.size))
  clear hb y0 y1 y2
  have y0 := C1.out.cell 0
  have y1 := C1.out.cell 1
  have y2 := C1.out.cell 2
  simp at y0 y1 y2
  go_wp2_with (first
    | ((with_reducible refine wpList_loadBag q cs 29 ?_ ?_ ?_ ?_); rfl; exact C0.out; exact H.out.size)
    | ((with_reducible refine wpList_storeBag (q + 1 + 1) cs zBag 29 ?_ ?_ ?_ ?_ ?_ ?_ ?_); rfl; rfl; exact C2.out; exact ZS.out; exact H.out.size; exact H.out.one)
    | fail)
  refine (with_any cs L (x0, x1, x2) w1 H.out hg).mono ?_
  rintro e w2 ⟨c2, rfl, hv, hb⟩
  have V := Lib.hid hv
  have D2 := Lib.hid (C2.out.below hb)
  have BD := Lib.hid (BC.out.trans (hb.mono BC.out.size))
  clear hb hv y0 y1 y2
  go_wp2_with (first
    | ((with_reducible refine wpList_loadBag q cs 29 ?_ ?_ ?_ ?_); rfl; exact C0.out; exact H.out.size)
    | ((with_reducible refine wpList_storeBag (q + 1 + 1) c2 zBag 29 ?_ ?_ ?_ ?_ ?_ ?_ ?_); rfl; rfl; exact D2.out; exact ZS.out; exact V.out.size; exact V.out.one)
    | fail)
  exact ret_end rfl rfl rfl (D2.out.rowSame) V.out (below_row BD.out (by have := HQ.out; omega) _) HW.out (by rw [HW.out, if_pos rfl])
theorem retire_any (cs : Array Value) (L : List It) (x : It) (w : World) (h : BV cs L) (hg : Good6 L) : Calls Try.prog 10 #[.agg cs, itV x] w (Ret L x w) := by
  by_cases h0 : x.1 < 0
  · exact ret_a cs L x w h h0
  by_cases h1 : 63 < x.1
  · exact ret_b cs L x w h h0 h1
  by_cases h2 : x.2.1 < 0
  · exact ret_c cs L x w h h0 h1 h2
  by_cases h3 : x.2.2 < x.2.1
  · exact ret_d cs L x w h h0 h1 h2 h3
  cases h4 : hasB L x.1 with
  | true => exact ret_e cs L x w h h0 h1 h2 h3 h4
  | false => exact ret_f cs L x w h h0 h1 h2 h3 h4 (hg.room (w0 (by omega) (by omega) h4))
end Go.Proofs.Ytknnnjnnphdipaa
