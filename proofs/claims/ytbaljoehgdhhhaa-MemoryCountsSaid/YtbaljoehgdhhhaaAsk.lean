/- The contracts of Size, History, Last, Seen and word. -/
import Derived.Test.YtbaljoehgdhhhaaNew
namespace Go.Proofs.Ytbaljoehgdhhhaa
open Go.RowKit Go.Shelf Go.Maps

set_option maxRecDepth 100000 in
set_option maxHeartbeats 800000 in
theorem size_any (a1 a2 : Option Addr) (np nv : Nat) (w : World) :
    Calls Try.prog 17 #[.agg #[.slice a1 np np, .slice a2 nv nv]] w fun e w' => e = .returned (.tuple #[.int .i64 nv, .int .i64 np]) ∧ Below w.heap.size w w' := by
  go_enter Try.func17, Try.ntmps17
  go_wp2_with fail
  have BB := Lib.hid (below_new w (.cells #[.slice a1 np np, .slice a2 nv nv] 31))
  have BM := Lib.hid (Box.new w #[.slice a1 np np, .slice a2 nv nv] 31 rfl)
  generalize World.alloc w (.cells #[.slice a1 np np, .slice a2 nv nv] 31) = a0 at *
  obtain ⟨bm, hbm⟩ : ∃ b, w.heap.size = b := ⟨_, rfl⟩
  rw [hbm] at BM ⊢
  have BM' := Lib.hid (BM.out.below ((Below.refl _ _).drew))
  have BB' := Lib.hid (BB.out.trans (((Below.refl _ _).drew).mono BB.out.size))
  clear BM
  have BM := BM'
  clear BM'
  clear BB
  have BB := BB'
  clear BB'
  refine wp_region_held_drew (S := fun w' => w'.cell? ⟨bm, 0, none⟩ = some (.slice a1 np np) ∧ w'.cell? ⟨bm, 1, none⟩ = some (.slice a2 nv nv)) (by kernel_rfl) ⟨BM.out.cells2.1.1, BM.out.cells2.1.2⟩ (fun hHeld => ?_)
  generalize World.drew a0 = V0 at *
  refine wpAnyH_take (i := 0) (oi := { dst := some 4, op := Op.fieldAddr 31 (Operand.tmp 1) 1, type := 0, pos := "memory.go:96", after := #[], guard := none }) (v := ?d1_1xv0) rfl (by kernel_rfl) (by kernel_rfl) (by kernel_rfl) (fun _ _ _ h => h) (Or.inl ⟨by rfl, ?d1_1xy0⟩) (by assumption) ?d1_1xr0
  case d1_1xy0 => (intro w hSw; (try dsimp only at hSw); go_simp; try with_reducible rfl)
  (try simp only [Act.put])
  (try simp only [List.setIfInBounds_toArray])
  (try simp only [List.set_cons_succ])
  (try simp only [List.set_cons_zero])
  refine wpAnyH_take (i := 1) (oi := { dst := some 5, op := Op.load 29 (Operand.tmp 4), type := 29, pos := "memory.go:96", after := #[{ on := 0, ground := Ground.data }], guard := none }) (v := ?d1_2xv1) rfl (by kernel_rfl) (by kernel_rfl) (by kernel_rfl) (fun _ _ _ h => h) (Or.inl ⟨by rfl, ?d1_2xy1⟩) (by assumption) ?d1_2xr1
  case d1_2xy1 => (intro w hSw; (try dsimp only at hSw); go_simp; try with_reducible rfl)
  (try simp only [Act.put])
  (try simp only [List.setIfInBounds_toArray])
  (try simp only [List.set_cons_succ])
  (try simp only [List.set_cons_zero])
  refine wpAnyH_take (i := 2) (oi := { dst := some 6, op := Op.call { callee := Callee.builtin Builtin.len, args := #[Operand.tmp 5], argTypes := #[29] }, type := 3, pos := "memory.go:96", after := #[{ on := 1, ground := Ground.data }], guard := none }) (v := ?d1_3xv2) rfl (by kernel_rfl) (by kernel_rfl) (by kernel_rfl) (fun _ _ _ h => h) (Or.inl ⟨by rfl, ?d1_3xy2⟩) (by assumption) ?d1_3xr2
  case d1_3xy2 => (intro w hSw; (try dsimp only at hSw); go_simp; try with_reducible rfl)
  (try simp only [Act.put])
  (try simp only [List.setIfInBounds_toArray])
  (try simp only [List.set_cons_succ])
  (try simp only [List.set_cons_zero])
  refine wpAnyH_take (i := 3) (oi := { dst := some 7, op := Op.fieldAddr 31 (Operand.tmp 1) 0, type := 0, pos := "memory.go:96", after := #[], guard := none }) (v := ?d1_4xv3) rfl (by kernel_rfl) (by kernel_rfl) (by kernel_rfl) (fun _ _ _ h => h) (Or.inl ⟨by rfl, ?d1_4xy3⟩) (by assumption) ?d1_4xr3
  case d1_4xy3 => (intro w hSw; (try dsimp only at hSw); go_simp; try with_reducible rfl)
  (try simp only [Act.put])
  (try simp only [List.setIfInBounds_toArray])
  (try simp only [List.set_cons_succ])
  (try simp only [List.set_cons_zero])
  refine wpAnyH_take (i := 4) (oi := { dst := some 8, op := Op.load 28 (Operand.tmp 7), type := 28, pos := "memory.go:96", after := #[{ on := 3, ground := Ground.data }], guard := none }) (v := ?d1_5xv4) rfl (by kernel_rfl) (by kernel_rfl) (by kernel_rfl) (fun _ _ _ h => h) (Or.inl ⟨by rfl, ?d1_5xy4⟩) (by assumption) ?d1_5xr4
  case d1_5xy4 => (intro w hSw; (try dsimp only at hSw); go_simp; try with_reducible rfl)
  (try simp only [Act.put])
  (try simp only [List.setIfInBounds_toArray])
  (try simp only [List.set_cons_succ])
  (try simp only [List.set_cons_zero])
  refine wpAnyH_take (i := 5) (oi := { dst := some 9, op := Op.call { callee := Callee.builtin Builtin.len, args := #[Operand.tmp 8], argTypes := #[28] }, type := 3, pos := "memory.go:96", after := #[{ on := 4, ground := Ground.data }], guard := none }) (v := ?d1_6xv5) rfl (by kernel_rfl) (by kernel_rfl) (by kernel_rfl) (fun _ _ _ h => h) (Or.inl ⟨by rfl, ?d1_6xy5⟩) (by assumption) ?d1_6xr5
  case d1_6xy5 => (intro w hSw; (try dsimp only at hSw); go_simp; try with_reducible rfl)
  (try simp only [Act.put])
  (try simp only [List.setIfInBounds_toArray])
  (try simp only [List.set_cons_succ])
  (try simp only [List.set_cons_zero])
  refine wpAnyH_ready (rs := [6]) (by kernel_rfl) (by simp) ?_
  refine AllReadyH.cons (o := { dst := some 2, op := Op.assign (Operand.tmp 6), type := 3, pos := "memory.go:96", after := #[{ on := 2, ground := Ground.data }, { on := 0, ground := Ground.phase }, { on := 1, ground := Ground.phase }, { on := 2, ground := Ground.phase }, { on := 3, ground := Ground.textOnly Departure.lateStores }, { on := 4, ground := Ground.textOnly Departure.lateStores }, { on := 5, ground := Ground.textOnly Departure.lateStoresUnsure }], guard := none }) rfl (fun K hK => ?_) AllReadyH.nil
  go_simp
  refine hK.out _ _ ?_ (fun hHeld => ?_)
  · exact ⟨BM.out.cells2.1.1, BM.out.cells2.1.2⟩
  clear hK K
  (try simp only [Act.put])
  (try simp only [List.setIfInBounds_toArray])
  (try simp only [List.set_cons_succ])
  (try simp only [List.set_cons_zero])
  refine wpAnyH_ready (rs := [7]) (by kernel_rfl) (by simp) ?_
  refine AllReadyH.cons (o := { dst := some 3, op := Op.assign (Operand.tmp 9), type := 3, pos := "memory.go:96", after := #[{ on := 5, ground := Ground.data }, { on := 6, ground := Ground.chain }, { on := 0, ground := Ground.phase }, { on := 1, ground := Ground.phase }, { on := 2, ground := Ground.phase }, { on := 3, ground := Ground.phase }, { on := 4, ground := Ground.phase }, { on := 5, ground := Ground.phase }, { on := 6, ground := Ground.phase }], guard := none }) rfl (fun K hK => ?_) AllReadyH.nil
  go_simp
  refine hK.out _ _ ?_ (fun hHeld => ?_)
  · exact ⟨BM.out.cells2.1.1, BM.out.cells2.1.2⟩
  clear hK K
  (try simp only [Act.put])
  (try simp only [List.setIfInBounds_toArray])
  (try simp only [List.set_cons_succ])
  (try simp only [List.set_cons_zero])
  refine wpAnyH_done (by kernel_rfl) ?_ _
  have F2 := BB.out
  go_wp2
  refine bodyPost_ret (v := .tuple #[.int .i64 nv, .int .i64 np]) (by simp [results, Try.f17, go_sem]) rfl ?_
  exact ⟨rfl, F2⟩

theorem size_mw {w : World} {pv vv : Value} {M : Mem} (h : MW w pv vv M) : Calls Try.prog 17 #[.agg #[pv, vv]] w fun e w' => e = .returned (.tuple #[.int .i64 M.vs.length, .int .i64 M.hs.length]) ∧ Below w.heap.size w w' := by
  obtain ⟨a1, a2, rfl, rfl⟩ := h.slices
  exact size_any a1 a2 _ _ w

set_option maxRecDepth 100000 in
set_option maxHeartbeats 800000 in
theorem word_any (x : Int) (w : World) : Calls Try.prog 29 #[.int .i64 x] w fun e w' => e = .returned (.agg #[.int .i64 x, .int .u32 0, .int .u32 0]) ∧ Below w.heap.size w w' := by
  have BB := Lib.hid (below_new w (.cells #[.int .i64 x, .int .u32 0, .int .u32 0] 45))
  go_enter Try.func29, Try.ntmps29
  go_wp2
  refine bodyPost_ret (v := .agg #[.int .i64 x, .int .u32 0, .int .u32 0]) (by simp [results, Try.results29, go_sem]) rfl ?_
  exact ⟨rfl, BB.out⟩

theorem field0V (a b c d e : Value) (w : World) : (Instr.field 70 (.agg #[a, b, c, d, e]) 0).run Try.prog w = .ok (.agg #[a, b, c]) w := by
  have u := Try.underlying70
  have z := Try.sizeOf45
  have i := Try.isAgg45
  simp [Instr.field, run_underlying u, asAgg, part, z, i]

set_option maxRecDepth 100000 in
set_option maxHeartbeats 1600000 in
theorem history_ok (pv vv : Value) (M : Mem) (p : Nat) (w : World) (h : MW w pv vv M) (hpn : p < M.hs.length) (hl : M.hs.length ≤ 4096) :
    Calls Try.prog 20 #[.agg #[pv, vv], .int .i64 p] w fun e w' => ∃ ha q, e = .returned (.tuple #[.agg #[.slice ha (M.hist p).length (M.hist p).length], .bool true]) ∧ q.map (·.1) = M.hist p ∧ HW w' (.slice ha (M.hist p).length (M.hist p).length) q ∧ Below w.heap.size w w' := by
  obtain ⟨a1, a2, e1, e2⟩ := h.slices
  obtain ⟨P, V, r1, h3, h4, r2, h5, h6⟩ := h
  have l1 : P.length = M.hs.length := by rw [← h4, List.length_map]
  have lp : p < P.length := by omega
  have ep := List.getElem?_eq_getElem lp
  have hw := h3 _ (List.mem_of_getElem? ep)
  obtain ⟨ha, e, _⟩ := hw.slice
  have em : (P[p].2).map (·.1) = M.hist p := by
    unfold Mem.hist
    rw [← h4, List.getD_eq_getElem?_getD, List.getElem?_map, ep]; rfl
  have el : P[p].2.length = (M.hist p).length := by rw [← em, List.length_map]
  rcases r1 with ⟨_, e0⟩ | ⟨bP, tP, rfl, hkP⟩
  · exfalso; have : P = [] := by simpa using e0
    subst this; simp at lp
  subst e2
  have hc : w.cell? ⟨bP, p, none⟩ = some (.slice ha (M.hist p).length (M.hist p).length) := by
    rw [cell_row hkP, List.getElem?_map, ep]
    simp only [Option.map_some]
    rw [e, el]
  have hbl : bP < w.heap.size := lt_block hkP
  rw [e, el] at hw
  simp only [List.length_map, l1] at e1 ⊢
  have HW0 := Lib.hid hw
  have EM := Lib.hid em
  clear h3 h4 r2 h5 h6 hkP ep hw em el e1 l1
  obtain ⟨np, hnp⟩ : ∃ n, M.hs.length = n := ⟨_, rfl⟩
  obtain ⟨nv, hnv⟩ : ∃ n, M.vs.length = n := ⟨_, rfl⟩
  obtain ⟨hn, hhn⟩ : ∃ n, (M.hist p).length = n := ⟨_, rfl⟩
  rw [hnp] at hpn hl ⊢
  rw [hnv]
  rw [hhn] at hc HW0 ⊢
  have hd : decide (0 ≤ (p : Int) ∧ (p : Int) < np) = true := by simp; omega
  clear hnp hnv hhn
  have B := b2 w (.cells #[.slice (some ⟨bP, 0, none⟩) np np, .slice a2 nv nv] 31) (.cells #[.slice none 0 0] 65)
  have BM := Lib.hid (Box.alloc (Box.new w #[.slice (some ⟨bP, 0, none⟩) np np, .slice a2 nv nv] 31 rfl) (.cells #[.slice none 0 0] 65))
  have R1 := Lib.hid (Box.new (w.alloc (.cells #[.slice (some ⟨bP, 0, none⟩) np np, .slice a2 nv nv] 31)) #[.slice none 0 0] 65 (n := w.heap.size + 1) (by simp))
  have BB := Lib.hid B
  clear B
  go_enter Try.func20, Try.ntmps20
  go_wp2_with fail
  refine (hasPlace_any _ a2 np nv p _ (by omega) (by omega)).mono ?_
  rintro e w1 ⟨rfl, hb⟩
  rw [hd]
  simp only [World.size_alloc] at hb
  have b1 := BM.out.below (by simpa using hb)
  have r1 := R1.out.below (by simpa using hb)
  have F2 := BB.out.trans (hb.mono (by omega))
  rw [← F2.cell (by simpa using hbl)] at hc
  obtain ⟨⟨m0, m1⟩, -⟩ := b1.cells2
  obtain ⟨k0, f0⟩ := r1.cells1
  have F3 := HW0.out.below F2
  have on := (Only.refl (w.heap.size + 1) w1).set 0 (.slice ha hn hn)
  have F4 := F3.only r1 (fun a n c e => by have := hw_lt HW0.out a n c e; omega) on
  have F5 := F2.put (w.heap.size + 1) (by omega) 0 (.slice ha hn hn)
  have c5 := (r1.set 0 (.slice ha hn hn)).cells1.1
  have G4 := Lib.hid F4
  have G5 := Lib.hid F5
  clear hb b1 r1 F2 F3 F4 F5 on BM R1 BB HW0
  go_wp2
  refine bodyPost_ret (v := .tuple #[.agg #[.slice ha hn hn], .bool true]) (by simp [results, Try.f20, go_sem, c5]) rfl ?_
  exact ⟨ha, _, rfl, EM.out, G4.out, G5.out⟩

set_option maxRecDepth 100000 in
set_option maxHeartbeats 1600000 in
theorem last_ok (pv vv : Value) (M : Mem) (N p : Nat) (w : World) (h : MW w pv vv M) (G : M.Good N) (hN : N ≤ 1000) (hpn : p < M.hs.length) :
    Calls Try.prog 27 #[.agg #[pv, vv], .int .i64 p] w fun e w' => e = .returned (.tuple #[wordV (M.msg p ((M.hist p).length - 1)), .bool true]) ∧ Below w.heap.size w w' := by
  have hgh := G.hist hpn
  have hnp := G.np
  obtain ⟨a1, a2, e1, e2⟩ := h.slices
  have B := b2 w (.cells #[pv, vv] 31) (.cells #[.int .i64 0, .int .u32 0, .int .u32 0] 45)
  have hist := fun W (hW : MW W pv vv M) => history_ok pv vv M p W hW hpn hnp
  subst e1 e2
  obtain ⟨x, hxe⟩ : ∃ x, M.msg p ((M.hist p).length - 1) = x := ⟨_, rfl⟩
  have HXE := Lib.hid hxe
  rw [hxe]
  obtain ⟨np, hnp'⟩ : ∃ n, M.hs.length = n := ⟨_, rfl⟩
  obtain ⟨nv, hnv'⟩ : ∃ n, M.vs.length = n := ⟨_, rfl⟩
  rw [hnp', hnv'] at h hist B ⊢
  have HIST := Lib.hid hist
  have H := Lib.hid (h.below B)
  have R1 := Lib.hid (Box.new (w.alloc (.cells #[.slice a1 np np, .slice a2 nv nv] 31)) #[.int .i64 0, .int .u32 0, .int .u32 0] 45 (n := w.heap.size + 1) (by simp))
  have BB := Lib.hid B
  have qF := field0V
  clear h hist B hxe
  obtain ⟨xa, xb, xc, xd, xm⟩ := x
  rw [show wordV ⟨xa, xb, xc, xd, xm⟩ = .agg #[.int .i64 xa, .int .u32 xb, .int .u32 xc] from rfl]
  go_enter Try.func27, Try.ntmps27
  go_wp2_with fail
  refine (HIST.out _ H.out).mono ?_
  rintro e w1 ⟨ha, q, rfl, hqm, hq, hb⟩
  have R2 := Lib.hid (R1.out.below hb)
  have BB2 := Lib.hid (BB.out.trans (hb.mono BB.out.size))
  clear hb R1 BB
  have hql : q.length = (M.hist p).length := by rw [← hqm, List.length_map]
  obtain ⟨q0, y, rfl⟩ : ∃ q0 y, q = q0 ++ [y] := by
    rcases List.eq_nil_or_concat q with rfl | ⟨q0, m, e⟩
    · simp at hql; omega
    · exact ⟨q0, m, by rw [e, List.concat_eq_append]⟩
  have hy : y.1 = ⟨xa, xb, xc, xd, xm⟩ := by
    rw [← HXE.out]
    unfold Mem.msg
    rw [← hqm]
    simp [List.getD]
  have hq0 : q0.length < 1000 := by simp at hql; omega
  obtain ⟨y1, yp⟩ := y
  simp only at hy
  subst hy
  have HQ := Lib.hid hq
  clear hq hqm
  go_wp2_with fail
  refine (last_some _ q0 (⟨xa, xb, xc, xd, xm⟩, yp) _ (HQ.out.alloc _) (by omega)).mono ?_
  rintro e w2 ⟨rfl, hb⟩
  simp only [msgV]
  have R3 := R2.out.below ((below_new w1 _).trans (hb.mono (by simp)))
  have BB3 := BB2.out.trans (((below_new w1 _).trans (hb.mono (by simp))).mono BB2.out.size)
  obtain ⟨⟨m0, m1, m2⟩, g0, g1, g2⟩ := R3.cells3
  obtain ⟨⟨c0, c1, c2⟩, -⟩ := (((R3.set 0 (.int .i64 xa)).set 1 (.int .u32 xb)).set 2 (.int .u32 xc)).cells3
  have F5 := Lib.hid (((BB3.put (w.heap.size + 1) (by omega) 0 (.int .i64 xa)).put (w.heap.size + 1) (by omega) 1 (.int .u32 xb)).put (w.heap.size + 1) (by omega) 2 (.int .u32 xc))
  clear hb R3 BB3 R2 BB2 HQ
  go_wp2
  refine bodyPost_ret (v := .tuple #[.agg #[.int .i64 xa, .int .u32 xb, .int .u32 xc], .bool true]) (by simp [results, Try.f27, go_sem, c0, c1, c2]) rfl ?_
  exact ⟨rfl, F5.out⟩
end Go.Proofs.Ytbaljoehgdhhhaa
