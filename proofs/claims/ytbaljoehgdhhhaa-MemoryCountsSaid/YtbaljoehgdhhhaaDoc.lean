/- do: errors, and acts that it does not know. -/
import Derived.Test.YtbaljoehgdhhhaaDo
import Derived.Test.YtbaljoehgdhhhaaErr
namespace Go.Proofs.Ytbaljoehgdhhhaa
open Go.RowKit Go.Shelf Go.Maps

set_option maxRecDepth 100000 in
set_option maxHeartbeats 3200000 in
theorem do_err1 (y1 y2 : Option Addr) (np nv : Nat) (t at_ : Int) (oa ob oc na nb nc z : Int) (w : World) (p0 : -9223372036854775808 ≤ at_) (p1 : at_ < 9223372036854775808) (he : errOf np nv t at_ ≠ 0) :
    Calls Try.prog 14 #[.agg #[.slice y1 np np, .slice y2 nv nv], .agg #[.int .i64 t, .int .i64 1, .int .i64 at_, .int .i64 oa, .int .u32 ob, .int .u32 oc, .int .i64 na, .int .u32 nb, .int .u32 nc, .int .i64 z]] w fun e w' => e = .returned (.tuple #[.agg #[.slice y1 np np, .slice y2 nv nv], .agg #[.int .i64 0, .int .u32 0, .int .u32 0], .bool false, .int .i64 (errOf np nv t at_)]) ∧ Below w.heap.size w w' := by
  have hz : (errOf np nv t at_ == 0) = false := by simpa using he
  obtain ⟨er, her⟩ : ∃ e, errOf np nv t at_ = e := ⟨_, rfl⟩
  have HER := Lib.hid her
  have HE : Hid (errOf np nv t at_ ≠ 0) := Lib.hid he
  rw [her] at hz ⊢
  clear her he
  have B2 := Lib.hid (Box.alloc (Box.alloc (Box.alloc (Box.new w #[.slice y1 np np, .slice y2 nv nv] 31 (n := w.heap.size) (by simp)) (.cells #[.int .i64 t, .int .i64 1, .int .i64 at_, .int .i64 oa, .int .u32 ob, .int .u32 oc, .int .i64 na, .int .u32 nb, .int .u32 nc, .int .i64 z] 49)) (.cells #[.slice none 0 0, .slice none 0 0] 31)) (.cells #[.int .i64 0, .int .u32 0, .int .u32 0] 45))
  have B3 := Lib.hid (Box.alloc (Box.alloc (Box.new (w.alloc (.cells #[.slice y1 np np, .slice y2 nv nv] 31)) #[.int .i64 t, .int .i64 1, .int .i64 at_, .int .i64 oa, .int .u32 ob, .int .u32 oc, .int .i64 na, .int .u32 nb, .int .u32 nc, .int .i64 z] 49 (n := w.heap.size + 1) (by simp)) (.cells #[.slice none 0 0, .slice none 0 0] 31)) (.cells #[.int .i64 0, .int .u32 0, .int .u32 0] 45))
  have R4 := Lib.hid (Box.alloc (Box.new ((w.alloc (.cells #[.slice y1 np np, .slice y2 nv nv] 31)).alloc (.cells #[.int .i64 t, .int .i64 1, .int .i64 at_, .int .i64 oa, .int .u32 ob, .int .u32 oc, .int .i64 na, .int .u32 nb, .int .u32 nc, .int .i64 z] 49)) #[.slice none 0 0, .slice none 0 0] 31 (n := w.heap.size + 1 + 1) (by simp)) (.cells #[.int .i64 0, .int .u32 0, .int .u32 0] 45))
  have R5 := Lib.hid (Box.new (((w.alloc (.cells #[.slice y1 np np, .slice y2 nv nv] 31)).alloc (.cells #[.int .i64 t, .int .i64 1, .int .i64 at_, .int .i64 oa, .int .u32 ob, .int .u32 oc, .int .i64 na, .int .u32 nb, .int .u32 nc, .int .i64 z] 49)).alloc (.cells #[.slice none 0 0, .slice none 0 0] 31)) #[.int .i64 0, .int .u32 0, .int .u32 0] 45 (n := w.heap.size + 1 + 1 + 1) (by simp))
  have BB := Lib.hid (((((Below.refl w.heap.size w).alloc (by simp <;> omega) (.cells #[.slice y1 np np, .slice y2 nv nv] 31)).alloc (by simp <;> omega) (.cells #[.int .i64 t, .int .i64 1, .int .i64 at_, .int .i64 oa, .int .u32 ob, .int .u32 oc, .int .i64 na, .int .u32 nb, .int .u32 nc, .int .i64 z] 49)).alloc (by simp <;> omega) (.cells #[.slice none 0 0, .slice none 0 0] 31)).alloc (by simp <;> omega) (.cells #[.int .i64 0, .int .u32 0, .int .u32 0] 45))
  go_enter Try.func14, Try.ntmps14
  go_upto_region 1 with fail
  generalize ((((w.alloc (.cells #[.slice y1 np np, .slice y2 nv nv] 31)).alloc (.cells #[.int .i64 t, .int .i64 1, .int .i64 at_, .int .i64 oa, .int .u32 ob, .int .u32 oc, .int .i64 na, .int .u32 nb, .int .u32 nc, .int .i64 z] 49)).alloc (.cells #[.slice none 0 0, .slice none 0 0] 31)).alloc (.cells #[.int .i64 0, .int .u32 0, .int .u32 0] 45)) = W0 at *
  obtain ⟨b5, hb5⟩ : ∃ b, w.heap.size + 1 + 1 + 1 = b := ⟨_, rfl⟩
  obtain ⟨b4, hb4⟩ : ∃ b, w.heap.size + 1 + 1 = b := ⟨_, rfl⟩
  obtain ⟨b3, hb3⟩ : ∃ b, w.heap.size + 1 = b := ⟨_, rfl⟩
  obtain ⟨b2, hb2⟩ : ∃ b, w.heap.size = b := ⟨_, rfl⟩
  have hbq := hb2
  rw [hb5] at R5 ⊢
  rw [hb4] at R4 hb5 ⊢
  rw [hb3] at B3 hb4 ⊢
  rw [hb2] at B2 hb3 ⊢
  obtain ⟨d0, d1, d2, d3, d4, d5, d6, d7, d8, d9⟩ := B3.out.all10
  go_upto_region 2 with fail
  clear d0 d1 d2 d3 d4 d5 d6 d7 d8 d9
  have hlt_b8 := BB.out.size
  have hlt_b8_B2 := B2.out.lt
  have hlt_b8_B3 := B3.out.lt
  have hlt_b8_R4 := R4.out.lt
  have hlt_b8_R5 := R5.out.lt
  have B2' := Lib.hid (B2.out.below (below_new W0 (.cells #[.int .i64 1, .int .i64 at_, .int .i64 oa, .int .u32 ob, .int .u32 oc, .int .i64 na, .int .u32 nb, .int .u32 nc] 47)))
  have B3' := Lib.hid (B3.out.below (below_new W0 (.cells #[.int .i64 1, .int .i64 at_, .int .i64 oa, .int .u32 ob, .int .u32 oc, .int .i64 na, .int .u32 nb, .int .u32 nc] 47)))
  have R4' := Lib.hid (R4.out.below (below_new W0 (.cells #[.int .i64 1, .int .i64 at_, .int .i64 oa, .int .u32 ob, .int .u32 oc, .int .i64 na, .int .u32 nb, .int .u32 nc] 47)))
  have R5' := Lib.hid (R5.out.below (below_new W0 (.cells #[.int .i64 1, .int .i64 at_, .int .i64 oa, .int .u32 ob, .int .u32 oc, .int .i64 na, .int .u32 nb, .int .u32 nc] 47)))
  have BB' := Lib.hid (BB.out.trans ((below_new W0 (.cells #[.int .i64 1, .int .i64 at_, .int .i64 oa, .int .u32 ob, .int .u32 oc, .int .i64 na, .int .u32 nb, .int .u32 nc] 47)).mono BB.out.size))
  clear B2
  have B2 := B2'
  clear B2'
  clear B3
  have B3 := B3'
  clear B3'
  clear R4
  have R4 := R4'
  clear R4'
  clear R5
  have R5 := R5'
  clear R5'
  clear BB
  have BB := BB'
  clear BB'
  have B8 := Lib.hid (Box.new W0 #[.int .i64 1, .int .i64 at_, .int .i64 oa, .int .u32 ob, .int .u32 oc, .int .i64 na, .int .u32 nb, .int .u32 nc] 47 rfl)
  have hsz_b8 : (World.alloc W0 (.cells #[.int .i64 1, .int .i64 at_, .int .i64 oa, .int .u32 ob, .int .u32 oc, .int .i64 na, .int .u32 nb, .int .u32 nc] 47)).heap.size = (World.heap W0).size + 1 := by simp
  generalize World.alloc W0 (.cells #[.int .i64 1, .int .i64 at_, .int .i64 oa, .int .u32 ob, .int .u32 oc, .int .i64 na, .int .u32 nb, .int .u32 nc] 47) = a0 at *
  generalize World.heap W0 = hp_b8 at *
  generalize hp_b8.size = b8 at *
  obtain ⟨d0, d1, d2, d3, d4, d5, d6, d7, d8, d9⟩ := B3.out.all10
  obtain ⟨e0, e1, e2, e3, e4, e5, e6, e7⟩ := B8.out.all8
  obtain ⟨⟨m0, m1⟩, -⟩ := B2.out.cells2
  go_wp2_with fail
  clear d0 d1 d2 d3 d4 d5 d6 d7 d8 d9 e0 e1 e2 e3 e4 e5 e6 e7 m0 m1
  have q4 := R4.out.lt
  have q5 := R5.out.lt
  refine (load_err y1 y2 np nv t at_ false z _ p0 p1 HE.out).mono ?_
  rintro e a1 ⟨rfl, hb⟩
  have B2' := Lib.hid (B2.out.below (hb))
  have B3' := Lib.hid (B3.out.below (hb))
  have R4' := Lib.hid (R4.out.below (hb))
  have R5' := Lib.hid (R5.out.below (hb))
  have B8' := Lib.hid (B8.out.below (hb))
  have BB' := Lib.hid (BB.out.trans ((hb).mono BB.out.size))
  clear B2
  have B2 := B2'
  clear B2'
  clear B3
  have B3 := B3'
  clear B3'
  clear R4
  have R4 := R4'
  clear R4'
  clear R5
  have R5 := R5'
  clear R5'
  clear B8
  have B8 := B8'
  clear B8'
  clear BB
  have BB := BB'
  clear BB'
  clear hb
  rw [HER.out]
  go_upto_region 6 with fail
  have hlt_b9 := BB.out.size
  have hlt_b9_B2 := B2.out.lt
  have hlt_b9_B3 := B3.out.lt
  have hlt_b9_R4 := R4.out.lt
  have hlt_b9_R5 := R5.out.lt
  have hlt_b9_B8 := B8.out.lt
  have B2' := Lib.hid (B2.out.below (below_new a1 (.cells #[.slice y1 np np, .slice y2 nv nv] 31)))
  have B3' := Lib.hid (B3.out.below (below_new a1 (.cells #[.slice y1 np np, .slice y2 nv nv] 31)))
  have R4' := Lib.hid (R4.out.below (below_new a1 (.cells #[.slice y1 np np, .slice y2 nv nv] 31)))
  have R5' := Lib.hid (R5.out.below (below_new a1 (.cells #[.slice y1 np np, .slice y2 nv nv] 31)))
  have B8' := Lib.hid (B8.out.below (below_new a1 (.cells #[.slice y1 np np, .slice y2 nv nv] 31)))
  have BB' := Lib.hid (BB.out.trans ((below_new a1 (.cells #[.slice y1 np np, .slice y2 nv nv] 31)).mono BB.out.size))
  clear B2
  have B2 := B2'
  clear B2'
  clear B3
  have B3 := B3'
  clear B3'
  clear R4
  have R4 := R4'
  clear R4'
  clear R5
  have R5 := R5'
  clear R5'
  clear B8
  have B8 := B8'
  clear B8'
  clear BB
  have BB := BB'
  clear BB'
  have B9 := Lib.hid (Box.new a1 #[.slice y1 np np, .slice y2 nv nv] 31 rfl)
  have hsz_b9 : (World.alloc a1 (.cells #[.slice y1 np np, .slice y2 nv nv] 31)).heap.size = (World.heap a1).size + 1 := by simp
  generalize World.alloc a1 (.cells #[.slice y1 np np, .slice y2 nv nv] 31) = a2 at *
  generalize World.heap a1 = hp_b9 at *
  generalize hp_b9.size = b9 at *
  have hlt_b10 := BB.out.size
  have B2' := Lib.hid (B2.out.below (below_new a2 (.cells #[.int .i64 0, .int .u32 0, .int .u32 0] 45)))
  have B3' := Lib.hid (B3.out.below (below_new a2 (.cells #[.int .i64 0, .int .u32 0, .int .u32 0] 45)))
  have R4' := Lib.hid (R4.out.below (below_new a2 (.cells #[.int .i64 0, .int .u32 0, .int .u32 0] 45)))
  have R5' := Lib.hid (R5.out.below (below_new a2 (.cells #[.int .i64 0, .int .u32 0, .int .u32 0] 45)))
  have B8' := Lib.hid (B8.out.below (below_new a2 (.cells #[.int .i64 0, .int .u32 0, .int .u32 0] 45)))
  have B9' := Lib.hid (B9.out.below (below_new a2 (.cells #[.int .i64 0, .int .u32 0, .int .u32 0] 45)))
  have BB' := Lib.hid (BB.out.trans ((below_new a2 (.cells #[.int .i64 0, .int .u32 0, .int .u32 0] 45)).mono BB.out.size))
  clear B2
  have B2 := B2'
  clear B2'
  clear B3
  have B3 := B3'
  clear B3'
  clear R4
  have R4 := R4'
  clear R4'
  clear R5
  have R5 := R5'
  clear R5'
  clear B8
  have B8 := B8'
  clear B8'
  clear B9
  have B9 := B9'
  clear B9'
  clear BB
  have BB := BB'
  clear BB'
  have B10 := Lib.hid (Box.new a2 #[.int .i64 0, .int .u32 0, .int .u32 0] 45 (n := b9 + 1) hsz_b9.symm)
  have hsz_b10 : (World.alloc a2 (.cells #[.int .i64 0, .int .u32 0, .int .u32 0] 45)).heap.size = b9 + 1 + 1 := by simp [hsz_b9]
  rw [hsz_b9] at hlt_b10
  generalize World.alloc a2 (.cells #[.int .i64 0, .int .u32 0, .int .u32 0] 45) = a3 at *
  obtain ⟨b10, hq_b10⟩ : ∃ b, b9 + 1 = b := ⟨_, rfl⟩
  rw [hq_b10] at B10 hsz_b10 ⊢
  have B2' := Lib.hid (B2.out.below ((Below.refl _ _).drew))
  have B3' := Lib.hid (B3.out.below ((Below.refl _ _).drew))
  have R4' := Lib.hid (R4.out.below ((Below.refl _ _).drew))
  have R5' := Lib.hid (R5.out.below ((Below.refl _ _).drew))
  have B8' := Lib.hid (B8.out.below ((Below.refl _ _).drew))
  have B9' := Lib.hid (B9.out.below ((Below.refl _ _).drew))
  have B10' := Lib.hid (B10.out.below ((Below.refl _ _).drew))
  have BB' := Lib.hid (BB.out.trans (((Below.refl _ _).drew).mono BB.out.size))
  clear B2
  have B2 := B2'
  clear B2'
  clear B3
  have B3 := B3'
  clear B3'
  clear R4
  have R4 := R4'
  clear R4'
  clear R5
  have R5 := R5'
  clear R5'
  clear B8
  have B8 := B8'
  clear B8'
  clear B9
  have B9 := B9'
  clear B9'
  clear B10
  have B10 := B10'
  clear B10'
  clear BB
  have BB := BB'
  clear BB'
  refine wp_region_held_drew (S := fun w' => w'.cell? ⟨b9, 0, none⟩ = some (.slice y1 np np) ∧ w'.cell? ⟨b9, 1, none⟩ = some (.slice y2 nv nv) ∧ w'.cell? ⟨b10, 0, none⟩ = some (.int .i64 0) ∧ w'.cell? ⟨b10, 1, none⟩ = some (.int .u32 0) ∧ w'.cell? ⟨b10, 2, none⟩ = some (.int .u32 0)) (by kernel_rfl) ⟨B9.out.cells2.1.1, B9.out.cells2.1.2, B10.out.cell 0, B10.out.cell 1, B10.out.cell 2⟩ (fun hHeld => ?_)
  generalize World.drew a3 = V0 at *
  refine wpAnyH_take (i := 0) (oi := { dst := some 39, op := Op.load 31 (Operand.tmp 9), type := 31, pos := "law.go:51", after := #[], guard := none }) (v := ?d1_1xv0) rfl (by kernel_rfl) (by kernel_rfl) (by kernel_rfl) (fun _ _ _ h => h) (Or.inl ⟨by rfl, ?d1_1xy0⟩) (by assumption) ?d1_1xr0
  case d1_1xy0 => (intro w hSw; (try dsimp only at hSw); go_simp; try with_reducible rfl)
  (try simp only [Act.put])
  (try simp only [List.setIfInBounds_toArray])
  (try simp only [List.set_cons_succ])
  (try simp only [List.set_cons_zero])
  refine wpAnyH_take (i := 1) (oi := { dst := some 40, op := Op.load 45 (Operand.tmp 10), type := 45, pos := "law.go:51", after := #[{ on := 5, ground := Ground.gcOnly Departure.lateStores }], guard := none }) (v := ?d1_2xv1) rfl (by kernel_rfl) (by kernel_rfl) (by kernel_rfl) (fun _ _ _ h => h) (Or.inl ⟨by rfl, ?d1_2xy1⟩) (by assumption) ?d1_2xr1
  case d1_2xy1 => (intro w hSw; (try dsimp only at hSw); go_simp; try with_reducible rfl)
  (try simp only [Act.put])
  (try simp only [List.setIfInBounds_toArray])
  (try simp only [List.set_cons_succ])
  (try simp only [List.set_cons_zero])
  refine wpAnyH_take (i := 2) (oi := { dst := some 41, op := Op.move (Operand.tmp 11), type := 32, pos := "law.go:51", after := #[{ on := 6, ground := Ground.gcOnly Departure.lateStores }], guard := none }) (v := ?d1_3xv2) rfl (by kernel_rfl) (by kernel_rfl) (by kernel_rfl) (fun _ _ _ h => h) (Or.inl ⟨by rfl, ?d1_3xy2⟩) (by assumption) ?d1_3xr2
  case d1_3xy2 => (intro w hSw; (try dsimp only at hSw); go_simp; try with_reducible rfl)
  (try simp only [Act.put])
  (try simp only [List.setIfInBounds_toArray])
  (try simp only [List.set_cons_succ])
  (try simp only [List.set_cons_zero])
  refine wpAnyH_take (i := 3) (oi := { dst := some 42, op := Op.binOp BinOp.eql 32 (Operand.tmp 41) (Operand.const (Value.int IntKind.i64 0)) 32, type := 4, pos := "law.go:51", after := #[{ on := 2, ground := Ground.data }, { on := 6, ground := Ground.gcOnly Departure.lateStores }], guard := none }) (v := ?d1_4xv3) rfl (by kernel_rfl) (by kernel_rfl) (by kernel_rfl) (fun _ _ _ h => h) (Or.inl ⟨by rfl, ?d1_4xy3⟩) (by assumption) ?d1_4xr3
  case d1_4xy3 => (intro w hSw; (try dsimp only at hSw); go_simp; try with_reducible rfl)
  (try simp only [Act.put])
  (try simp only [List.setIfInBounds_toArray])
  (try simp only [List.set_cons_succ])
  (try simp only [List.set_cons_zero])
  refine wpAnyH_take (i := 4) (oi := { dst := some 43, op := Op.move (Operand.tmp 11), type := 32, pos := "law.go:51", after := #[{ on := 7, ground := Ground.gcOnly Departure.lateStores }], guard := none }) (v := ?d1_5xv4) rfl (by kernel_rfl) (by kernel_rfl) (by kernel_rfl) (fun _ _ _ h => h) (Or.inl ⟨by rfl, ?d1_5xy4⟩) (by assumption) ?d1_5xr4
  case d1_5xy4 => (intro w hSw; (try dsimp only at hSw); go_simp; try with_reducible rfl)
  (try simp only [Act.put])
  (try simp only [List.setIfInBounds_toArray])
  (try simp only [List.set_cons_succ])
  (try simp only [List.set_cons_zero])
  refine wpAnyH_ready (rs := [5]) (by kernel_rfl) (by simp) ?_
  refine AllReadyH.cons (o := { dst := none, op := Op.store 31 (Operand.tmp 4) (Operand.tmp 39), type := 0, pos := "law.go:51", after := #[{ on := 0, ground := Ground.data }, { on := 0, ground := Ground.phase }, { on := 1, ground := Ground.textOnly Departure.lateStores }, { on := 2, ground := Ground.textOnly Departure.lateStores }, { on := 3, ground := Ground.textOnly Departure.lateStores }, { on := 4, ground := Ground.textOnly Departure.lateStores }], guard := none }) rfl (fun K hK => ?_) AllReadyH.nil
  obtain ⟨⟨m0, m1⟩, g0, g1⟩ := R4.out.cells2
  go_simp
  clear m0 g0 m1 g1
  have B2' := Lib.hid (B2.out.only (by omega) (((Only.refl b4 V0).set 0 (.slice y1 np np)).set 1 (.slice y2 nv nv)))
  have B3' := Lib.hid (B3.out.only (by omega) (((Only.refl b4 V0).set 0 (.slice y1 np np)).set 1 (.slice y2 nv nv)))
  have R4' := Lib.hid (((R4.out).set 0 (.slice y1 np np)).set 1 (.slice y2 nv nv))
  have R5' := Lib.hid (R5.out.only (by omega) (((Only.refl b4 V0).set 0 (.slice y1 np np)).set 1 (.slice y2 nv nv)))
  have B8' := Lib.hid (B8.out.only (by omega) (((Only.refl b4 V0).set 0 (.slice y1 np np)).set 1 (.slice y2 nv nv)))
  have B9' := Lib.hid (B9.out.only (by omega) (((Only.refl b4 V0).set 0 (.slice y1 np np)).set 1 (.slice y2 nv nv)))
  have B10' := Lib.hid (B10.out.only (by omega) (((Only.refl b4 V0).set 0 (.slice y1 np np)).set 1 (.slice y2 nv nv)))
  have BB' := Lib.hid (((BB.out).put b4 (by omega) 0 (.slice y1 np np)).put b4 (by omega) 1 (.slice y2 nv nv))
  clear B2
  have B2 := B2'
  clear B2'
  clear B3
  have B3 := B3'
  clear B3'
  clear R4
  have R4 := R4'
  clear R4'
  clear R5
  have R5 := R5'
  clear R5'
  clear B8
  have B8 := B8'
  clear B8'
  clear B9
  have B9 := B9'
  clear B9'
  clear B10
  have B10 := B10'
  clear B10'
  clear BB
  have BB := BB'
  clear BB'
  generalize (World.setCell (World.setCell V0 ⟨b4, 0, none⟩ (.slice y1 np np)) ⟨b4, 1, none⟩ (.slice y2 nv nv)) = v1 at *
  refine hK.out _ _ ?_ (fun hHeld => ?_)
  · exact ⟨B9.out.cells2.1.1, B9.out.cells2.1.2, B10.out.cell 0, B10.out.cell 1, B10.out.cell 2⟩
  clear hK K
  (try simp only [Act.put])
  (try simp only [List.setIfInBounds_toArray])
  (try simp only [List.set_cons_succ])
  (try simp only [List.set_cons_zero])
  refine wpAnyH_ready (rs := [6]) (by kernel_rfl) (by simp) ?_
  refine AllReadyH.cons (o := { dst := none, op := Op.store 45 (Operand.tmp 5) (Operand.tmp 40), type := 0, pos := "law.go:51", after := #[{ on := 1, ground := Ground.data }, { on := 5, ground := Ground.chain }, { on := 0, ground := Ground.phase }, { on := 1, ground := Ground.phase }, { on := 2, ground := Ground.textOnly Departure.lateStores }, { on := 3, ground := Ground.textOnly Departure.lateStores }, { on := 4, ground := Ground.textOnly Departure.lateStores }, { on := 5, ground := Ground.phase }], guard := none }) rfl (fun K hK => ?_) AllReadyH.nil
  obtain ⟨⟨m0, m1, m2⟩, g0, g1, g2⟩ := R5.out.cells3
  go_simp
  clear m0 g0 m1 g1 m2 g2
  have B2' := Lib.hid (B2.out.only (by omega) ((((Only.refl b5 v1).set 0 (.int .i64 0)).set 1 (.int .u32 0)).set 2 (.int .u32 0)))
  have B3' := Lib.hid (B3.out.only (by omega) ((((Only.refl b5 v1).set 0 (.int .i64 0)).set 1 (.int .u32 0)).set 2 (.int .u32 0)))
  have R4' := Lib.hid (R4.out.only (by omega) ((((Only.refl b5 v1).set 0 (.int .i64 0)).set 1 (.int .u32 0)).set 2 (.int .u32 0)))
  have R5' := Lib.hid ((((R5.out).set 0 (.int .i64 0)).set 1 (.int .u32 0)).set 2 (.int .u32 0))
  have B8' := Lib.hid (B8.out.only (by omega) ((((Only.refl b5 v1).set 0 (.int .i64 0)).set 1 (.int .u32 0)).set 2 (.int .u32 0)))
  have B9' := Lib.hid (B9.out.only (by omega) ((((Only.refl b5 v1).set 0 (.int .i64 0)).set 1 (.int .u32 0)).set 2 (.int .u32 0)))
  have B10' := Lib.hid (B10.out.only (by omega) ((((Only.refl b5 v1).set 0 (.int .i64 0)).set 1 (.int .u32 0)).set 2 (.int .u32 0)))
  have BB' := Lib.hid ((((BB.out).put b5 (by omega) 0 (.int .i64 0)).put b5 (by omega) 1 (.int .u32 0)).put b5 (by omega) 2 (.int .u32 0))
  clear B2
  have B2 := B2'
  clear B2'
  clear B3
  have B3 := B3'
  clear B3'
  clear R4
  have R4 := R4'
  clear R4'
  clear R5
  have R5 := R5'
  clear R5'
  clear B8
  have B8 := B8'
  clear B8'
  clear B9
  have B9 := B9'
  clear B9'
  clear B10
  have B10 := B10'
  clear B10'
  clear BB
  have BB := BB'
  clear BB'
  generalize (World.setCell (World.setCell (World.setCell v1 ⟨b5, 0, none⟩ (.int .i64 0)) ⟨b5, 1, none⟩ (.int .u32 0)) ⟨b5, 2, none⟩ (.int .u32 0)) = v2 at *
  refine hK.out _ _ ?_ (fun hHeld => ?_)
  · exact ⟨B9.out.cells2.1.1, B9.out.cells2.1.2, B10.out.cell 0, B10.out.cell 1, B10.out.cell 2⟩
  clear hK K
  (try simp only [Act.put])
  (try simp only [List.setIfInBounds_toArray])
  (try simp only [List.set_cons_succ])
  (try simp only [List.set_cons_zero])
  refine wpAnyH_ready (rs := [7]) (by kernel_rfl) (by simp) ?_
  refine AllReadyH.cons (o := { dst := some 6, op := Op.assign (Operand.tmp 42), type := 4, pos := "law.go:51", after := #[{ on := 3, ground := Ground.data }, { on := 6, ground := Ground.chain }, { on := 0, ground := Ground.phase }, { on := 1, ground := Ground.phase }, { on := 2, ground := Ground.phase }, { on := 3, ground := Ground.phase }, { on := 4, ground := Ground.textOnly Departure.lateStores }, { on := 5, ground := Ground.phase }, { on := 6, ground := Ground.phase }], guard := none }) rfl (fun K hK => ?_) AllReadyH.nil
  go_simp
  refine hK.out _ _ ?_ (fun hHeld => ?_)
  · exact ⟨B9.out.cells2.1.1, B9.out.cells2.1.2, B10.out.cell 0, B10.out.cell 1, B10.out.cell 2⟩
  clear hK K
  (try simp only [Act.put])
  (try simp only [List.setIfInBounds_toArray])
  (try simp only [List.set_cons_succ])
  (try simp only [List.set_cons_zero])
  refine wpAnyH_ready (rs := [8]) (by kernel_rfl) (by simp) ?_
  refine AllReadyH.cons (o := { dst := some 7, op := Op.assign (Operand.tmp 43), type := 32, pos := "law.go:51", after := #[{ on := 4, ground := Ground.data }, { on := 7, ground := Ground.chain }, { on := 0, ground := Ground.phase }, { on := 1, ground := Ground.phase }, { on := 2, ground := Ground.phase }, { on := 3, ground := Ground.phase }, { on := 4, ground := Ground.phase }, { on := 5, ground := Ground.phase }, { on := 6, ground := Ground.phase }, { on := 7, ground := Ground.phase }], guard := none }) rfl (fun K hK => ?_) AllReadyH.nil
  go_simp
  refine hK.out _ _ ?_ (fun hHeld => ?_)
  · exact ⟨B9.out.cells2.1.1, B9.out.cells2.1.2, B10.out.cell 0, B10.out.cell 1, B10.out.cell 2⟩
  clear hK K
  (try simp only [Act.put])
  (try simp only [List.setIfInBounds_toArray])
  (try simp only [List.set_cons_succ])
  (try simp only [List.set_cons_zero])
  refine wpAnyH_done (by kernel_rfl) ?_ _
  obtain ⟨⟨m0, m1⟩, -⟩ := R4.out.cells2
  obtain ⟨⟨k0, k1, k2⟩, -⟩ := R5.out.cells3
  have F2 := BB.out
  go_wp2
  refine bodyPost_ret (v := .tuple #[.agg #[.slice y1 np np, .slice y2 nv nv], .agg #[.int .i64 0, .int .u32 0, .int .u32 0], .bool false, .int .i64 er]) (by simp [results, Try.f14, go_sem, m0, m1, k0, k1, k2]) rfl ?_
  exact ⟨rfl, F2⟩

set_option maxRecDepth 100000 in
set_option maxHeartbeats 3200000 in
theorem do_err2 (y1 y2 : Option Addr) (np nv : Nat) (t at_ : Int) (oa ob oc na nb nc z : Int) (w : World) (p0 : -9223372036854775808 ≤ at_) (p1 : at_ < 9223372036854775808) (he : errOf np nv t at_ ≠ 0) :
    Calls Try.prog 14 #[.agg #[.slice y1 np np, .slice y2 nv nv], .agg #[.int .i64 t, .int .i64 2, .int .i64 at_, .int .i64 oa, .int .u32 ob, .int .u32 oc, .int .i64 na, .int .u32 nb, .int .u32 nc, .int .i64 z]] w fun e w' => e = .returned (.tuple #[.agg #[.slice y1 np np, .slice y2 nv nv], .agg #[.int .i64 0, .int .u32 0, .int .u32 0], .bool false, .int .i64 (errOf np nv t at_)]) ∧ Below w.heap.size w w' := by
  have hz : (errOf np nv t at_ == 0) = false := by simpa using he
  obtain ⟨er, her⟩ : ∃ e, errOf np nv t at_ = e := ⟨_, rfl⟩
  have HER := Lib.hid her
  have HE : Hid (errOf np nv t at_ ≠ 0) := Lib.hid he
  rw [her] at hz ⊢
  clear her he
  have B2 := Lib.hid (Box.alloc (Box.alloc (Box.alloc (Box.new w #[.slice y1 np np, .slice y2 nv nv] 31 (n := w.heap.size) (by simp)) (.cells #[.int .i64 t, .int .i64 2, .int .i64 at_, .int .i64 oa, .int .u32 ob, .int .u32 oc, .int .i64 na, .int .u32 nb, .int .u32 nc, .int .i64 z] 49)) (.cells #[.slice none 0 0, .slice none 0 0] 31)) (.cells #[.int .i64 0, .int .u32 0, .int .u32 0] 45))
  have B3 := Lib.hid (Box.alloc (Box.alloc (Box.new (w.alloc (.cells #[.slice y1 np np, .slice y2 nv nv] 31)) #[.int .i64 t, .int .i64 2, .int .i64 at_, .int .i64 oa, .int .u32 ob, .int .u32 oc, .int .i64 na, .int .u32 nb, .int .u32 nc, .int .i64 z] 49 (n := w.heap.size + 1) (by simp)) (.cells #[.slice none 0 0, .slice none 0 0] 31)) (.cells #[.int .i64 0, .int .u32 0, .int .u32 0] 45))
  have R4 := Lib.hid (Box.alloc (Box.new ((w.alloc (.cells #[.slice y1 np np, .slice y2 nv nv] 31)).alloc (.cells #[.int .i64 t, .int .i64 2, .int .i64 at_, .int .i64 oa, .int .u32 ob, .int .u32 oc, .int .i64 na, .int .u32 nb, .int .u32 nc, .int .i64 z] 49)) #[.slice none 0 0, .slice none 0 0] 31 (n := w.heap.size + 1 + 1) (by simp)) (.cells #[.int .i64 0, .int .u32 0, .int .u32 0] 45))
  have R5 := Lib.hid (Box.new (((w.alloc (.cells #[.slice y1 np np, .slice y2 nv nv] 31)).alloc (.cells #[.int .i64 t, .int .i64 2, .int .i64 at_, .int .i64 oa, .int .u32 ob, .int .u32 oc, .int .i64 na, .int .u32 nb, .int .u32 nc, .int .i64 z] 49)).alloc (.cells #[.slice none 0 0, .slice none 0 0] 31)) #[.int .i64 0, .int .u32 0, .int .u32 0] 45 (n := w.heap.size + 1 + 1 + 1) (by simp))
  have BB := Lib.hid (((((Below.refl w.heap.size w).alloc (by simp <;> omega) (.cells #[.slice y1 np np, .slice y2 nv nv] 31)).alloc (by simp <;> omega) (.cells #[.int .i64 t, .int .i64 2, .int .i64 at_, .int .i64 oa, .int .u32 ob, .int .u32 oc, .int .i64 na, .int .u32 nb, .int .u32 nc, .int .i64 z] 49)).alloc (by simp <;> omega) (.cells #[.slice none 0 0, .slice none 0 0] 31)).alloc (by simp <;> omega) (.cells #[.int .i64 0, .int .u32 0, .int .u32 0] 45))
  go_enter Try.func14, Try.ntmps14
  go_upto_region 1 with fail
  generalize ((((w.alloc (.cells #[.slice y1 np np, .slice y2 nv nv] 31)).alloc (.cells #[.int .i64 t, .int .i64 2, .int .i64 at_, .int .i64 oa, .int .u32 ob, .int .u32 oc, .int .i64 na, .int .u32 nb, .int .u32 nc, .int .i64 z] 49)).alloc (.cells #[.slice none 0 0, .slice none 0 0] 31)).alloc (.cells #[.int .i64 0, .int .u32 0, .int .u32 0] 45)) = W0 at *
  obtain ⟨b5, hb5⟩ : ∃ b, w.heap.size + 1 + 1 + 1 = b := ⟨_, rfl⟩
  obtain ⟨b4, hb4⟩ : ∃ b, w.heap.size + 1 + 1 = b := ⟨_, rfl⟩
  obtain ⟨b3, hb3⟩ : ∃ b, w.heap.size + 1 = b := ⟨_, rfl⟩
  obtain ⟨b2, hb2⟩ : ∃ b, w.heap.size = b := ⟨_, rfl⟩
  have hbq := hb2
  rw [hb5] at R5 ⊢
  rw [hb4] at R4 hb5 ⊢
  rw [hb3] at B3 hb4 ⊢
  rw [hb2] at B2 hb3 ⊢
  obtain ⟨d0, d1, d2, d3, d4, d5, d6, d7, d8, d9⟩ := B3.out.all10
  go_upto_region 2 with fail
  clear d0 d1 d2 d3 d4 d5 d6 d7 d8 d9
  have hlt_b8 := BB.out.size
  have hlt_b8_B2 := B2.out.lt
  have hlt_b8_B3 := B3.out.lt
  have hlt_b8_R4 := R4.out.lt
  have hlt_b8_R5 := R5.out.lt
  have B2' := Lib.hid (B2.out.below (below_new W0 (.cells #[.int .i64 2, .int .i64 at_, .int .i64 oa, .int .u32 ob, .int .u32 oc, .int .i64 na, .int .u32 nb, .int .u32 nc] 47)))
  have B3' := Lib.hid (B3.out.below (below_new W0 (.cells #[.int .i64 2, .int .i64 at_, .int .i64 oa, .int .u32 ob, .int .u32 oc, .int .i64 na, .int .u32 nb, .int .u32 nc] 47)))
  have R4' := Lib.hid (R4.out.below (below_new W0 (.cells #[.int .i64 2, .int .i64 at_, .int .i64 oa, .int .u32 ob, .int .u32 oc, .int .i64 na, .int .u32 nb, .int .u32 nc] 47)))
  have R5' := Lib.hid (R5.out.below (below_new W0 (.cells #[.int .i64 2, .int .i64 at_, .int .i64 oa, .int .u32 ob, .int .u32 oc, .int .i64 na, .int .u32 nb, .int .u32 nc] 47)))
  have BB' := Lib.hid (BB.out.trans ((below_new W0 (.cells #[.int .i64 2, .int .i64 at_, .int .i64 oa, .int .u32 ob, .int .u32 oc, .int .i64 na, .int .u32 nb, .int .u32 nc] 47)).mono BB.out.size))
  clear B2
  have B2 := B2'
  clear B2'
  clear B3
  have B3 := B3'
  clear B3'
  clear R4
  have R4 := R4'
  clear R4'
  clear R5
  have R5 := R5'
  clear R5'
  clear BB
  have BB := BB'
  clear BB'
  have B8 := Lib.hid (Box.new W0 #[.int .i64 2, .int .i64 at_, .int .i64 oa, .int .u32 ob, .int .u32 oc, .int .i64 na, .int .u32 nb, .int .u32 nc] 47 rfl)
  have hsz_b8 : (World.alloc W0 (.cells #[.int .i64 2, .int .i64 at_, .int .i64 oa, .int .u32 ob, .int .u32 oc, .int .i64 na, .int .u32 nb, .int .u32 nc] 47)).heap.size = (World.heap W0).size + 1 := by simp
  generalize World.alloc W0 (.cells #[.int .i64 2, .int .i64 at_, .int .i64 oa, .int .u32 ob, .int .u32 oc, .int .i64 na, .int .u32 nb, .int .u32 nc] 47) = a0 at *
  generalize World.heap W0 = hp_b8 at *
  generalize hp_b8.size = b8 at *
  obtain ⟨d0, d1, d2, d3, d4, d5, d6, d7, d8, d9⟩ := B3.out.all10
  obtain ⟨e0, e1, e2, e3, e4, e5, e6, e7⟩ := B8.out.all8
  obtain ⟨⟨m0, m1⟩, -⟩ := B2.out.cells2
  go_wp2_with fail
  clear d0 d1 d2 d3 d4 d5 d6 d7 d8 d9 e0 e1 e2 e3 e4 e5 e6 e7 m0 m1
  have q4 := R4.out.lt
  have q5 := R5.out.lt
  refine (load_err y1 y2 np nv t at_ true z _ p0 p1 HE.out).mono ?_
  rintro e a1 ⟨rfl, hb⟩
  have B2' := Lib.hid (B2.out.below (hb))
  have B3' := Lib.hid (B3.out.below (hb))
  have R4' := Lib.hid (R4.out.below (hb))
  have R5' := Lib.hid (R5.out.below (hb))
  have B8' := Lib.hid (B8.out.below (hb))
  have BB' := Lib.hid (BB.out.trans ((hb).mono BB.out.size))
  clear B2
  have B2 := B2'
  clear B2'
  clear B3
  have B3 := B3'
  clear B3'
  clear R4
  have R4 := R4'
  clear R4'
  clear R5
  have R5 := R5'
  clear R5'
  clear B8
  have B8 := B8'
  clear B8'
  clear BB
  have BB := BB'
  clear BB'
  clear hb
  rw [HER.out]
  go_upto_region 6 with fail
  have hlt_b9 := BB.out.size
  have hlt_b9_B2 := B2.out.lt
  have hlt_b9_B3 := B3.out.lt
  have hlt_b9_R4 := R4.out.lt
  have hlt_b9_R5 := R5.out.lt
  have hlt_b9_B8 := B8.out.lt
  have B2' := Lib.hid (B2.out.below (below_new a1 (.cells #[.slice y1 np np, .slice y2 nv nv] 31)))
  have B3' := Lib.hid (B3.out.below (below_new a1 (.cells #[.slice y1 np np, .slice y2 nv nv] 31)))
  have R4' := Lib.hid (R4.out.below (below_new a1 (.cells #[.slice y1 np np, .slice y2 nv nv] 31)))
  have R5' := Lib.hid (R5.out.below (below_new a1 (.cells #[.slice y1 np np, .slice y2 nv nv] 31)))
  have B8' := Lib.hid (B8.out.below (below_new a1 (.cells #[.slice y1 np np, .slice y2 nv nv] 31)))
  have BB' := Lib.hid (BB.out.trans ((below_new a1 (.cells #[.slice y1 np np, .slice y2 nv nv] 31)).mono BB.out.size))
  clear B2
  have B2 := B2'
  clear B2'
  clear B3
  have B3 := B3'
  clear B3'
  clear R4
  have R4 := R4'
  clear R4'
  clear R5
  have R5 := R5'
  clear R5'
  clear B8
  have B8 := B8'
  clear B8'
  clear BB
  have BB := BB'
  clear BB'
  have B9 := Lib.hid (Box.new a1 #[.slice y1 np np, .slice y2 nv nv] 31 rfl)
  have hsz_b9 : (World.alloc a1 (.cells #[.slice y1 np np, .slice y2 nv nv] 31)).heap.size = (World.heap a1).size + 1 := by simp
  generalize World.alloc a1 (.cells #[.slice y1 np np, .slice y2 nv nv] 31) = a2 at *
  generalize World.heap a1 = hp_b9 at *
  generalize hp_b9.size = b9 at *
  have hlt_b10 := BB.out.size
  have B2' := Lib.hid (B2.out.below (below_new a2 (.cells #[.int .i64 0, .int .u32 0, .int .u32 0] 45)))
  have B3' := Lib.hid (B3.out.below (below_new a2 (.cells #[.int .i64 0, .int .u32 0, .int .u32 0] 45)))
  have R4' := Lib.hid (R4.out.below (below_new a2 (.cells #[.int .i64 0, .int .u32 0, .int .u32 0] 45)))
  have R5' := Lib.hid (R5.out.below (below_new a2 (.cells #[.int .i64 0, .int .u32 0, .int .u32 0] 45)))
  have B8' := Lib.hid (B8.out.below (below_new a2 (.cells #[.int .i64 0, .int .u32 0, .int .u32 0] 45)))
  have B9' := Lib.hid (B9.out.below (below_new a2 (.cells #[.int .i64 0, .int .u32 0, .int .u32 0] 45)))
  have BB' := Lib.hid (BB.out.trans ((below_new a2 (.cells #[.int .i64 0, .int .u32 0, .int .u32 0] 45)).mono BB.out.size))
  clear B2
  have B2 := B2'
  clear B2'
  clear B3
  have B3 := B3'
  clear B3'
  clear R4
  have R4 := R4'
  clear R4'
  clear R5
  have R5 := R5'
  clear R5'
  clear B8
  have B8 := B8'
  clear B8'
  clear B9
  have B9 := B9'
  clear B9'
  clear BB
  have BB := BB'
  clear BB'
  have B10 := Lib.hid (Box.new a2 #[.int .i64 0, .int .u32 0, .int .u32 0] 45 (n := b9 + 1) hsz_b9.symm)
  have hsz_b10 : (World.alloc a2 (.cells #[.int .i64 0, .int .u32 0, .int .u32 0] 45)).heap.size = b9 + 1 + 1 := by simp [hsz_b9]
  rw [hsz_b9] at hlt_b10
  generalize World.alloc a2 (.cells #[.int .i64 0, .int .u32 0, .int .u32 0] 45) = a3 at *
  obtain ⟨b10, hq_b10⟩ : ∃ b, b9 + 1 = b := ⟨_, rfl⟩
  rw [hq_b10] at B10 hsz_b10 ⊢
  have B2' := Lib.hid (B2.out.below ((Below.refl _ _).drew))
  have B3' := Lib.hid (B3.out.below ((Below.refl _ _).drew))
  have R4' := Lib.hid (R4.out.below ((Below.refl _ _).drew))
  have R5' := Lib.hid (R5.out.below ((Below.refl _ _).drew))
  have B8' := Lib.hid (B8.out.below ((Below.refl _ _).drew))
  have B9' := Lib.hid (B9.out.below ((Below.refl _ _).drew))
  have B10' := Lib.hid (B10.out.below ((Below.refl _ _).drew))
  have BB' := Lib.hid (BB.out.trans (((Below.refl _ _).drew).mono BB.out.size))
  clear B2
  have B2 := B2'
  clear B2'
  clear B3
  have B3 := B3'
  clear B3'
  clear R4
  have R4 := R4'
  clear R4'
  clear R5
  have R5 := R5'
  clear R5'
  clear B8
  have B8 := B8'
  clear B8'
  clear B9
  have B9 := B9'
  clear B9'
  clear B10
  have B10 := B10'
  clear B10'
  clear BB
  have BB := BB'
  clear BB'
  refine wp_region_held_drew (S := fun w' => w'.cell? ⟨b9, 0, none⟩ = some (.slice y1 np np) ∧ w'.cell? ⟨b9, 1, none⟩ = some (.slice y2 nv nv) ∧ w'.cell? ⟨b10, 0, none⟩ = some (.int .i64 0) ∧ w'.cell? ⟨b10, 1, none⟩ = some (.int .u32 0) ∧ w'.cell? ⟨b10, 2, none⟩ = some (.int .u32 0)) (by kernel_rfl) ⟨B9.out.cells2.1.1, B9.out.cells2.1.2, B10.out.cell 0, B10.out.cell 1, B10.out.cell 2⟩ (fun hHeld => ?_)
  generalize World.drew a3 = V0 at *
  refine wpAnyH_take (i := 0) (oi := { dst := some 39, op := Op.load 31 (Operand.tmp 9), type := 31, pos := "law.go:51", after := #[], guard := none }) (v := ?d1_1xv0) rfl (by kernel_rfl) (by kernel_rfl) (by kernel_rfl) (fun _ _ _ h => h) (Or.inl ⟨by rfl, ?d1_1xy0⟩) (by assumption) ?d1_1xr0
  case d1_1xy0 => (intro w hSw; (try dsimp only at hSw); go_simp; try with_reducible rfl)
  (try simp only [Act.put])
  (try simp only [List.setIfInBounds_toArray])
  (try simp only [List.set_cons_succ])
  (try simp only [List.set_cons_zero])
  refine wpAnyH_take (i := 1) (oi := { dst := some 40, op := Op.load 45 (Operand.tmp 10), type := 45, pos := "law.go:51", after := #[{ on := 5, ground := Ground.gcOnly Departure.lateStores }], guard := none }) (v := ?d1_2xv1) rfl (by kernel_rfl) (by kernel_rfl) (by kernel_rfl) (fun _ _ _ h => h) (Or.inl ⟨by rfl, ?d1_2xy1⟩) (by assumption) ?d1_2xr1
  case d1_2xy1 => (intro w hSw; (try dsimp only at hSw); go_simp; try with_reducible rfl)
  (try simp only [Act.put])
  (try simp only [List.setIfInBounds_toArray])
  (try simp only [List.set_cons_succ])
  (try simp only [List.set_cons_zero])
  refine wpAnyH_take (i := 2) (oi := { dst := some 41, op := Op.move (Operand.tmp 11), type := 32, pos := "law.go:51", after := #[{ on := 6, ground := Ground.gcOnly Departure.lateStores }], guard := none }) (v := ?d1_3xv2) rfl (by kernel_rfl) (by kernel_rfl) (by kernel_rfl) (fun _ _ _ h => h) (Or.inl ⟨by rfl, ?d1_3xy2⟩) (by assumption) ?d1_3xr2
  case d1_3xy2 => (intro w hSw; (try dsimp only at hSw); go_simp; try with_reducible rfl)
  (try simp only [Act.put])
  (try simp only [List.setIfInBounds_toArray])
  (try simp only [List.set_cons_succ])
  (try simp only [List.set_cons_zero])
  refine wpAnyH_take (i := 3) (oi := { dst := some 42, op := Op.binOp BinOp.eql 32 (Operand.tmp 41) (Operand.const (Value.int IntKind.i64 0)) 32, type := 4, pos := "law.go:51", after := #[{ on := 2, ground := Ground.data }, { on := 6, ground := Ground.gcOnly Departure.lateStores }], guard := none }) (v := ?d1_4xv3) rfl (by kernel_rfl) (by kernel_rfl) (by kernel_rfl) (fun _ _ _ h => h) (Or.inl ⟨by rfl, ?d1_4xy3⟩) (by assumption) ?d1_4xr3
  case d1_4xy3 => (intro w hSw; (try dsimp only at hSw); go_simp; try with_reducible rfl)
  (try simp only [Act.put])
  (try simp only [List.setIfInBounds_toArray])
  (try simp only [List.set_cons_succ])
  (try simp only [List.set_cons_zero])
  refine wpAnyH_take (i := 4) (oi := { dst := some 43, op := Op.move (Operand.tmp 11), type := 32, pos := "law.go:51", after := #[{ on := 7, ground := Ground.gcOnly Departure.lateStores }], guard := none }) (v := ?d1_5xv4) rfl (by kernel_rfl) (by kernel_rfl) (by kernel_rfl) (fun _ _ _ h => h) (Or.inl ⟨by rfl, ?d1_5xy4⟩) (by assumption) ?d1_5xr4
  case d1_5xy4 => (intro w hSw; (try dsimp only at hSw); go_simp; try with_reducible rfl)
  (try simp only [Act.put])
  (try simp only [List.setIfInBounds_toArray])
  (try simp only [List.set_cons_succ])
  (try simp only [List.set_cons_zero])
  refine wpAnyH_ready (rs := [5]) (by kernel_rfl) (by simp) ?_
  refine AllReadyH.cons (o := { dst := none, op := Op.store 31 (Operand.tmp 4) (Operand.tmp 39), type := 0, pos := "law.go:51", after := #[{ on := 0, ground := Ground.data }, { on := 0, ground := Ground.phase }, { on := 1, ground := Ground.textOnly Departure.lateStores }, { on := 2, ground := Ground.textOnly Departure.lateStores }, { on := 3, ground := Ground.textOnly Departure.lateStores }, { on := 4, ground := Ground.textOnly Departure.lateStores }], guard := none }) rfl (fun K hK => ?_) AllReadyH.nil
  obtain ⟨⟨m0, m1⟩, g0, g1⟩ := R4.out.cells2
  go_simp
  clear m0 g0 m1 g1
  have B2' := Lib.hid (B2.out.only (by omega) (((Only.refl b4 V0).set 0 (.slice y1 np np)).set 1 (.slice y2 nv nv)))
  have B3' := Lib.hid (B3.out.only (by omega) (((Only.refl b4 V0).set 0 (.slice y1 np np)).set 1 (.slice y2 nv nv)))
  have R4' := Lib.hid (((R4.out).set 0 (.slice y1 np np)).set 1 (.slice y2 nv nv))
  have R5' := Lib.hid (R5.out.only (by omega) (((Only.refl b4 V0).set 0 (.slice y1 np np)).set 1 (.slice y2 nv nv)))
  have B8' := Lib.hid (B8.out.only (by omega) (((Only.refl b4 V0).set 0 (.slice y1 np np)).set 1 (.slice y2 nv nv)))
  have B9' := Lib.hid (B9.out.only (by omega) (((Only.refl b4 V0).set 0 (.slice y1 np np)).set 1 (.slice y2 nv nv)))
  have B10' := Lib.hid (B10.out.only (by omega) (((Only.refl b4 V0).set 0 (.slice y1 np np)).set 1 (.slice y2 nv nv)))
  have BB' := Lib.hid (((BB.out).put b4 (by omega) 0 (.slice y1 np np)).put b4 (by omega) 1 (.slice y2 nv nv))
  clear B2
  have B2 := B2'
  clear B2'
  clear B3
  have B3 := B3'
  clear B3'
  clear R4
  have R4 := R4'
  clear R4'
  clear R5
  have R5 := R5'
  clear R5'
  clear B8
  have B8 := B8'
  clear B8'
  clear B9
  have B9 := B9'
  clear B9'
  clear B10
  have B10 := B10'
  clear B10'
  clear BB
  have BB := BB'
  clear BB'
  generalize (World.setCell (World.setCell V0 ⟨b4, 0, none⟩ (.slice y1 np np)) ⟨b4, 1, none⟩ (.slice y2 nv nv)) = v1 at *
  refine hK.out _ _ ?_ (fun hHeld => ?_)
  · exact ⟨B9.out.cells2.1.1, B9.out.cells2.1.2, B10.out.cell 0, B10.out.cell 1, B10.out.cell 2⟩
  clear hK K
  (try simp only [Act.put])
  (try simp only [List.setIfInBounds_toArray])
  (try simp only [List.set_cons_succ])
  (try simp only [List.set_cons_zero])
  refine wpAnyH_ready (rs := [6]) (by kernel_rfl) (by simp) ?_
  refine AllReadyH.cons (o := { dst := none, op := Op.store 45 (Operand.tmp 5) (Operand.tmp 40), type := 0, pos := "law.go:51", after := #[{ on := 1, ground := Ground.data }, { on := 5, ground := Ground.chain }, { on := 0, ground := Ground.phase }, { on := 1, ground := Ground.phase }, { on := 2, ground := Ground.textOnly Departure.lateStores }, { on := 3, ground := Ground.textOnly Departure.lateStores }, { on := 4, ground := Ground.textOnly Departure.lateStores }, { on := 5, ground := Ground.phase }], guard := none }) rfl (fun K hK => ?_) AllReadyH.nil
  obtain ⟨⟨m0, m1, m2⟩, g0, g1, g2⟩ := R5.out.cells3
  go_simp
  clear m0 g0 m1 g1 m2 g2
  have B2' := Lib.hid (B2.out.only (by omega) ((((Only.refl b5 v1).set 0 (.int .i64 0)).set 1 (.int .u32 0)).set 2 (.int .u32 0)))
  have B3' := Lib.hid (B3.out.only (by omega) ((((Only.refl b5 v1).set 0 (.int .i64 0)).set 1 (.int .u32 0)).set 2 (.int .u32 0)))
  have R4' := Lib.hid (R4.out.only (by omega) ((((Only.refl b5 v1).set 0 (.int .i64 0)).set 1 (.int .u32 0)).set 2 (.int .u32 0)))
  have R5' := Lib.hid ((((R5.out).set 0 (.int .i64 0)).set 1 (.int .u32 0)).set 2 (.int .u32 0))
  have B8' := Lib.hid (B8.out.only (by omega) ((((Only.refl b5 v1).set 0 (.int .i64 0)).set 1 (.int .u32 0)).set 2 (.int .u32 0)))
  have B9' := Lib.hid (B9.out.only (by omega) ((((Only.refl b5 v1).set 0 (.int .i64 0)).set 1 (.int .u32 0)).set 2 (.int .u32 0)))
  have B10' := Lib.hid (B10.out.only (by omega) ((((Only.refl b5 v1).set 0 (.int .i64 0)).set 1 (.int .u32 0)).set 2 (.int .u32 0)))
  have BB' := Lib.hid ((((BB.out).put b5 (by omega) 0 (.int .i64 0)).put b5 (by omega) 1 (.int .u32 0)).put b5 (by omega) 2 (.int .u32 0))
  clear B2
  have B2 := B2'
  clear B2'
  clear B3
  have B3 := B3'
  clear B3'
  clear R4
  have R4 := R4'
  clear R4'
  clear R5
  have R5 := R5'
  clear R5'
  clear B8
  have B8 := B8'
  clear B8'
  clear B9
  have B9 := B9'
  clear B9'
  clear B10
  have B10 := B10'
  clear B10'
  clear BB
  have BB := BB'
  clear BB'
  generalize (World.setCell (World.setCell (World.setCell v1 ⟨b5, 0, none⟩ (.int .i64 0)) ⟨b5, 1, none⟩ (.int .u32 0)) ⟨b5, 2, none⟩ (.int .u32 0)) = v2 at *
  refine hK.out _ _ ?_ (fun hHeld => ?_)
  · exact ⟨B9.out.cells2.1.1, B9.out.cells2.1.2, B10.out.cell 0, B10.out.cell 1, B10.out.cell 2⟩
  clear hK K
  (try simp only [Act.put])
  (try simp only [List.setIfInBounds_toArray])
  (try simp only [List.set_cons_succ])
  (try simp only [List.set_cons_zero])
  refine wpAnyH_ready (rs := [7]) (by kernel_rfl) (by simp) ?_
  refine AllReadyH.cons (o := { dst := some 6, op := Op.assign (Operand.tmp 42), type := 4, pos := "law.go:51", after := #[{ on := 3, ground := Ground.data }, { on := 6, ground := Ground.chain }, { on := 0, ground := Ground.phase }, { on := 1, ground := Ground.phase }, { on := 2, ground := Ground.phase }, { on := 3, ground := Ground.phase }, { on := 4, ground := Ground.textOnly Departure.lateStores }, { on := 5, ground := Ground.phase }, { on := 6, ground := Ground.phase }], guard := none }) rfl (fun K hK => ?_) AllReadyH.nil
  go_simp
  refine hK.out _ _ ?_ (fun hHeld => ?_)
  · exact ⟨B9.out.cells2.1.1, B9.out.cells2.1.2, B10.out.cell 0, B10.out.cell 1, B10.out.cell 2⟩
  clear hK K
  (try simp only [Act.put])
  (try simp only [List.setIfInBounds_toArray])
  (try simp only [List.set_cons_succ])
  (try simp only [List.set_cons_zero])
  refine wpAnyH_ready (rs := [8]) (by kernel_rfl) (by simp) ?_
  refine AllReadyH.cons (o := { dst := some 7, op := Op.assign (Operand.tmp 43), type := 32, pos := "law.go:51", after := #[{ on := 4, ground := Ground.data }, { on := 7, ground := Ground.chain }, { on := 0, ground := Ground.phase }, { on := 1, ground := Ground.phase }, { on := 2, ground := Ground.phase }, { on := 3, ground := Ground.phase }, { on := 4, ground := Ground.phase }, { on := 5, ground := Ground.phase }, { on := 6, ground := Ground.phase }, { on := 7, ground := Ground.phase }], guard := none }) rfl (fun K hK => ?_) AllReadyH.nil
  go_simp
  refine hK.out _ _ ?_ (fun hHeld => ?_)
  · exact ⟨B9.out.cells2.1.1, B9.out.cells2.1.2, B10.out.cell 0, B10.out.cell 1, B10.out.cell 2⟩
  clear hK K
  (try simp only [Act.put])
  (try simp only [List.setIfInBounds_toArray])
  (try simp only [List.set_cons_succ])
  (try simp only [List.set_cons_zero])
  refine wpAnyH_done (by kernel_rfl) ?_ _
  obtain ⟨⟨m0, m1⟩, -⟩ := R4.out.cells2
  obtain ⟨⟨k0, k1, k2⟩, -⟩ := R5.out.cells3
  have F2 := BB.out
  go_wp2
  refine bodyPost_ret (v := .tuple #[.agg #[.slice y1 np np, .slice y2 nv nv], .agg #[.int .i64 0, .int .u32 0, .int .u32 0], .bool false, .int .i64 er]) (by simp [results, Try.f14, go_sem, m0, m1, k0, k1, k2]) rfl ?_
  exact ⟨rfl, F2⟩

set_option maxRecDepth 100000 in
set_option maxHeartbeats 3200000 in
theorem do_err3 (y1 y2 : Option Addr) (np nv : Nat) (t at_ : Int) (oa ob oc na nb nc z : Int) (w : World) (p0 : -9223372036854775808 ≤ at_) (p1 : at_ < 9223372036854775808) (he : errOf np nv t at_ ≠ 0) :
    Calls Try.prog 14 #[.agg #[.slice y1 np np, .slice y2 nv nv], .agg #[.int .i64 t, .int .i64 3, .int .i64 at_, .int .i64 oa, .int .u32 ob, .int .u32 oc, .int .i64 na, .int .u32 nb, .int .u32 nc, .int .i64 z]] w fun e w' => e = .returned (.tuple #[.agg #[.slice y1 np np, .slice y2 nv nv], .agg #[.int .i64 0, .int .u32 0, .int .u32 0], .bool false, .int .i64 (errOf np nv t at_)]) ∧ Below w.heap.size w w' := by
  have hz : (errOf np nv t at_ == 0) = false := by simpa using he
  obtain ⟨er, her⟩ : ∃ e, errOf np nv t at_ = e := ⟨_, rfl⟩
  have HER := Lib.hid her
  have HE : Hid (errOf np nv t at_ ≠ 0) := Lib.hid he
  rw [her] at hz ⊢
  clear her he
  have B2 := Lib.hid (Box.alloc (Box.alloc (Box.alloc (Box.new w #[.slice y1 np np, .slice y2 nv nv] 31 (n := w.heap.size) (by simp)) (.cells #[.int .i64 t, .int .i64 3, .int .i64 at_, .int .i64 oa, .int .u32 ob, .int .u32 oc, .int .i64 na, .int .u32 nb, .int .u32 nc, .int .i64 z] 49)) (.cells #[.slice none 0 0, .slice none 0 0] 31)) (.cells #[.int .i64 0, .int .u32 0, .int .u32 0] 45))
  have B3 := Lib.hid (Box.alloc (Box.alloc (Box.new (w.alloc (.cells #[.slice y1 np np, .slice y2 nv nv] 31)) #[.int .i64 t, .int .i64 3, .int .i64 at_, .int .i64 oa, .int .u32 ob, .int .u32 oc, .int .i64 na, .int .u32 nb, .int .u32 nc, .int .i64 z] 49 (n := w.heap.size + 1) (by simp)) (.cells #[.slice none 0 0, .slice none 0 0] 31)) (.cells #[.int .i64 0, .int .u32 0, .int .u32 0] 45))
  have R4 := Lib.hid (Box.alloc (Box.new ((w.alloc (.cells #[.slice y1 np np, .slice y2 nv nv] 31)).alloc (.cells #[.int .i64 t, .int .i64 3, .int .i64 at_, .int .i64 oa, .int .u32 ob, .int .u32 oc, .int .i64 na, .int .u32 nb, .int .u32 nc, .int .i64 z] 49)) #[.slice none 0 0, .slice none 0 0] 31 (n := w.heap.size + 1 + 1) (by simp)) (.cells #[.int .i64 0, .int .u32 0, .int .u32 0] 45))
  have R5 := Lib.hid (Box.new (((w.alloc (.cells #[.slice y1 np np, .slice y2 nv nv] 31)).alloc (.cells #[.int .i64 t, .int .i64 3, .int .i64 at_, .int .i64 oa, .int .u32 ob, .int .u32 oc, .int .i64 na, .int .u32 nb, .int .u32 nc, .int .i64 z] 49)).alloc (.cells #[.slice none 0 0, .slice none 0 0] 31)) #[.int .i64 0, .int .u32 0, .int .u32 0] 45 (n := w.heap.size + 1 + 1 + 1) (by simp))
  have BB := Lib.hid (((((Below.refl w.heap.size w).alloc (by simp <;> omega) (.cells #[.slice y1 np np, .slice y2 nv nv] 31)).alloc (by simp <;> omega) (.cells #[.int .i64 t, .int .i64 3, .int .i64 at_, .int .i64 oa, .int .u32 ob, .int .u32 oc, .int .i64 na, .int .u32 nb, .int .u32 nc, .int .i64 z] 49)).alloc (by simp <;> omega) (.cells #[.slice none 0 0, .slice none 0 0] 31)).alloc (by simp <;> omega) (.cells #[.int .i64 0, .int .u32 0, .int .u32 0] 45))
  go_enter Try.func14, Try.ntmps14
  go_upto_region 1 with fail
  generalize ((((w.alloc (.cells #[.slice y1 np np, .slice y2 nv nv] 31)).alloc (.cells #[.int .i64 t, .int .i64 3, .int .i64 at_, .int .i64 oa, .int .u32 ob, .int .u32 oc, .int .i64 na, .int .u32 nb, .int .u32 nc, .int .i64 z] 49)).alloc (.cells #[.slice none 0 0, .slice none 0 0] 31)).alloc (.cells #[.int .i64 0, .int .u32 0, .int .u32 0] 45)) = W0 at *
  obtain ⟨b5, hb5⟩ : ∃ b, w.heap.size + 1 + 1 + 1 = b := ⟨_, rfl⟩
  obtain ⟨b4, hb4⟩ : ∃ b, w.heap.size + 1 + 1 = b := ⟨_, rfl⟩
  obtain ⟨b3, hb3⟩ : ∃ b, w.heap.size + 1 = b := ⟨_, rfl⟩
  obtain ⟨b2, hb2⟩ : ∃ b, w.heap.size = b := ⟨_, rfl⟩
  have hbq := hb2
  rw [hb5] at R5 ⊢
  rw [hb4] at R4 hb5 ⊢
  rw [hb3] at B3 hb4 ⊢
  rw [hb2] at B2 hb3 ⊢
  obtain ⟨d0, d1, d2, d3, d4, d5, d6, d7, d8, d9⟩ := B3.out.all10
  go_upto_region 2 with fail
  clear d0 d1 d2 d3 d4 d5 d6 d7 d8 d9
  have hlt_b8 := BB.out.size
  have hlt_b8_B2 := B2.out.lt
  have hlt_b8_B3 := B3.out.lt
  have hlt_b8_R4 := R4.out.lt
  have hlt_b8_R5 := R5.out.lt
  have B2' := Lib.hid (B2.out.below (below_new W0 (.cells #[.int .i64 3, .int .i64 at_, .int .i64 oa, .int .u32 ob, .int .u32 oc, .int .i64 na, .int .u32 nb, .int .u32 nc] 47)))
  have B3' := Lib.hid (B3.out.below (below_new W0 (.cells #[.int .i64 3, .int .i64 at_, .int .i64 oa, .int .u32 ob, .int .u32 oc, .int .i64 na, .int .u32 nb, .int .u32 nc] 47)))
  have R4' := Lib.hid (R4.out.below (below_new W0 (.cells #[.int .i64 3, .int .i64 at_, .int .i64 oa, .int .u32 ob, .int .u32 oc, .int .i64 na, .int .u32 nb, .int .u32 nc] 47)))
  have R5' := Lib.hid (R5.out.below (below_new W0 (.cells #[.int .i64 3, .int .i64 at_, .int .i64 oa, .int .u32 ob, .int .u32 oc, .int .i64 na, .int .u32 nb, .int .u32 nc] 47)))
  have BB' := Lib.hid (BB.out.trans ((below_new W0 (.cells #[.int .i64 3, .int .i64 at_, .int .i64 oa, .int .u32 ob, .int .u32 oc, .int .i64 na, .int .u32 nb, .int .u32 nc] 47)).mono BB.out.size))
  clear B2
  have B2 := B2'
  clear B2'
  clear B3
  have B3 := B3'
  clear B3'
  clear R4
  have R4 := R4'
  clear R4'
  clear R5
  have R5 := R5'
  clear R5'
  clear BB
  have BB := BB'
  clear BB'
  have B8 := Lib.hid (Box.new W0 #[.int .i64 3, .int .i64 at_, .int .i64 oa, .int .u32 ob, .int .u32 oc, .int .i64 na, .int .u32 nb, .int .u32 nc] 47 rfl)
  have hsz_b8 : (World.alloc W0 (.cells #[.int .i64 3, .int .i64 at_, .int .i64 oa, .int .u32 ob, .int .u32 oc, .int .i64 na, .int .u32 nb, .int .u32 nc] 47)).heap.size = (World.heap W0).size + 1 := by simp
  generalize World.alloc W0 (.cells #[.int .i64 3, .int .i64 at_, .int .i64 oa, .int .u32 ob, .int .u32 oc, .int .i64 na, .int .u32 nb, .int .u32 nc] 47) = a0 at *
  generalize World.heap W0 = hp_b8 at *
  generalize hp_b8.size = b8 at *
  obtain ⟨d0, d1, d2, d3, d4, d5, d6, d7, d8, d9⟩ := B3.out.all10
  obtain ⟨e0, e1, e2, e3, e4, e5, e6, e7⟩ := B8.out.all8
  obtain ⟨⟨m0, m1⟩, -⟩ := B2.out.cells2
  go_wp2_with fail
  clear d0 d1 d2 d3 d4 d5 d6 d7 d8 d9 e0 e1 e2 e3 e4 e5 e6 e7 m0 m1
  have q4 := R4.out.lt
  have q5 := R5.out.lt
  refine (store_err y1 y2 np nv t at_ na nb nc false _ p0 p1 HE.out).mono ?_
  rintro e a1 ⟨rfl, hb⟩
  have B2' := Lib.hid (B2.out.below (hb))
  have B3' := Lib.hid (B3.out.below (hb))
  have R4' := Lib.hid (R4.out.below (hb))
  have R5' := Lib.hid (R5.out.below (hb))
  have B8' := Lib.hid (B8.out.below (hb))
  have BB' := Lib.hid (BB.out.trans ((hb).mono BB.out.size))
  clear B2
  have B2 := B2'
  clear B2'
  clear B3
  have B3 := B3'
  clear B3'
  clear R4
  have R4 := R4'
  clear R4'
  clear R5
  have R5 := R5'
  clear R5'
  clear B8
  have B8 := B8'
  clear B8'
  clear BB
  have BB := BB'
  clear BB'
  clear hb
  rw [HER.out]
  go_upto_region 10 with fail
  have hlt_b12 := BB.out.size
  have hlt_b12_B2 := B2.out.lt
  have hlt_b12_B3 := B3.out.lt
  have hlt_b12_R4 := R4.out.lt
  have hlt_b12_R5 := R5.out.lt
  have hlt_b12_B8 := B8.out.lt
  have B2' := Lib.hid (B2.out.below (below_new a1 (.cells #[.slice y1 np np, .slice y2 nv nv] 31)))
  have B3' := Lib.hid (B3.out.below (below_new a1 (.cells #[.slice y1 np np, .slice y2 nv nv] 31)))
  have R4' := Lib.hid (R4.out.below (below_new a1 (.cells #[.slice y1 np np, .slice y2 nv nv] 31)))
  have R5' := Lib.hid (R5.out.below (below_new a1 (.cells #[.slice y1 np np, .slice y2 nv nv] 31)))
  have B8' := Lib.hid (B8.out.below (below_new a1 (.cells #[.slice y1 np np, .slice y2 nv nv] 31)))
  have BB' := Lib.hid (BB.out.trans ((below_new a1 (.cells #[.slice y1 np np, .slice y2 nv nv] 31)).mono BB.out.size))
  clear B2
  have B2 := B2'
  clear B2'
  clear B3
  have B3 := B3'
  clear B3'
  clear R4
  have R4 := R4'
  clear R4'
  clear R5
  have R5 := R5'
  clear R5'
  clear B8
  have B8 := B8'
  clear B8'
  clear BB
  have BB := BB'
  clear BB'
  have B12 := Lib.hid (Box.new a1 #[.slice y1 np np, .slice y2 nv nv] 31 rfl)
  have hsz_b12 : (World.alloc a1 (.cells #[.slice y1 np np, .slice y2 nv nv] 31)).heap.size = (World.heap a1).size + 1 := by simp
  generalize World.alloc a1 (.cells #[.slice y1 np np, .slice y2 nv nv] 31) = a2 at *
  generalize World.heap a1 = hp_b12 at *
  generalize hp_b12.size = b12 at *
  obtain ⟨⟨k0, k1⟩, f0, f1⟩ := R4.out.cells2
  have on := ((Only.refl b4 a2).set 0 (.slice y1 np np)).set 1 (.slice y2 nv nv)
  have r5 := R5.out.only (by omega) on
  obtain ⟨⟨q0, q1, q2⟩, s0, s1, s2⟩ := r5.cells3
  have r4 := (R4.out.set 0 (.slice y1 np np)).set 1 (.slice y2 nv nv)
  obtain ⟨⟨d0, d1, d2⟩, -⟩ := (((r5.set 0 (.int .i64 0)).set 1 (.int .u32 0)).set 2 (.int .u32 0)).cells3
  have on2 := (((Only.refl b5 (World.setCell (World.setCell a2 ⟨b4, 0, none⟩ (.slice y1 np np)) ⟨b4, 1, none⟩ (.slice y2 nv nv))).set 0 (.int .i64 0)).set 1 (.int .u32 0)).set 2 (.int .u32 0)
  have r6 := r4.only (by omega) on2
  obtain ⟨⟨e0, e1⟩, -⟩ := Box.cells2 r6
  have F2 := Lib.hid (((((BB.out.put b4 (by omega) 0 (.slice y1 np np)).put b4 (by omega) 1 (.slice y2 nv nv)).put b5 (by omega) 0 (.int .i64 0)).put b5 (by omega) 1 (.int .u32 0)).put b5 (by omega) 2 (.int .u32 0))
  clear on on2 r4 r5 r6
  obtain ⟨⟨m0, m1⟩, -⟩ := B12.out.cells2
  clear B2 B3 R4 R5 B8 B12 BB
  go_wp2
  refine bodyPost_ret (v := .tuple #[.agg #[.slice y1 np np, .slice y2 nv nv], .agg #[.int .i64 0, .int .u32 0, .int .u32 0], .bool false, .int .i64 er]) (by simp [results, Try.f14, go_sem, e0, e1, d0, d1, d2]) rfl ?_
  exact ⟨rfl, F2.out⟩

set_option maxRecDepth 100000 in
set_option maxHeartbeats 3200000 in
theorem do_err4 (y1 y2 : Option Addr) (np nv : Nat) (t at_ : Int) (oa ob oc na nb nc z : Int) (w : World) (p0 : -9223372036854775808 ≤ at_) (p1 : at_ < 9223372036854775808) (he : errOf np nv t at_ ≠ 0) :
    Calls Try.prog 14 #[.agg #[.slice y1 np np, .slice y2 nv nv], .agg #[.int .i64 t, .int .i64 4, .int .i64 at_, .int .i64 oa, .int .u32 ob, .int .u32 oc, .int .i64 na, .int .u32 nb, .int .u32 nc, .int .i64 z]] w fun e w' => e = .returned (.tuple #[.agg #[.slice y1 np np, .slice y2 nv nv], .agg #[.int .i64 0, .int .u32 0, .int .u32 0], .bool false, .int .i64 (errOf np nv t at_)]) ∧ Below w.heap.size w w' := by
  have hz : (errOf np nv t at_ == 0) = false := by simpa using he
  obtain ⟨er, her⟩ : ∃ e, errOf np nv t at_ = e := ⟨_, rfl⟩
  have HER := Lib.hid her
  have HE : Hid (errOf np nv t at_ ≠ 0) := Lib.hid he
  rw [her] at hz ⊢
  clear her he
  have B2 := Lib.hid (Box.alloc (Box.alloc (Box.alloc (Box.new w #[.slice y1 np np, .slice y2 nv nv] 31 (n := w.heap.size) (by simp)) (.cells #[.int .i64 t, .int .i64 4, .int .i64 at_, .int .i64 oa, .int .u32 ob, .int .u32 oc, .int .i64 na, .int .u32 nb, .int .u32 nc, .int .i64 z] 49)) (.cells #[.slice none 0 0, .slice none 0 0] 31)) (.cells #[.int .i64 0, .int .u32 0, .int .u32 0] 45))
  have B3 := Lib.hid (Box.alloc (Box.alloc (Box.new (w.alloc (.cells #[.slice y1 np np, .slice y2 nv nv] 31)) #[.int .i64 t, .int .i64 4, .int .i64 at_, .int .i64 oa, .int .u32 ob, .int .u32 oc, .int .i64 na, .int .u32 nb, .int .u32 nc, .int .i64 z] 49 (n := w.heap.size + 1) (by simp)) (.cells #[.slice none 0 0, .slice none 0 0] 31)) (.cells #[.int .i64 0, .int .u32 0, .int .u32 0] 45))
  have R4 := Lib.hid (Box.alloc (Box.new ((w.alloc (.cells #[.slice y1 np np, .slice y2 nv nv] 31)).alloc (.cells #[.int .i64 t, .int .i64 4, .int .i64 at_, .int .i64 oa, .int .u32 ob, .int .u32 oc, .int .i64 na, .int .u32 nb, .int .u32 nc, .int .i64 z] 49)) #[.slice none 0 0, .slice none 0 0] 31 (n := w.heap.size + 1 + 1) (by simp)) (.cells #[.int .i64 0, .int .u32 0, .int .u32 0] 45))
  have R5 := Lib.hid (Box.new (((w.alloc (.cells #[.slice y1 np np, .slice y2 nv nv] 31)).alloc (.cells #[.int .i64 t, .int .i64 4, .int .i64 at_, .int .i64 oa, .int .u32 ob, .int .u32 oc, .int .i64 na, .int .u32 nb, .int .u32 nc, .int .i64 z] 49)).alloc (.cells #[.slice none 0 0, .slice none 0 0] 31)) #[.int .i64 0, .int .u32 0, .int .u32 0] 45 (n := w.heap.size + 1 + 1 + 1) (by simp))
  have BB := Lib.hid (((((Below.refl w.heap.size w).alloc (by simp <;> omega) (.cells #[.slice y1 np np, .slice y2 nv nv] 31)).alloc (by simp <;> omega) (.cells #[.int .i64 t, .int .i64 4, .int .i64 at_, .int .i64 oa, .int .u32 ob, .int .u32 oc, .int .i64 na, .int .u32 nb, .int .u32 nc, .int .i64 z] 49)).alloc (by simp <;> omega) (.cells #[.slice none 0 0, .slice none 0 0] 31)).alloc (by simp <;> omega) (.cells #[.int .i64 0, .int .u32 0, .int .u32 0] 45))
  go_enter Try.func14, Try.ntmps14
  go_upto_region 1 with fail
  generalize ((((w.alloc (.cells #[.slice y1 np np, .slice y2 nv nv] 31)).alloc (.cells #[.int .i64 t, .int .i64 4, .int .i64 at_, .int .i64 oa, .int .u32 ob, .int .u32 oc, .int .i64 na, .int .u32 nb, .int .u32 nc, .int .i64 z] 49)).alloc (.cells #[.slice none 0 0, .slice none 0 0] 31)).alloc (.cells #[.int .i64 0, .int .u32 0, .int .u32 0] 45)) = W0 at *
  obtain ⟨b5, hb5⟩ : ∃ b, w.heap.size + 1 + 1 + 1 = b := ⟨_, rfl⟩
  obtain ⟨b4, hb4⟩ : ∃ b, w.heap.size + 1 + 1 = b := ⟨_, rfl⟩
  obtain ⟨b3, hb3⟩ : ∃ b, w.heap.size + 1 = b := ⟨_, rfl⟩
  obtain ⟨b2, hb2⟩ : ∃ b, w.heap.size = b := ⟨_, rfl⟩
  have hbq := hb2
  rw [hb5] at R5 ⊢
  rw [hb4] at R4 hb5 ⊢
  rw [hb3] at B3 hb4 ⊢
  rw [hb2] at B2 hb3 ⊢
  obtain ⟨d0, d1, d2, d3, d4, d5, d6, d7, d8, d9⟩ := B3.out.all10
  go_upto_region 2 with fail
  clear d0 d1 d2 d3 d4 d5 d6 d7 d8 d9
  have hlt_b8 := BB.out.size
  have hlt_b8_B2 := B2.out.lt
  have hlt_b8_B3 := B3.out.lt
  have hlt_b8_R4 := R4.out.lt
  have hlt_b8_R5 := R5.out.lt
  have B2' := Lib.hid (B2.out.below (below_new W0 (.cells #[.int .i64 4, .int .i64 at_, .int .i64 oa, .int .u32 ob, .int .u32 oc, .int .i64 na, .int .u32 nb, .int .u32 nc] 47)))
  have B3' := Lib.hid (B3.out.below (below_new W0 (.cells #[.int .i64 4, .int .i64 at_, .int .i64 oa, .int .u32 ob, .int .u32 oc, .int .i64 na, .int .u32 nb, .int .u32 nc] 47)))
  have R4' := Lib.hid (R4.out.below (below_new W0 (.cells #[.int .i64 4, .int .i64 at_, .int .i64 oa, .int .u32 ob, .int .u32 oc, .int .i64 na, .int .u32 nb, .int .u32 nc] 47)))
  have R5' := Lib.hid (R5.out.below (below_new W0 (.cells #[.int .i64 4, .int .i64 at_, .int .i64 oa, .int .u32 ob, .int .u32 oc, .int .i64 na, .int .u32 nb, .int .u32 nc] 47)))
  have BB' := Lib.hid (BB.out.trans ((below_new W0 (.cells #[.int .i64 4, .int .i64 at_, .int .i64 oa, .int .u32 ob, .int .u32 oc, .int .i64 na, .int .u32 nb, .int .u32 nc] 47)).mono BB.out.size))
  clear B2
  have B2 := B2'
  clear B2'
  clear B3
  have B3 := B3'
  clear B3'
  clear R4
  have R4 := R4'
  clear R4'
  clear R5
  have R5 := R5'
  clear R5'
  clear BB
  have BB := BB'
  clear BB'
  have B8 := Lib.hid (Box.new W0 #[.int .i64 4, .int .i64 at_, .int .i64 oa, .int .u32 ob, .int .u32 oc, .int .i64 na, .int .u32 nb, .int .u32 nc] 47 rfl)
  have hsz_b8 : (World.alloc W0 (.cells #[.int .i64 4, .int .i64 at_, .int .i64 oa, .int .u32 ob, .int .u32 oc, .int .i64 na, .int .u32 nb, .int .u32 nc] 47)).heap.size = (World.heap W0).size + 1 := by simp
  generalize World.alloc W0 (.cells #[.int .i64 4, .int .i64 at_, .int .i64 oa, .int .u32 ob, .int .u32 oc, .int .i64 na, .int .u32 nb, .int .u32 nc] 47) = a0 at *
  generalize World.heap W0 = hp_b8 at *
  generalize hp_b8.size = b8 at *
  obtain ⟨d0, d1, d2, d3, d4, d5, d6, d7, d8, d9⟩ := B3.out.all10
  obtain ⟨e0, e1, e2, e3, e4, e5, e6, e7⟩ := B8.out.all8
  obtain ⟨⟨m0, m1⟩, -⟩ := B2.out.cells2
  go_wp2_with fail
  clear d0 d1 d2 d3 d4 d5 d6 d7 d8 d9 e0 e1 e2 e3 e4 e5 e6 e7 m0 m1
  have q4 := R4.out.lt
  have q5 := R5.out.lt
  refine (store_err y1 y2 np nv t at_ na nb nc true _ p0 p1 HE.out).mono ?_
  rintro e a1 ⟨rfl, hb⟩
  have B2' := Lib.hid (B2.out.below (hb))
  have B3' := Lib.hid (B3.out.below (hb))
  have R4' := Lib.hid (R4.out.below (hb))
  have R5' := Lib.hid (R5.out.below (hb))
  have B8' := Lib.hid (B8.out.below (hb))
  have BB' := Lib.hid (BB.out.trans ((hb).mono BB.out.size))
  clear B2
  have B2 := B2'
  clear B2'
  clear B3
  have B3 := B3'
  clear B3'
  clear R4
  have R4 := R4'
  clear R4'
  clear R5
  have R5 := R5'
  clear R5'
  clear B8
  have B8 := B8'
  clear B8'
  clear BB
  have BB := BB'
  clear BB'
  clear hb
  rw [HER.out]
  go_upto_region 10 with fail
  have hlt_b12 := BB.out.size
  have hlt_b12_B2 := B2.out.lt
  have hlt_b12_B3 := B3.out.lt
  have hlt_b12_R4 := R4.out.lt
  have hlt_b12_R5 := R5.out.lt
  have hlt_b12_B8 := B8.out.lt
  have B2' := Lib.hid (B2.out.below (below_new a1 (.cells #[.slice y1 np np, .slice y2 nv nv] 31)))
  have B3' := Lib.hid (B3.out.below (below_new a1 (.cells #[.slice y1 np np, .slice y2 nv nv] 31)))
  have R4' := Lib.hid (R4.out.below (below_new a1 (.cells #[.slice y1 np np, .slice y2 nv nv] 31)))
  have R5' := Lib.hid (R5.out.below (below_new a1 (.cells #[.slice y1 np np, .slice y2 nv nv] 31)))
  have B8' := Lib.hid (B8.out.below (below_new a1 (.cells #[.slice y1 np np, .slice y2 nv nv] 31)))
  have BB' := Lib.hid (BB.out.trans ((below_new a1 (.cells #[.slice y1 np np, .slice y2 nv nv] 31)).mono BB.out.size))
  clear B2
  have B2 := B2'
  clear B2'
  clear B3
  have B3 := B3'
  clear B3'
  clear R4
  have R4 := R4'
  clear R4'
  clear R5
  have R5 := R5'
  clear R5'
  clear B8
  have B8 := B8'
  clear B8'
  clear BB
  have BB := BB'
  clear BB'
  have B12 := Lib.hid (Box.new a1 #[.slice y1 np np, .slice y2 nv nv] 31 rfl)
  have hsz_b12 : (World.alloc a1 (.cells #[.slice y1 np np, .slice y2 nv nv] 31)).heap.size = (World.heap a1).size + 1 := by simp
  generalize World.alloc a1 (.cells #[.slice y1 np np, .slice y2 nv nv] 31) = a2 at *
  generalize World.heap a1 = hp_b12 at *
  generalize hp_b12.size = b12 at *
  obtain ⟨⟨k0, k1⟩, f0, f1⟩ := R4.out.cells2
  have on := ((Only.refl b4 a2).set 0 (.slice y1 np np)).set 1 (.slice y2 nv nv)
  have r5 := R5.out.only (by omega) on
  obtain ⟨⟨q0, q1, q2⟩, s0, s1, s2⟩ := r5.cells3
  have r4 := (R4.out.set 0 (.slice y1 np np)).set 1 (.slice y2 nv nv)
  obtain ⟨⟨d0, d1, d2⟩, -⟩ := (((r5.set 0 (.int .i64 0)).set 1 (.int .u32 0)).set 2 (.int .u32 0)).cells3
  have on2 := (((Only.refl b5 (World.setCell (World.setCell a2 ⟨b4, 0, none⟩ (.slice y1 np np)) ⟨b4, 1, none⟩ (.slice y2 nv nv))).set 0 (.int .i64 0)).set 1 (.int .u32 0)).set 2 (.int .u32 0)
  have r6 := r4.only (by omega) on2
  obtain ⟨⟨e0, e1⟩, -⟩ := Box.cells2 r6
  have F2 := Lib.hid (((((BB.out.put b4 (by omega) 0 (.slice y1 np np)).put b4 (by omega) 1 (.slice y2 nv nv)).put b5 (by omega) 0 (.int .i64 0)).put b5 (by omega) 1 (.int .u32 0)).put b5 (by omega) 2 (.int .u32 0))
  clear on on2 r4 r5 r6
  obtain ⟨⟨m0, m1⟩, -⟩ := B12.out.cells2
  clear B2 B3 R4 R5 B8 B12 BB
  go_wp2
  refine bodyPost_ret (v := .tuple #[.agg #[.slice y1 np np, .slice y2 nv nv], .agg #[.int .i64 0, .int .u32 0, .int .u32 0], .bool false, .int .i64 er]) (by simp [results, Try.f14, go_sem, e0, e1, d0, d1, d2]) rfl ?_
  exact ⟨rfl, F2.out⟩

set_option maxRecDepth 100000 in
set_option maxHeartbeats 3200000 in
theorem do_err5 (y1 y2 : Option Addr) (np nv : Nat) (t at_ : Int) (oa ob oc na nb nc z : Int) (w : World) (p0 : -9223372036854775808 ≤ at_) (p1 : at_ < 9223372036854775808) (he : errOf np nv t at_ ≠ 0) :
    Calls Try.prog 14 #[.agg #[.slice y1 np np, .slice y2 nv nv], .agg #[.int .i64 t, .int .i64 5, .int .i64 at_, .int .i64 oa, .int .u32 ob, .int .u32 oc, .int .i64 na, .int .u32 nb, .int .u32 nc, .int .i64 z]] w fun e w' => e = .returned (.tuple #[.agg #[.slice y1 np np, .slice y2 nv nv], .agg #[.int .i64 0, .int .u32 0, .int .u32 0], .bool false, .int .i64 (errOf np nv t at_)]) ∧ Below w.heap.size w w' := by
  have hz : (errOf np nv t at_ == 0) = false := by simpa using he
  obtain ⟨er, her⟩ : ∃ e, errOf np nv t at_ = e := ⟨_, rfl⟩
  have HER := Lib.hid her
  have HE : Hid (errOf np nv t at_ ≠ 0) := Lib.hid he
  rw [her] at hz ⊢
  clear her he
  have B2 := Lib.hid (Box.alloc (Box.alloc (Box.alloc (Box.new w #[.slice y1 np np, .slice y2 nv nv] 31 (n := w.heap.size) (by simp)) (.cells #[.int .i64 t, .int .i64 5, .int .i64 at_, .int .i64 oa, .int .u32 ob, .int .u32 oc, .int .i64 na, .int .u32 nb, .int .u32 nc, .int .i64 z] 49)) (.cells #[.slice none 0 0, .slice none 0 0] 31)) (.cells #[.int .i64 0, .int .u32 0, .int .u32 0] 45))
  have B3 := Lib.hid (Box.alloc (Box.alloc (Box.new (w.alloc (.cells #[.slice y1 np np, .slice y2 nv nv] 31)) #[.int .i64 t, .int .i64 5, .int .i64 at_, .int .i64 oa, .int .u32 ob, .int .u32 oc, .int .i64 na, .int .u32 nb, .int .u32 nc, .int .i64 z] 49 (n := w.heap.size + 1) (by simp)) (.cells #[.slice none 0 0, .slice none 0 0] 31)) (.cells #[.int .i64 0, .int .u32 0, .int .u32 0] 45))
  have R4 := Lib.hid (Box.alloc (Box.new ((w.alloc (.cells #[.slice y1 np np, .slice y2 nv nv] 31)).alloc (.cells #[.int .i64 t, .int .i64 5, .int .i64 at_, .int .i64 oa, .int .u32 ob, .int .u32 oc, .int .i64 na, .int .u32 nb, .int .u32 nc, .int .i64 z] 49)) #[.slice none 0 0, .slice none 0 0] 31 (n := w.heap.size + 1 + 1) (by simp)) (.cells #[.int .i64 0, .int .u32 0, .int .u32 0] 45))
  have R5 := Lib.hid (Box.new (((w.alloc (.cells #[.slice y1 np np, .slice y2 nv nv] 31)).alloc (.cells #[.int .i64 t, .int .i64 5, .int .i64 at_, .int .i64 oa, .int .u32 ob, .int .u32 oc, .int .i64 na, .int .u32 nb, .int .u32 nc, .int .i64 z] 49)).alloc (.cells #[.slice none 0 0, .slice none 0 0] 31)) #[.int .i64 0, .int .u32 0, .int .u32 0] 45 (n := w.heap.size + 1 + 1 + 1) (by simp))
  have BB := Lib.hid (((((Below.refl w.heap.size w).alloc (by simp <;> omega) (.cells #[.slice y1 np np, .slice y2 nv nv] 31)).alloc (by simp <;> omega) (.cells #[.int .i64 t, .int .i64 5, .int .i64 at_, .int .i64 oa, .int .u32 ob, .int .u32 oc, .int .i64 na, .int .u32 nb, .int .u32 nc, .int .i64 z] 49)).alloc (by simp <;> omega) (.cells #[.slice none 0 0, .slice none 0 0] 31)).alloc (by simp <;> omega) (.cells #[.int .i64 0, .int .u32 0, .int .u32 0] 45))
  go_enter Try.func14, Try.ntmps14
  go_upto_region 1 with fail
  generalize ((((w.alloc (.cells #[.slice y1 np np, .slice y2 nv nv] 31)).alloc (.cells #[.int .i64 t, .int .i64 5, .int .i64 at_, .int .i64 oa, .int .u32 ob, .int .u32 oc, .int .i64 na, .int .u32 nb, .int .u32 nc, .int .i64 z] 49)).alloc (.cells #[.slice none 0 0, .slice none 0 0] 31)).alloc (.cells #[.int .i64 0, .int .u32 0, .int .u32 0] 45)) = W0 at *
  obtain ⟨b5, hb5⟩ : ∃ b, w.heap.size + 1 + 1 + 1 = b := ⟨_, rfl⟩
  obtain ⟨b4, hb4⟩ : ∃ b, w.heap.size + 1 + 1 = b := ⟨_, rfl⟩
  obtain ⟨b3, hb3⟩ : ∃ b, w.heap.size + 1 = b := ⟨_, rfl⟩
  obtain ⟨b2, hb2⟩ : ∃ b, w.heap.size = b := ⟨_, rfl⟩
  have hbq := hb2
  rw [hb5] at R5 ⊢
  rw [hb4] at R4 hb5 ⊢
  rw [hb3] at B3 hb4 ⊢
  rw [hb2] at B2 hb3 ⊢
  obtain ⟨d0, d1, d2, d3, d4, d5, d6, d7, d8, d9⟩ := B3.out.all10
  go_upto_region 2 with fail
  clear d0 d1 d2 d3 d4 d5 d6 d7 d8 d9
  have hlt_b8 := BB.out.size
  have hlt_b8_B2 := B2.out.lt
  have hlt_b8_B3 := B3.out.lt
  have hlt_b8_R4 := R4.out.lt
  have hlt_b8_R5 := R5.out.lt
  have B2' := Lib.hid (B2.out.below (below_new W0 (.cells #[.int .i64 5, .int .i64 at_, .int .i64 oa, .int .u32 ob, .int .u32 oc, .int .i64 na, .int .u32 nb, .int .u32 nc] 47)))
  have B3' := Lib.hid (B3.out.below (below_new W0 (.cells #[.int .i64 5, .int .i64 at_, .int .i64 oa, .int .u32 ob, .int .u32 oc, .int .i64 na, .int .u32 nb, .int .u32 nc] 47)))
  have R4' := Lib.hid (R4.out.below (below_new W0 (.cells #[.int .i64 5, .int .i64 at_, .int .i64 oa, .int .u32 ob, .int .u32 oc, .int .i64 na, .int .u32 nb, .int .u32 nc] 47)))
  have R5' := Lib.hid (R5.out.below (below_new W0 (.cells #[.int .i64 5, .int .i64 at_, .int .i64 oa, .int .u32 ob, .int .u32 oc, .int .i64 na, .int .u32 nb, .int .u32 nc] 47)))
  have BB' := Lib.hid (BB.out.trans ((below_new W0 (.cells #[.int .i64 5, .int .i64 at_, .int .i64 oa, .int .u32 ob, .int .u32 oc, .int .i64 na, .int .u32 nb, .int .u32 nc] 47)).mono BB.out.size))
  clear B2
  have B2 := B2'
  clear B2'
  clear B3
  have B3 := B3'
  clear B3'
  clear R4
  have R4 := R4'
  clear R4'
  clear R5
  have R5 := R5'
  clear R5'
  clear BB
  have BB := BB'
  clear BB'
  have B8 := Lib.hid (Box.new W0 #[.int .i64 5, .int .i64 at_, .int .i64 oa, .int .u32 ob, .int .u32 oc, .int .i64 na, .int .u32 nb, .int .u32 nc] 47 rfl)
  have hsz_b8 : (World.alloc W0 (.cells #[.int .i64 5, .int .i64 at_, .int .i64 oa, .int .u32 ob, .int .u32 oc, .int .i64 na, .int .u32 nb, .int .u32 nc] 47)).heap.size = (World.heap W0).size + 1 := by simp
  generalize World.alloc W0 (.cells #[.int .i64 5, .int .i64 at_, .int .i64 oa, .int .u32 ob, .int .u32 oc, .int .i64 na, .int .u32 nb, .int .u32 nc] 47) = a0 at *
  generalize World.heap W0 = hp_b8 at *
  generalize hp_b8.size = b8 at *
  obtain ⟨d0, d1, d2, d3, d4, d5, d6, d7, d8, d9⟩ := B3.out.all10
  obtain ⟨e0, e1, e2, e3, e4, e5, e6, e7⟩ := B8.out.all8
  obtain ⟨⟨m0, m1⟩, -⟩ := B2.out.cells2
  go_wp2_with fail
  clear d0 d1 d2 d3 d4 d5 d6 d7 d8 d9 e0 e1 e2 e3 e4 e5 e6 e7 m0 m1
  have q4 := R4.out.lt
  have q5 := R5.out.lt
  refine (look_err y1 y2 np nv t at_ _ p0 p1 HE.out).mono ?_
  rintro e a1 ⟨rfl, hb⟩
  have B2' := Lib.hid (B2.out.below (hb))
  have B3' := Lib.hid (B3.out.below (hb))
  have R4' := Lib.hid (R4.out.below (hb))
  have R5' := Lib.hid (R5.out.below (hb))
  have B8' := Lib.hid (B8.out.below (hb))
  have BB' := Lib.hid (BB.out.trans ((hb).mono BB.out.size))
  clear B2
  have B2 := B2'
  clear B2'
  clear B3
  have B3 := B3'
  clear B3'
  clear R4
  have R4 := R4'
  clear R4'
  clear R5
  have R5 := R5'
  clear R5'
  clear B8
  have B8 := B8'
  clear B8'
  clear BB
  have BB := BB'
  clear BB'
  clear hb
  rw [HER.out]
  go_upto_region 13 with fail
  have hlt_b9 := BB.out.size
  have hlt_b9_B2 := B2.out.lt
  have hlt_b9_B3 := B3.out.lt
  have hlt_b9_R4 := R4.out.lt
  have hlt_b9_R5 := R5.out.lt
  have hlt_b9_B8 := B8.out.lt
  have B2' := Lib.hid (B2.out.below (below_new a1 (.cells #[.slice y1 np np, .slice y2 nv nv] 31)))
  have B3' := Lib.hid (B3.out.below (below_new a1 (.cells #[.slice y1 np np, .slice y2 nv nv] 31)))
  have R4' := Lib.hid (R4.out.below (below_new a1 (.cells #[.slice y1 np np, .slice y2 nv nv] 31)))
  have R5' := Lib.hid (R5.out.below (below_new a1 (.cells #[.slice y1 np np, .slice y2 nv nv] 31)))
  have B8' := Lib.hid (B8.out.below (below_new a1 (.cells #[.slice y1 np np, .slice y2 nv nv] 31)))
  have BB' := Lib.hid (BB.out.trans ((below_new a1 (.cells #[.slice y1 np np, .slice y2 nv nv] 31)).mono BB.out.size))
  clear B2
  have B2 := B2'
  clear B2'
  clear B3
  have B3 := B3'
  clear B3'
  clear R4
  have R4 := R4'
  clear R4'
  clear R5
  have R5 := R5'
  clear R5'
  clear B8
  have B8 := B8'
  clear B8'
  clear BB
  have BB := BB'
  clear BB'
  have B9 := Lib.hid (Box.new a1 #[.slice y1 np np, .slice y2 nv nv] 31 rfl)
  have hsz_b9 : (World.alloc a1 (.cells #[.slice y1 np np, .slice y2 nv nv] 31)).heap.size = (World.heap a1).size + 1 := by simp
  generalize World.alloc a1 (.cells #[.slice y1 np np, .slice y2 nv nv] 31) = a2 at *
  generalize World.heap a1 = hp_b9 at *
  generalize hp_b9.size = b9 at *
  have hlt_b10 := BB.out.size
  have B2' := Lib.hid (B2.out.below (below_new a2 (.cells #[.int .i64 0, .int .u32 0, .int .u32 0] 45)))
  have B3' := Lib.hid (B3.out.below (below_new a2 (.cells #[.int .i64 0, .int .u32 0, .int .u32 0] 45)))
  have R4' := Lib.hid (R4.out.below (below_new a2 (.cells #[.int .i64 0, .int .u32 0, .int .u32 0] 45)))
  have R5' := Lib.hid (R5.out.below (below_new a2 (.cells #[.int .i64 0, .int .u32 0, .int .u32 0] 45)))
  have B8' := Lib.hid (B8.out.below (below_new a2 (.cells #[.int .i64 0, .int .u32 0, .int .u32 0] 45)))
  have B9' := Lib.hid (B9.out.below (below_new a2 (.cells #[.int .i64 0, .int .u32 0, .int .u32 0] 45)))
  have BB' := Lib.hid (BB.out.trans ((below_new a2 (.cells #[.int .i64 0, .int .u32 0, .int .u32 0] 45)).mono BB.out.size))
  clear B2
  have B2 := B2'
  clear B2'
  clear B3
  have B3 := B3'
  clear B3'
  clear R4
  have R4 := R4'
  clear R4'
  clear R5
  have R5 := R5'
  clear R5'
  clear B8
  have B8 := B8'
  clear B8'
  clear B9
  have B9 := B9'
  clear B9'
  clear BB
  have BB := BB'
  clear BB'
  have B10 := Lib.hid (Box.new a2 #[.int .i64 0, .int .u32 0, .int .u32 0] 45 (n := b9 + 1) hsz_b9.symm)
  have hsz_b10 : (World.alloc a2 (.cells #[.int .i64 0, .int .u32 0, .int .u32 0] 45)).heap.size = b9 + 1 + 1 := by simp [hsz_b9]
  rw [hsz_b9] at hlt_b10
  generalize World.alloc a2 (.cells #[.int .i64 0, .int .u32 0, .int .u32 0] 45) = a3 at *
  obtain ⟨b10, hq_b10⟩ : ∃ b, b9 + 1 = b := ⟨_, rfl⟩
  rw [hq_b10] at B10 hsz_b10 ⊢
  have B2' := Lib.hid (B2.out.below ((Below.refl _ _).drew))
  have B3' := Lib.hid (B3.out.below ((Below.refl _ _).drew))
  have R4' := Lib.hid (R4.out.below ((Below.refl _ _).drew))
  have R5' := Lib.hid (R5.out.below ((Below.refl _ _).drew))
  have B8' := Lib.hid (B8.out.below ((Below.refl _ _).drew))
  have B9' := Lib.hid (B9.out.below ((Below.refl _ _).drew))
  have B10' := Lib.hid (B10.out.below ((Below.refl _ _).drew))
  have BB' := Lib.hid (BB.out.trans (((Below.refl _ _).drew).mono BB.out.size))
  clear B2
  have B2 := B2'
  clear B2'
  clear B3
  have B3 := B3'
  clear B3'
  clear R4
  have R4 := R4'
  clear R4'
  clear R5
  have R5 := R5'
  clear R5'
  clear B8
  have B8 := B8'
  clear B8'
  clear B9
  have B9 := B9'
  clear B9'
  clear B10
  have B10 := B10'
  clear B10'
  clear BB
  have BB := BB'
  clear BB'
  refine wp_region_held_drew (S := fun w' => w'.cell? ⟨b9, 0, none⟩ = some (.slice y1 np np) ∧ w'.cell? ⟨b9, 1, none⟩ = some (.slice y2 nv nv) ∧ w'.cell? ⟨b10, 0, none⟩ = some (.int .i64 0) ∧ w'.cell? ⟨b10, 1, none⟩ = some (.int .u32 0) ∧ w'.cell? ⟨b10, 2, none⟩ = some (.int .u32 0)) (by kernel_rfl) ⟨B9.out.cells2.1.1, B9.out.cells2.1.2, B10.out.cell 0, B10.out.cell 1, B10.out.cell 2⟩ (fun hHeld => ?_)
  generalize World.drew a3 = V0 at *
  refine wpAnyH_take (i := 0) (oi := { dst := some 78, op := Op.load 31 (Operand.tmp 14), type := 31, pos := "law.go:57", after := #[], guard := none }) (v := ?d1_1xv0) rfl (by kernel_rfl) (by kernel_rfl) (by kernel_rfl) (fun _ _ _ h => h) (Or.inl ⟨by rfl, ?d1_1xy0⟩) (by assumption) ?d1_1xr0
  case d1_1xy0 => (intro w hSw; (try dsimp only at hSw); go_simp; try with_reducible rfl)
  (try simp only [Act.put])
  (try simp only [List.setIfInBounds_toArray])
  (try simp only [List.set_cons_succ])
  (try simp only [List.set_cons_zero])
  refine wpAnyH_take (i := 1) (oi := { dst := some 79, op := Op.load 45 (Operand.tmp 15), type := 45, pos := "law.go:57", after := #[{ on := 5, ground := Ground.gcOnly Departure.lateStores }], guard := none }) (v := ?d1_2xv1) rfl (by kernel_rfl) (by kernel_rfl) (by kernel_rfl) (fun _ _ _ h => h) (Or.inl ⟨by rfl, ?d1_2xy1⟩) (by assumption) ?d1_2xr1
  case d1_2xy1 => (intro w hSw; (try dsimp only at hSw); go_simp; try with_reducible rfl)
  (try simp only [Act.put])
  (try simp only [List.setIfInBounds_toArray])
  (try simp only [List.set_cons_succ])
  (try simp only [List.set_cons_zero])
  refine wpAnyH_take (i := 2) (oi := { dst := some 80, op := Op.move (Operand.tmp 16), type := 32, pos := "law.go:57", after := #[{ on := 6, ground := Ground.gcOnly Departure.lateStores }], guard := none }) (v := ?d1_3xv2) rfl (by kernel_rfl) (by kernel_rfl) (by kernel_rfl) (fun _ _ _ h => h) (Or.inl ⟨by rfl, ?d1_3xy2⟩) (by assumption) ?d1_3xr2
  case d1_3xy2 => (intro w hSw; (try dsimp only at hSw); go_simp; try with_reducible rfl)
  (try simp only [Act.put])
  (try simp only [List.setIfInBounds_toArray])
  (try simp only [List.set_cons_succ])
  (try simp only [List.set_cons_zero])
  refine wpAnyH_take (i := 3) (oi := { dst := some 81, op := Op.binOp BinOp.eql 32 (Operand.tmp 80) (Operand.const (Value.int IntKind.i64 0)) 32, type := 4, pos := "law.go:57", after := #[{ on := 2, ground := Ground.data }, { on := 6, ground := Ground.gcOnly Departure.lateStores }], guard := none }) (v := ?d1_4xv3) rfl (by kernel_rfl) (by kernel_rfl) (by kernel_rfl) (fun _ _ _ h => h) (Or.inl ⟨by rfl, ?d1_4xy3⟩) (by assumption) ?d1_4xr3
  case d1_4xy3 => (intro w hSw; (try dsimp only at hSw); go_simp; try with_reducible rfl)
  (try simp only [Act.put])
  (try simp only [List.setIfInBounds_toArray])
  (try simp only [List.set_cons_succ])
  (try simp only [List.set_cons_zero])
  refine wpAnyH_take (i := 4) (oi := { dst := some 82, op := Op.move (Operand.tmp 16), type := 32, pos := "law.go:57", after := #[{ on := 7, ground := Ground.gcOnly Departure.lateStores }], guard := none }) (v := ?d1_5xv4) rfl (by kernel_rfl) (by kernel_rfl) (by kernel_rfl) (fun _ _ _ h => h) (Or.inl ⟨by rfl, ?d1_5xy4⟩) (by assumption) ?d1_5xr4
  case d1_5xy4 => (intro w hSw; (try dsimp only at hSw); go_simp; try with_reducible rfl)
  (try simp only [Act.put])
  (try simp only [List.setIfInBounds_toArray])
  (try simp only [List.set_cons_succ])
  (try simp only [List.set_cons_zero])
  refine wpAnyH_ready (rs := [5]) (by kernel_rfl) (by simp) ?_
  refine AllReadyH.cons (o := { dst := none, op := Op.store 31 (Operand.tmp 4) (Operand.tmp 78), type := 0, pos := "law.go:57", after := #[{ on := 0, ground := Ground.data }, { on := 0, ground := Ground.phase }, { on := 1, ground := Ground.textOnly Departure.lateStores }, { on := 2, ground := Ground.textOnly Departure.lateStores }, { on := 3, ground := Ground.textOnly Departure.lateStores }, { on := 4, ground := Ground.textOnly Departure.lateStores }], guard := none }) rfl (fun K hK => ?_) AllReadyH.nil
  obtain ⟨⟨m0, m1⟩, g0, g1⟩ := R4.out.cells2
  go_simp
  clear m0 g0 m1 g1
  have B2' := Lib.hid (B2.out.only (by omega) (((Only.refl b4 V0).set 0 (.slice y1 np np)).set 1 (.slice y2 nv nv)))
  have B3' := Lib.hid (B3.out.only (by omega) (((Only.refl b4 V0).set 0 (.slice y1 np np)).set 1 (.slice y2 nv nv)))
  have R4' := Lib.hid (((R4.out).set 0 (.slice y1 np np)).set 1 (.slice y2 nv nv))
  have R5' := Lib.hid (R5.out.only (by omega) (((Only.refl b4 V0).set 0 (.slice y1 np np)).set 1 (.slice y2 nv nv)))
  have B8' := Lib.hid (B8.out.only (by omega) (((Only.refl b4 V0).set 0 (.slice y1 np np)).set 1 (.slice y2 nv nv)))
  have B9' := Lib.hid (B9.out.only (by omega) (((Only.refl b4 V0).set 0 (.slice y1 np np)).set 1 (.slice y2 nv nv)))
  have B10' := Lib.hid (B10.out.only (by omega) (((Only.refl b4 V0).set 0 (.slice y1 np np)).set 1 (.slice y2 nv nv)))
  have BB' := Lib.hid (((BB.out).put b4 (by omega) 0 (.slice y1 np np)).put b4 (by omega) 1 (.slice y2 nv nv))
  clear B2
  have B2 := B2'
  clear B2'
  clear B3
  have B3 := B3'
  clear B3'
  clear R4
  have R4 := R4'
  clear R4'
  clear R5
  have R5 := R5'
  clear R5'
  clear B8
  have B8 := B8'
  clear B8'
  clear B9
  have B9 := B9'
  clear B9'
  clear B10
  have B10 := B10'
  clear B10'
  clear BB
  have BB := BB'
  clear BB'
  generalize (World.setCell (World.setCell V0 ⟨b4, 0, none⟩ (.slice y1 np np)) ⟨b4, 1, none⟩ (.slice y2 nv nv)) = v1 at *
  refine hK.out _ _ ?_ (fun hHeld => ?_)
  · exact ⟨B9.out.cells2.1.1, B9.out.cells2.1.2, B10.out.cell 0, B10.out.cell 1, B10.out.cell 2⟩
  clear hK K
  (try simp only [Act.put])
  (try simp only [List.setIfInBounds_toArray])
  (try simp only [List.set_cons_succ])
  (try simp only [List.set_cons_zero])
  refine wpAnyH_ready (rs := [6]) (by kernel_rfl) (by simp) ?_
  refine AllReadyH.cons (o := { dst := none, op := Op.store 45 (Operand.tmp 5) (Operand.tmp 79), type := 0, pos := "law.go:57", after := #[{ on := 1, ground := Ground.data }, { on := 5, ground := Ground.chain }, { on := 0, ground := Ground.phase }, { on := 1, ground := Ground.phase }, { on := 2, ground := Ground.textOnly Departure.lateStores }, { on := 3, ground := Ground.textOnly Departure.lateStores }, { on := 4, ground := Ground.textOnly Departure.lateStores }, { on := 5, ground := Ground.phase }], guard := none }) rfl (fun K hK => ?_) AllReadyH.nil
  obtain ⟨⟨m0, m1, m2⟩, g0, g1, g2⟩ := R5.out.cells3
  go_simp
  clear m0 g0 m1 g1 m2 g2
  have B2' := Lib.hid (B2.out.only (by omega) ((((Only.refl b5 v1).set 0 (.int .i64 0)).set 1 (.int .u32 0)).set 2 (.int .u32 0)))
  have B3' := Lib.hid (B3.out.only (by omega) ((((Only.refl b5 v1).set 0 (.int .i64 0)).set 1 (.int .u32 0)).set 2 (.int .u32 0)))
  have R4' := Lib.hid (R4.out.only (by omega) ((((Only.refl b5 v1).set 0 (.int .i64 0)).set 1 (.int .u32 0)).set 2 (.int .u32 0)))
  have R5' := Lib.hid ((((R5.out).set 0 (.int .i64 0)).set 1 (.int .u32 0)).set 2 (.int .u32 0))
  have B8' := Lib.hid (B8.out.only (by omega) ((((Only.refl b5 v1).set 0 (.int .i64 0)).set 1 (.int .u32 0)).set 2 (.int .u32 0)))
  have B9' := Lib.hid (B9.out.only (by omega) ((((Only.refl b5 v1).set 0 (.int .i64 0)).set 1 (.int .u32 0)).set 2 (.int .u32 0)))
  have B10' := Lib.hid (B10.out.only (by omega) ((((Only.refl b5 v1).set 0 (.int .i64 0)).set 1 (.int .u32 0)).set 2 (.int .u32 0)))
  have BB' := Lib.hid ((((BB.out).put b5 (by omega) 0 (.int .i64 0)).put b5 (by omega) 1 (.int .u32 0)).put b5 (by omega) 2 (.int .u32 0))
  clear B2
  have B2 := B2'
  clear B2'
  clear B3
  have B3 := B3'
  clear B3'
  clear R4
  have R4 := R4'
  clear R4'
  clear R5
  have R5 := R5'
  clear R5'
  clear B8
  have B8 := B8'
  clear B8'
  clear B9
  have B9 := B9'
  clear B9'
  clear B10
  have B10 := B10'
  clear B10'
  clear BB
  have BB := BB'
  clear BB'
  generalize (World.setCell (World.setCell (World.setCell v1 ⟨b5, 0, none⟩ (.int .i64 0)) ⟨b5, 1, none⟩ (.int .u32 0)) ⟨b5, 2, none⟩ (.int .u32 0)) = v2 at *
  refine hK.out _ _ ?_ (fun hHeld => ?_)
  · exact ⟨B9.out.cells2.1.1, B9.out.cells2.1.2, B10.out.cell 0, B10.out.cell 1, B10.out.cell 2⟩
  clear hK K
  (try simp only [Act.put])
  (try simp only [List.setIfInBounds_toArray])
  (try simp only [List.set_cons_succ])
  (try simp only [List.set_cons_zero])
  refine wpAnyH_ready (rs := [7]) (by kernel_rfl) (by simp) ?_
  refine AllReadyH.cons (o := { dst := some 6, op := Op.assign (Operand.tmp 81), type := 4, pos := "law.go:57", after := #[{ on := 3, ground := Ground.data }, { on := 6, ground := Ground.chain }, { on := 0, ground := Ground.phase }, { on := 1, ground := Ground.phase }, { on := 2, ground := Ground.phase }, { on := 3, ground := Ground.phase }, { on := 4, ground := Ground.textOnly Departure.lateStores }, { on := 5, ground := Ground.phase }, { on := 6, ground := Ground.phase }], guard := none }) rfl (fun K hK => ?_) AllReadyH.nil
  go_simp
  refine hK.out _ _ ?_ (fun hHeld => ?_)
  · exact ⟨B9.out.cells2.1.1, B9.out.cells2.1.2, B10.out.cell 0, B10.out.cell 1, B10.out.cell 2⟩
  clear hK K
  (try simp only [Act.put])
  (try simp only [List.setIfInBounds_toArray])
  (try simp only [List.set_cons_succ])
  (try simp only [List.set_cons_zero])
  refine wpAnyH_ready (rs := [8]) (by kernel_rfl) (by simp) ?_
  refine AllReadyH.cons (o := { dst := some 7, op := Op.assign (Operand.tmp 82), type := 32, pos := "law.go:57", after := #[{ on := 4, ground := Ground.data }, { on := 7, ground := Ground.chain }, { on := 0, ground := Ground.phase }, { on := 1, ground := Ground.phase }, { on := 2, ground := Ground.phase }, { on := 3, ground := Ground.phase }, { on := 4, ground := Ground.phase }, { on := 5, ground := Ground.phase }, { on := 6, ground := Ground.phase }, { on := 7, ground := Ground.phase }], guard := none }) rfl (fun K hK => ?_) AllReadyH.nil
  go_simp
  refine hK.out _ _ ?_ (fun hHeld => ?_)
  · exact ⟨B9.out.cells2.1.1, B9.out.cells2.1.2, B10.out.cell 0, B10.out.cell 1, B10.out.cell 2⟩
  clear hK K
  (try simp only [Act.put])
  (try simp only [List.setIfInBounds_toArray])
  (try simp only [List.set_cons_succ])
  (try simp only [List.set_cons_zero])
  refine wpAnyH_done (by kernel_rfl) ?_ _
  obtain ⟨⟨m0, m1⟩, -⟩ := R4.out.cells2
  obtain ⟨⟨k0, k1, k2⟩, -⟩ := R5.out.cells3
  have F2 := BB.out
  go_wp2
  refine bodyPost_ret (v := .tuple #[.agg #[.slice y1 np np, .slice y2 nv nv], .agg #[.int .i64 0, .int .u32 0, .int .u32 0], .bool false, .int .i64 er]) (by simp [results, Try.f14, go_sem, m0, m1, k0, k1, k2]) rfl ?_
  exact ⟨rfl, F2⟩

set_option maxRecDepth 100000 in
set_option maxHeartbeats 3200000 in
theorem do_err6 (y1 y2 : Option Addr) (np nv : Nat) (t at_ : Int) (oa ob oc na nb nc z : Int) (w : World) (p0 : -9223372036854775808 ≤ at_) (p1 : at_ < 9223372036854775808) (he : errOf np nv t at_ ≠ 0) :
    Calls Try.prog 14 #[.agg #[.slice y1 np np, .slice y2 nv nv], .agg #[.int .i64 t, .int .i64 6, .int .i64 at_, .int .i64 oa, .int .u32 ob, .int .u32 oc, .int .i64 na, .int .u32 nb, .int .u32 nc, .int .i64 z]] w fun e w' => e = .returned (.tuple #[.agg #[.slice y1 np np, .slice y2 nv nv], .agg #[.int .i64 0, .int .u32 0, .int .u32 0], .bool false, .int .i64 (errOf np nv t at_)]) ∧ Below w.heap.size w w' := by
  have hz : (errOf np nv t at_ == 0) = false := by simpa using he
  obtain ⟨er, her⟩ : ∃ e, errOf np nv t at_ = e := ⟨_, rfl⟩
  have HER := Lib.hid her
  have HE : Hid (errOf np nv t at_ ≠ 0) := Lib.hid he
  rw [her] at hz ⊢
  clear her he
  have B2 := Lib.hid (Box.alloc (Box.alloc (Box.alloc (Box.new w #[.slice y1 np np, .slice y2 nv nv] 31 (n := w.heap.size) (by simp)) (.cells #[.int .i64 t, .int .i64 6, .int .i64 at_, .int .i64 oa, .int .u32 ob, .int .u32 oc, .int .i64 na, .int .u32 nb, .int .u32 nc, .int .i64 z] 49)) (.cells #[.slice none 0 0, .slice none 0 0] 31)) (.cells #[.int .i64 0, .int .u32 0, .int .u32 0] 45))
  have B3 := Lib.hid (Box.alloc (Box.alloc (Box.new (w.alloc (.cells #[.slice y1 np np, .slice y2 nv nv] 31)) #[.int .i64 t, .int .i64 6, .int .i64 at_, .int .i64 oa, .int .u32 ob, .int .u32 oc, .int .i64 na, .int .u32 nb, .int .u32 nc, .int .i64 z] 49 (n := w.heap.size + 1) (by simp)) (.cells #[.slice none 0 0, .slice none 0 0] 31)) (.cells #[.int .i64 0, .int .u32 0, .int .u32 0] 45))
  have R4 := Lib.hid (Box.alloc (Box.new ((w.alloc (.cells #[.slice y1 np np, .slice y2 nv nv] 31)).alloc (.cells #[.int .i64 t, .int .i64 6, .int .i64 at_, .int .i64 oa, .int .u32 ob, .int .u32 oc, .int .i64 na, .int .u32 nb, .int .u32 nc, .int .i64 z] 49)) #[.slice none 0 0, .slice none 0 0] 31 (n := w.heap.size + 1 + 1) (by simp)) (.cells #[.int .i64 0, .int .u32 0, .int .u32 0] 45))
  have R5 := Lib.hid (Box.new (((w.alloc (.cells #[.slice y1 np np, .slice y2 nv nv] 31)).alloc (.cells #[.int .i64 t, .int .i64 6, .int .i64 at_, .int .i64 oa, .int .u32 ob, .int .u32 oc, .int .i64 na, .int .u32 nb, .int .u32 nc, .int .i64 z] 49)).alloc (.cells #[.slice none 0 0, .slice none 0 0] 31)) #[.int .i64 0, .int .u32 0, .int .u32 0] 45 (n := w.heap.size + 1 + 1 + 1) (by simp))
  have BB := Lib.hid (((((Below.refl w.heap.size w).alloc (by simp <;> omega) (.cells #[.slice y1 np np, .slice y2 nv nv] 31)).alloc (by simp <;> omega) (.cells #[.int .i64 t, .int .i64 6, .int .i64 at_, .int .i64 oa, .int .u32 ob, .int .u32 oc, .int .i64 na, .int .u32 nb, .int .u32 nc, .int .i64 z] 49)).alloc (by simp <;> omega) (.cells #[.slice none 0 0, .slice none 0 0] 31)).alloc (by simp <;> omega) (.cells #[.int .i64 0, .int .u32 0, .int .u32 0] 45))
  go_enter Try.func14, Try.ntmps14
  go_upto_region 1 with fail
  generalize ((((w.alloc (.cells #[.slice y1 np np, .slice y2 nv nv] 31)).alloc (.cells #[.int .i64 t, .int .i64 6, .int .i64 at_, .int .i64 oa, .int .u32 ob, .int .u32 oc, .int .i64 na, .int .u32 nb, .int .u32 nc, .int .i64 z] 49)).alloc (.cells #[.slice none 0 0, .slice none 0 0] 31)).alloc (.cells #[.int .i64 0, .int .u32 0, .int .u32 0] 45)) = W0 at *
  obtain ⟨b5, hb5⟩ : ∃ b, w.heap.size + 1 + 1 + 1 = b := ⟨_, rfl⟩
  obtain ⟨b4, hb4⟩ : ∃ b, w.heap.size + 1 + 1 = b := ⟨_, rfl⟩
  obtain ⟨b3, hb3⟩ : ∃ b, w.heap.size + 1 = b := ⟨_, rfl⟩
  obtain ⟨b2, hb2⟩ : ∃ b, w.heap.size = b := ⟨_, rfl⟩
  have hbq := hb2
  rw [hb5] at R5 ⊢
  rw [hb4] at R4 hb5 ⊢
  rw [hb3] at B3 hb4 ⊢
  rw [hb2] at B2 hb3 ⊢
  obtain ⟨d0, d1, d2, d3, d4, d5, d6, d7, d8, d9⟩ := B3.out.all10
  go_upto_region 2 with fail
  clear d0 d1 d2 d3 d4 d5 d6 d7 d8 d9
  have hlt_b8 := BB.out.size
  have hlt_b8_B2 := B2.out.lt
  have hlt_b8_B3 := B3.out.lt
  have hlt_b8_R4 := R4.out.lt
  have hlt_b8_R5 := R5.out.lt
  have B2' := Lib.hid (B2.out.below (below_new W0 (.cells #[.int .i64 6, .int .i64 at_, .int .i64 oa, .int .u32 ob, .int .u32 oc, .int .i64 na, .int .u32 nb, .int .u32 nc] 47)))
  have B3' := Lib.hid (B3.out.below (below_new W0 (.cells #[.int .i64 6, .int .i64 at_, .int .i64 oa, .int .u32 ob, .int .u32 oc, .int .i64 na, .int .u32 nb, .int .u32 nc] 47)))
  have R4' := Lib.hid (R4.out.below (below_new W0 (.cells #[.int .i64 6, .int .i64 at_, .int .i64 oa, .int .u32 ob, .int .u32 oc, .int .i64 na, .int .u32 nb, .int .u32 nc] 47)))
  have R5' := Lib.hid (R5.out.below (below_new W0 (.cells #[.int .i64 6, .int .i64 at_, .int .i64 oa, .int .u32 ob, .int .u32 oc, .int .i64 na, .int .u32 nb, .int .u32 nc] 47)))
  have BB' := Lib.hid (BB.out.trans ((below_new W0 (.cells #[.int .i64 6, .int .i64 at_, .int .i64 oa, .int .u32 ob, .int .u32 oc, .int .i64 na, .int .u32 nb, .int .u32 nc] 47)).mono BB.out.size))
  clear B2
  have B2 := B2'
  clear B2'
  clear B3
  have B3 := B3'
  clear B3'
  clear R4
  have R4 := R4'
  clear R4'
  clear R5
  have R5 := R5'
  clear R5'
  clear BB
  have BB := BB'
  clear BB'
  have B8 := Lib.hid (Box.new W0 #[.int .i64 6, .int .i64 at_, .int .i64 oa, .int .u32 ob, .int .u32 oc, .int .i64 na, .int .u32 nb, .int .u32 nc] 47 rfl)
  have hsz_b8 : (World.alloc W0 (.cells #[.int .i64 6, .int .i64 at_, .int .i64 oa, .int .u32 ob, .int .u32 oc, .int .i64 na, .int .u32 nb, .int .u32 nc] 47)).heap.size = (World.heap W0).size + 1 := by simp
  generalize World.alloc W0 (.cells #[.int .i64 6, .int .i64 at_, .int .i64 oa, .int .u32 ob, .int .u32 oc, .int .i64 na, .int .u32 nb, .int .u32 nc] 47) = a0 at *
  generalize World.heap W0 = hp_b8 at *
  generalize hp_b8.size = b8 at *
  obtain ⟨d0, d1, d2, d3, d4, d5, d6, d7, d8, d9⟩ := B3.out.all10
  obtain ⟨e0, e1, e2, e3, e4, e5, e6, e7⟩ := B8.out.all8
  obtain ⟨⟨m0, m1⟩, -⟩ := B2.out.cells2
  go_wp2_with fail
  clear d0 d1 d2 d3 d4 d5 d6 d7 d8 d9 e0 e1 e2 e3 e4 e5 e6 e7 m0 m1
  have q4 := R4.out.lt
  have q5 := R5.out.lt
  refine (swap_err y1 y2 np nv t at_ oa ob oc na nb nc _ p0 p1 HE.out).mono ?_
  rintro e a1 ⟨rfl, hb⟩
  have B2' := Lib.hid (B2.out.below (hb))
  have B3' := Lib.hid (B3.out.below (hb))
  have R4' := Lib.hid (R4.out.below (hb))
  have R5' := Lib.hid (R5.out.below (hb))
  have B8' := Lib.hid (B8.out.below (hb))
  have BB' := Lib.hid (BB.out.trans ((hb).mono BB.out.size))
  clear B2
  have B2 := B2'
  clear B2'
  clear B3
  have B3 := B3'
  clear B3'
  clear R4
  have R4 := R4'
  clear R4'
  clear R5
  have R5 := R5'
  clear R5'
  clear B8
  have B8 := B8'
  clear B8'
  clear BB
  have BB := BB'
  clear BB'
  clear hb
  rw [HER.out]
  obtain ⟨⟨k0, k1⟩, f0, f1⟩ := R4.out.cells2
  have on := ((Only.refl b4 a1).set 0 (.slice y1 np np)).set 1 (.slice y2 nv nv)
  have r5 := R5.out.only (by omega) on
  obtain ⟨⟨q0, q1, q2⟩, s0, s1, s2⟩ := r5.cells3
  have r4 := (R4.out.set 0 (.slice y1 np np)).set 1 (.slice y2 nv nv)
  obtain ⟨⟨d0, d1, d2⟩, -⟩ := (((r5.set 0 (.int .i64 0)).set 1 (.int .u32 0)).set 2 (.int .u32 0)).cells3
  have on2 := (((Only.refl b5 (World.setCell (World.setCell a1 ⟨b4, 0, none⟩ (.slice y1 np np)) ⟨b4, 1, none⟩ (.slice y2 nv nv))).set 0 (.int .i64 0)).set 1 (.int .u32 0)).set 2 (.int .u32 0)
  have r6 := r4.only (by omega) on2
  obtain ⟨⟨e0, e1⟩, -⟩ := Box.cells2 r6
  have F2 := Lib.hid (((((BB.out.put b4 (by omega) 0 (.slice y1 np np)).put b4 (by omega) 1 (.slice y2 nv nv)).put b5 (by omega) 0 (.int .i64 0)).put b5 (by omega) 1 (.int .u32 0)).put b5 (by omega) 2 (.int .u32 0))
  clear on on2 r4 r5 r6
  clear B2 B3 R4 R5 B8 BB
  go_wp2
  refine bodyPost_ret (v := .tuple #[.agg #[.slice y1 np np, .slice y2 nv nv], .agg #[.int .i64 0, .int .u32 0, .int .u32 0], .bool false, .int .i64 er]) (by simp [results, Try.f14, go_sem, e0, e1, d0, d1, d2]) rfl ?_
  exact ⟨rfl, F2.out⟩

set_option maxRecDepth 100000 in
set_option maxHeartbeats 3200000 in
theorem do_none (y1 y2 : Option Addr) (np nv : Nat) (t op at_ : Int) (oa ob oc na nb nc z : Int) (w : World) (h : op < 1 ∨ 6 < op) :
    Calls Try.prog 14 #[.agg #[.slice y1 np np, .slice y2 nv nv], .agg #[.int .i64 t, .int .i64 op, .int .i64 at_, .int .i64 oa, .int .u32 ob, .int .u32 oc, .int .i64 na, .int .u32 nb, .int .u32 nc, .int .i64 z]] w fun e w' => e = .returned (.tuple #[.agg #[.slice y1 np np, .slice y2 nv nv], .agg #[.int .i64 0, .int .u32 0, .int .u32 0], .bool false, .int .i64 0]) ∧ Below w.heap.size w w' := by
  have o1 : (op == 1) = false := by simp; omega
  have o2 : (op == 2) = false := by simp; omega
  have o3 : (op == 3) = false := by simp; omega
  have o4 : (op == 4) = false := by simp; omega
  have o5 : (op == 5) = false := by simp; omega
  have o6 : (op == 6) = false := by simp; omega
  clear h
  have B2 := Lib.hid (Box.alloc (Box.alloc (Box.alloc (Box.new w #[.slice y1 np np, .slice y2 nv nv] 31 (n := w.heap.size) (by simp)) (.cells #[.int .i64 t, .int .i64 op, .int .i64 at_, .int .i64 oa, .int .u32 ob, .int .u32 oc, .int .i64 na, .int .u32 nb, .int .u32 nc, .int .i64 z] 49)) (.cells #[.slice none 0 0, .slice none 0 0] 31)) (.cells #[.int .i64 0, .int .u32 0, .int .u32 0] 45))
  have B3 := Lib.hid (Box.alloc (Box.alloc (Box.new (w.alloc (.cells #[.slice y1 np np, .slice y2 nv nv] 31)) #[.int .i64 t, .int .i64 op, .int .i64 at_, .int .i64 oa, .int .u32 ob, .int .u32 oc, .int .i64 na, .int .u32 nb, .int .u32 nc, .int .i64 z] 49 (n := w.heap.size + 1) (by simp)) (.cells #[.slice none 0 0, .slice none 0 0] 31)) (.cells #[.int .i64 0, .int .u32 0, .int .u32 0] 45))
  have R4 := Lib.hid (Box.alloc (Box.new ((w.alloc (.cells #[.slice y1 np np, .slice y2 nv nv] 31)).alloc (.cells #[.int .i64 t, .int .i64 op, .int .i64 at_, .int .i64 oa, .int .u32 ob, .int .u32 oc, .int .i64 na, .int .u32 nb, .int .u32 nc, .int .i64 z] 49)) #[.slice none 0 0, .slice none 0 0] 31 (n := w.heap.size + 1 + 1) (by simp)) (.cells #[.int .i64 0, .int .u32 0, .int .u32 0] 45))
  have R5 := Lib.hid (Box.new (((w.alloc (.cells #[.slice y1 np np, .slice y2 nv nv] 31)).alloc (.cells #[.int .i64 t, .int .i64 op, .int .i64 at_, .int .i64 oa, .int .u32 ob, .int .u32 oc, .int .i64 na, .int .u32 nb, .int .u32 nc, .int .i64 z] 49)).alloc (.cells #[.slice none 0 0, .slice none 0 0] 31)) #[.int .i64 0, .int .u32 0, .int .u32 0] 45 (n := w.heap.size + 1 + 1 + 1) (by simp))
  have BB := Lib.hid (((((Below.refl w.heap.size w).alloc (by simp <;> omega) (.cells #[.slice y1 np np, .slice y2 nv nv] 31)).alloc (by simp <;> omega) (.cells #[.int .i64 t, .int .i64 op, .int .i64 at_, .int .i64 oa, .int .u32 ob, .int .u32 oc, .int .i64 na, .int .u32 nb, .int .u32 nc, .int .i64 z] 49)).alloc (by simp <;> omega) (.cells #[.slice none 0 0, .slice none 0 0] 31)).alloc (by simp <;> omega) (.cells #[.int .i64 0, .int .u32 0, .int .u32 0] 45))
  go_enter Try.func14, Try.ntmps14
  go_upto_region 1 with fail
  generalize ((((w.alloc (.cells #[.slice y1 np np, .slice y2 nv nv] 31)).alloc (.cells #[.int .i64 t, .int .i64 op, .int .i64 at_, .int .i64 oa, .int .u32 ob, .int .u32 oc, .int .i64 na, .int .u32 nb, .int .u32 nc, .int .i64 z] 49)).alloc (.cells #[.slice none 0 0, .slice none 0 0] 31)).alloc (.cells #[.int .i64 0, .int .u32 0, .int .u32 0] 45)) = W0 at *
  obtain ⟨b5, hb5⟩ : ∃ b, w.heap.size + 1 + 1 + 1 = b := ⟨_, rfl⟩
  obtain ⟨b4, hb4⟩ : ∃ b, w.heap.size + 1 + 1 = b := ⟨_, rfl⟩
  obtain ⟨b3, hb3⟩ : ∃ b, w.heap.size + 1 = b := ⟨_, rfl⟩
  obtain ⟨b2, hb2⟩ : ∃ b, w.heap.size = b := ⟨_, rfl⟩
  have hbq := hb2
  rw [hb5] at R5 ⊢
  rw [hb4] at R4 hb5 ⊢
  rw [hb3] at B3 hb4 ⊢
  rw [hb2] at B2 hb3 ⊢
  obtain ⟨d0, d1, d2, d3, d4, d5, d6, d7, d8, d9⟩ := B3.out.all10
  go_upto_region 2 with fail
  clear d0 d1 d2 d3 d4 d5 d6 d7 d8 d9
  have hlt_b8 := BB.out.size
  have hlt_b8_B2 := B2.out.lt
  have hlt_b8_B3 := B3.out.lt
  have hlt_b8_R4 := R4.out.lt
  have hlt_b8_R5 := R5.out.lt
  have B2' := Lib.hid (B2.out.below (below_new W0 (.cells #[.int .i64 op, .int .i64 at_, .int .i64 oa, .int .u32 ob, .int .u32 oc, .int .i64 na, .int .u32 nb, .int .u32 nc] 47)))
  have B3' := Lib.hid (B3.out.below (below_new W0 (.cells #[.int .i64 op, .int .i64 at_, .int .i64 oa, .int .u32 ob, .int .u32 oc, .int .i64 na, .int .u32 nb, .int .u32 nc] 47)))
  have R4' := Lib.hid (R4.out.below (below_new W0 (.cells #[.int .i64 op, .int .i64 at_, .int .i64 oa, .int .u32 ob, .int .u32 oc, .int .i64 na, .int .u32 nb, .int .u32 nc] 47)))
  have R5' := Lib.hid (R5.out.below (below_new W0 (.cells #[.int .i64 op, .int .i64 at_, .int .i64 oa, .int .u32 ob, .int .u32 oc, .int .i64 na, .int .u32 nb, .int .u32 nc] 47)))
  have BB' := Lib.hid (BB.out.trans ((below_new W0 (.cells #[.int .i64 op, .int .i64 at_, .int .i64 oa, .int .u32 ob, .int .u32 oc, .int .i64 na, .int .u32 nb, .int .u32 nc] 47)).mono BB.out.size))
  clear B2
  have B2 := B2'
  clear B2'
  clear B3
  have B3 := B3'
  clear B3'
  clear R4
  have R4 := R4'
  clear R4'
  clear R5
  have R5 := R5'
  clear R5'
  clear BB
  have BB := BB'
  clear BB'
  have B8 := Lib.hid (Box.new W0 #[.int .i64 op, .int .i64 at_, .int .i64 oa, .int .u32 ob, .int .u32 oc, .int .i64 na, .int .u32 nb, .int .u32 nc] 47 rfl)
  have hsz_b8 : (World.alloc W0 (.cells #[.int .i64 op, .int .i64 at_, .int .i64 oa, .int .u32 ob, .int .u32 oc, .int .i64 na, .int .u32 nb, .int .u32 nc] 47)).heap.size = (World.heap W0).size + 1 := by simp
  generalize World.alloc W0 (.cells #[.int .i64 op, .int .i64 at_, .int .i64 oa, .int .u32 ob, .int .u32 oc, .int .i64 na, .int .u32 nb, .int .u32 nc] 47) = a0 at *
  generalize World.heap W0 = hp_b8 at *
  generalize hp_b8.size = b8 at *
  obtain ⟨d0, d1, d2, d3, d4, d5, d6, d7, d8, d9⟩ := B3.out.all10
  obtain ⟨e0, e1, e2, e3, e4, e5, e6, e7⟩ := B8.out.all8
  obtain ⟨⟨m0, m1⟩, -⟩ := B2.out.cells2
  go_upto_region 16 with fail
  clear d0 d1 d2 d3 d4 d5 d6 d7 d8 d9 e0 e1 e2 e3 e4 e5 e6 e7 m0 m1
  have q4 := R4.out.lt
  have q5 := R5.out.lt
  obtain ⟨⟨k0, k1⟩, f0, f1⟩ := R4.out.cells2
  have on := ((Only.refl b4 a0).set 0 (.slice y1 np np)).set 1 (.slice y2 nv nv)
  have r5 := R5.out.only (by omega) on
  obtain ⟨⟨q0, q1, q2⟩, s0, s1, s2⟩ := r5.cells3
  have r4 := (R4.out.set 0 (.slice y1 np np)).set 1 (.slice y2 nv nv)
  obtain ⟨⟨d0, d1, d2⟩, -⟩ := (((r5.set 0 (.int .i64 0)).set 1 (.int .u32 0)).set 2 (.int .u32 0)).cells3
  have on2 := (((Only.refl b5 (World.setCell (World.setCell a0 ⟨b4, 0, none⟩ (.slice y1 np np)) ⟨b4, 1, none⟩ (.slice y2 nv nv))).set 0 (.int .i64 0)).set 1 (.int .u32 0)).set 2 (.int .u32 0)
  have r6 := r4.only (by omega) on2
  obtain ⟨⟨e0, e1⟩, -⟩ := Box.cells2 r6
  have F2 := Lib.hid (((((BB.out.put b4 (by omega) 0 (.slice y1 np np)).put b4 (by omega) 1 (.slice y2 nv nv)).put b5 (by omega) 0 (.int .i64 0)).put b5 (by omega) 1 (.int .u32 0)).put b5 (by omega) 2 (.int .u32 0))
  clear on on2 r4 r5 r6
  obtain ⟨⟨m0, m1⟩, -⟩ := B2.out.cells2
  clear B2 B3 R4 R5 B8 BB
  go_wp2
  refine bodyPost_ret (v := .tuple #[.agg #[.slice y1 np np, .slice y2 nv nv], .agg #[.int .i64 0, .int .u32 0, .int .u32 0], .bool false, .int .i64 0]) (by simp [results, Try.f14, go_sem, e0, e1, d0, d1, d2]) rfl ?_
  exact ⟨rfl, F2.out⟩
end Go.Proofs.Ytbaljoehgdhhhaa
