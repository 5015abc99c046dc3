/- HistoryOutside: the walk. -/
import Derived.Test.YtfkfomefelekcaaChooses
import Derived.Deep.RegionHeld3
import Derived.Deep.DeepCutAuto
namespace Go.Proofs.Ytfkfomefelekcaa
open Go.RowKit Go.Shelf Go.Maps

theorem field0V (a b c d e : Value) (w : World) : (Instr.field 38 (.agg #[a, b, c, d, e]) 0).run Try.prog w = .ok (.agg #[a, b, c]) w := by
  have u := Try.underlying38
  have z := Try.sizeOf24
  have i := Try.isAgg24
  simp [Instr.field, run_underlying u, asAgg, part, z, i]
theorem field1V (a b c d e : Value) (w : World) : (Instr.field 38 (.agg #[a, b, c, d, e]) 1).run Try.prog w = .ok d w := by
  have u := Try.underlying38
  have z := Try.sizeOf3
  have i := Try.isAgg3
  simp [Instr.field, run_underlying u, asAgg, part, z, i]
def one3 : One := ⟨0, 0, 0, 3, 0, 0⟩
theorem one3_ok : one3.Ok := by simp [One.Ok, one3]

set_option maxRecDepth 100000 in
set_option maxHeartbeats 3200000 in
theorem outside_in (x y z : Int) (v : Value) (l : List One) (i : Nat) (w : World) (h : IsOnes w v l) (ho : OnesOk l) (hl : l.length ≤ 100) (hi : i ≤ l.length) :
    Calls Try.prog 4 #[.agg #[.int .i64 x, .int .u32 y, .int .u32 z], v, .int .i64 i] w fun e w' => e = .returned (.bool true) ∧ Below w.heap.size w w' := by
  obtain ⟨a, cap, rfl⟩ := h.slice
  have HI := Lib.hid h
  have HO := Lib.hid ho
  have HL := Lib.hid (msgsOf_length x y z l)
  clear h ho
  obtain ⟨n, hn⟩ : ∃ n, l.length = n := ⟨_, rfl⟩
  have HN := Lib.hid hn
  rw [hn] at HI HL hl ⊢
  (try rw [hn] at hi)
  clear hn
  have qW := neqW
  have qE := eqlW
  have qF := field0V
  go_enter Try.func4, Try.ntmps4
  go_wp2_with fail
  have HI' := Lib.hid (HI.out.below (below_new w (.cells #[.int .i64 x, .int .u32 y, .int .u32 z] 24)))
  clear HI
  have HI := HI'
  clear HI'
  have BB := Lib.hid (below_new w (.cells #[.int .i64 x, .int .u32 y, .int .u32 z] 24))
  have B3 := Lib.hid (Box.new w #[.int .i64 x, .int .u32 y, .int .u32 z] 24 rfl)
  generalize World.alloc w (.cells #[.int .i64 x, .int .u32 y, .int .u32 z] 24) = a0 at *
  obtain ⟨b3, hb3⟩ : ∃ b, w.heap.size = b := ⟨_, rfl⟩
  rw [hb3] at B3 ⊢
  refine (made_any x y z _ l _ HI.out (by rw [HN.out]; omega) HO.out).mono ?_
  rintro e z1 hh
  obtain ⟨b, q, hq1, hq2, hq3, hq4, rfl, hq5, hb⟩ := hh.block
  clear hh hq3
  rw [HL.out] at hq4 hq5 ⊢
  have HI' := Lib.hid (HI.out.below (hb))
  have B3' := Lib.hid (B3.out.below (hb))
  have BB' := Lib.hid (BB.out.trans ((hb).mono BB.out.size))
  clear HI
  have HI := HI'
  clear HI'
  clear B3
  have B3 := B3'
  clear B3'
  clear BB
  have BB := BB'
  clear BB'
  have H := Lib.hid hq5
  clear hb hq5 HI HO B3
  go_wp2_with fail
  obtain ⟨⟨⟨xa, xb, xc, xd, xm⟩, xp⟩, hxq⟩ : ∃ m, q[i]? = some m := ⟨_, List.getElem?_eq_getElem (by omega)⟩
  refine (hat_in _ q i _ _ H.out hxq (by omega)).mono ?_
  rintro e a1 ⟨rfl, hb⟩
  have H' := Lib.hid (H.out.below (hb))
  have BB' := Lib.hid (BB.out.trans ((hb).mono BB.out.size))
  clear H
  have H := H'
  clear H'
  clear BB
  have BB := BB'
  clear BB'
  clear hb
  simp only [msgV]
  clear H
  go_wp2_with fail
  have hlt_b7 := BB.out.size
  have BB' := Lib.hid (BB.out.trans ((below_new a1 (.cells #[.int .i64 xa, .int .u32 xb, .int .u32 xc, .int .i64 xd, .map xp] 38)).mono BB.out.size))
  clear BB
  have BB := BB'
  clear BB'
  have B7 := Lib.hid (Box.new a1 #[.int .i64 xa, .int .u32 xb, .int .u32 xc, .int .i64 xd, .map xp] 38 rfl)
  have hsz_b7 : (World.alloc a1 (.cells #[.int .i64 xa, .int .u32 xb, .int .u32 xc, .int .i64 xd, .map xp] 38)).heap.size = (World.heap a1).size + 1 := by simp
  generalize World.alloc a1 (.cells #[.int .i64 xa, .int .u32 xb, .int .u32 xc, .int .i64 xd, .map xp] 38) = a2 at *
  generalize World.heap a1 = hp_b7 at *
  generalize hp_b7.size = b7 at *
  have hlt_b9 := BB.out.size
  have B7' := Lib.hid (B7.out.below (below_new a2 (.cells #[.slice none 0 0] 29)))
  have BB' := Lib.hid (BB.out.trans ((below_new a2 (.cells #[.slice none 0 0] 29)).mono BB.out.size))
  clear B7
  have B7 := B7'
  clear B7'
  clear BB
  have BB := BB'
  clear BB'
  have B9 := Lib.hid (Box.new a2 #[.slice none 0 0] 29 (n := b7 + 1) hsz_b7.symm)
  have hsz_b9 : (World.alloc a2 (.cells #[.slice none 0 0] 29)).heap.size = b7 + 1 + 1 := by simp [hsz_b7]
  rw [hsz_b7] at hlt_b9
  generalize World.alloc a2 (.cells #[.slice none 0 0] 29) = a3 at *
  obtain ⟨b9, hq_b9⟩ : ∃ b, b7 + 1 = b := ⟨_, rfl⟩
  rw [hq_b9] at B9 hsz_b9 ⊢
  refine (hat_out _ [] i _ (HW.nil _) (by simp <;> omega)).mono ?_
  rintro e a4 ⟨rfl, hb⟩
  have B7' := Lib.hid (B7.out.below (hb))
  have B9' := Lib.hid (B9.out.below (hb))
  have BB' := Lib.hid (BB.out.trans ((hb).mono BB.out.size))
  clear B7
  have B7 := B7'
  clear B7'
  clear B9
  have B9 := B9'
  clear B9'
  clear BB
  have BB := BB'
  clear BB'
  clear hb
  go_wp2_with fail
  have hlt_b10 := BB.out.size
  have hlt_b10_B7 := B7.out.lt
  have hlt_b10_B9 := B9.out.lt
  have B7' := Lib.hid (B7.out.below (below_new a4 (.cells #[.int .i64 0, .int .u32 0, .int .u32 0, .int .i64 0, .map none] 38)))
  have B9' := Lib.hid (B9.out.below (below_new a4 (.cells #[.int .i64 0, .int .u32 0, .int .u32 0, .int .i64 0, .map none] 38)))
  have BB' := Lib.hid (BB.out.trans ((below_new a4 (.cells #[.int .i64 0, .int .u32 0, .int .u32 0, .int .i64 0, .map none] 38)).mono BB.out.size))
  clear B7
  have B7 := B7'
  clear B7'
  clear B9
  have B9 := B9'
  clear B9'
  clear BB
  have BB := BB'
  clear BB'
  have B10 := Lib.hid (Box.new a4 #[.int .i64 0, .int .u32 0, .int .u32 0, .int .i64 0, .map none] 38 rfl)
  have hsz_b10 : (World.alloc a4 (.cells #[.int .i64 0, .int .u32 0, .int .u32 0, .int .i64 0, .map none] 38)).heap.size = (World.heap a4).size + 1 := by simp
  generalize World.alloc a4 (.cells #[.int .i64 0, .int .u32 0, .int .u32 0, .int .i64 0, .map none] 38) = a5 at *
  generalize World.heap a4 = hp_b10 at *
  generalize hp_b10.size = b10 at *
  go_cut [68] (fun s68 wx => s68 = .bool false ∧ Box wx b7 #[.int .i64 xa, .int .u32 xb, .int .u32 xc, .int .i64 xd, .map xp] 38 ∧ Below w.heap.size w wx)
  case first =>
    have B7' := Lib.hid (B7.out.below ((Below.refl _ _).drew))
    have B9' := Lib.hid (B9.out.below ((Below.refl _ _).drew))
    have B10' := Lib.hid (B10.out.below ((Below.refl _ _).drew))
    have BB' := Lib.hid (BB.out.trans (((Below.refl _ _).drew).mono BB.out.size))
    clear B7
    have B7 := B7'
    clear B7'
    clear B9
    have B9 := B9'
    clear B9'
    clear B10
    have B10 := B10'
    clear B10'
    clear BB
    have BB := BB'
    clear BB'
    refine wp_region_held_drew (S := fun w' => w'.cell? ⟨b10, 0, none⟩ = some (.int .i64 0) ∧ w'.cell? ⟨b10, 1, none⟩ = some (.int .u32 0) ∧ w'.cell? ⟨b10, 2, none⟩ = some (.int .u32 0) ∧ w'.cell? ⟨b10, 3, none⟩ = some (.int .i64 0) ∧ w'.cell? ⟨b10, 4, none⟩ = some (.map none) ∧ w'.cell? ⟨b9, 0, none⟩ = some (.slice none 0 0)) (by kernel_rfl) ⟨B10.out.cell 0, B10.out.cell 1, B10.out.cell 2, B10.out.cell 3, B10.out.cell 4, B9.out.cells1.1⟩ (fun hHeld => ?_)
    generalize World.drew a5 = V0 at *
    refine wpAnyH_take (i := 0) (oi := { dst := some 30, op := Op.move (Operand.tmp 11), type := 4, pos := "law.go:88", after := #[], guard := none }) (v := ?d1_1xv0) rfl (by kernel_rfl) (by kernel_rfl) (by kernel_rfl) (fun _ _ _ h => h) (Or.inl ⟨by rfl, ?d1_1xy0⟩) (by assumption) ?d1_1xr0
    case d1_1xy0 => (intro w hSw; (try dsimp only at hSw); go_simp; try with_reducible rfl)
    (try simp only [Act.put])
    (try simp only [List.setIfInBounds_toArray])
    (try simp only [List.set_cons_succ])
    (try simp only [List.set_cons_zero])
    refine wpAnyH_take (i := 1) (oi := { dst := some 31, op := Op.move (Operand.tmp 30), type := 4, pos := "law.go:88", after := #[{ on := 0, ground := Ground.data }], guard := none }) (v := ?d1_2xv1) rfl (by kernel_rfl) (by kernel_rfl) (by kernel_rfl) (fun _ _ _ h => h) (Or.inl ⟨by rfl, ?d1_2xy1⟩) (by assumption) ?d1_2xr1
    case d1_2xy1 => (intro w hSw; (try dsimp only at hSw); go_simp; try with_reducible rfl)
    (try simp only [Act.put])
    (try simp only [List.setIfInBounds_toArray])
    (try simp only [List.set_cons_succ])
    (try simp only [List.set_cons_zero])
    refine wpAnyH_take (i := 2) (oi := { dst := some 32, op := Op.fieldAddr 38 (Operand.tmp 10) 1, type := 0, pos := "law.go:88", after := #[{ on := 1, ground := Ground.guard }], guard := some (1, false) }) (v := ?d1_3xv2) rfl (by kernel_rfl) (by kernel_rfl) (by kernel_rfl) (fun _ _ _ h => h) (Or.inl ⟨by rfl, ?d1_3xy2⟩) (by assumption) ?d1_3xr2
    case d1_3xy2 => (intro w hSw; (try dsimp only at hSw); go_simp; try with_reducible rfl)
    (try simp only [Act.put])
    (try simp only [List.setIfInBounds_toArray])
    (try simp only [List.set_cons_succ])
    (try simp only [List.set_cons_zero])
    refine wpAnyH_take (i := 3) (oi := { dst := some 33, op := Op.load 3 (Operand.tmp 32), type := 3, pos := "law.go:88", after := #[{ on := 2, ground := Ground.data }, { on := 1, ground := Ground.guard }], guard := some (1, false) }) (v := ?d1_4xv3) rfl (by kernel_rfl) (by kernel_rfl) (by kernel_rfl) (fun _ _ _ h => h) (Or.inl ⟨by rfl, ?d1_4xy3⟩) (by assumption) ?d1_4xr3
    case d1_4xy3 => (intro w hSw; (try dsimp only at hSw); go_simp; try with_reducible rfl)
    (try simp only [Act.put])
    (try simp only [List.setIfInBounds_toArray])
    (try simp only [List.set_cons_succ])
    (try simp only [List.set_cons_zero])
    refine wpAnyH_take (i := 4) (oi := { dst := some 34, op := Op.binOp BinOp.neq 3 (Operand.tmp 33) (Operand.const (Value.int IntKind.i64 0)) 3, type := 4, pos := "law.go:88", after := #[{ on := 3, ground := Ground.data }, { on := 1, ground := Ground.guard }], guard := some (1, false) }) (v := ?d1_5xv4) rfl (by kernel_rfl) (by kernel_rfl) (by kernel_rfl) (fun _ _ _ h => h) (Or.inl ⟨by rfl, ?d1_5xy4⟩) (by assumption) ?d1_5xr4
    case d1_5xy4 => (intro w hSw; (try dsimp only at hSw); go_simp; try with_reducible rfl)
    (try simp only [Act.put])
    (try simp only [List.setIfInBounds_toArray])
    (try simp only [List.set_cons_succ])
    (try simp only [List.set_cons_zero])
    refine wpAnyH_take (i := 5) (oi := { dst := some 35, op := Op.pick (Operand.tmp 31) (Operand.const (Value.bool true)) (Operand.tmp 34), type := 4, pos := "law.go:88", after := #[{ on := 1, ground := Ground.data }, { on := 4, ground := Ground.data }], guard := none }) (v := ?d1_6xv5) rfl (by kernel_rfl) (by kernel_rfl) (by kernel_rfl) (fun _ _ _ h => h) (Or.inl ⟨by rfl, ?d1_6xy5⟩) (by assumption) ?d1_6xr5
    case d1_6xy5 => (intro w hSw; (try dsimp only at hSw); go_simp; try with_reducible rfl)
    (try simp only [Act.put])
    (try simp only [List.setIfInBounds_toArray])
    (try simp only [List.set_cons_succ])
    (try simp only [List.set_cons_zero])
    refine wpAnyH_take (i := 6) (oi := { dst := some 36, op := Op.move (Operand.tmp 35), type := 4, pos := "law.go:88", after := #[{ on := 5, ground := Ground.data }, { on := 1, ground := Ground.chain }], guard := none }) (v := ?d1_7xv6) rfl (by kernel_rfl) (by kernel_rfl) (by kernel_rfl) (fun _ _ _ h => h) (Or.inl ⟨by rfl, ?d1_7xy6⟩) (by assumption) ?d1_7xr6
    case d1_7xy6 => (intro w hSw; (try dsimp only at hSw); go_simp; try with_reducible rfl)
    (try simp only [Act.put])
    (try simp only [List.setIfInBounds_toArray])
    (try simp only [List.set_cons_succ])
    (try simp only [List.set_cons_zero])
    refine wpAnyH_take (i := 7) (oi := { dst := some 37, op := Op.fieldAddr 38 (Operand.tmp 10) 0, type := 0, pos := "law.go:88", after := #[{ on := 6, ground := Ground.guard }], guard := some (6, false) }) (v := ?d1_8xv7) rfl (by kernel_rfl) (by kernel_rfl) (by kernel_rfl) (fun _ _ _ h => h) (Or.inl ⟨by rfl, ?d1_8xy7⟩) (by assumption) ?d1_8xr7
    case d1_8xy7 => (intro w hSw; (try dsimp only at hSw); go_simp; try with_reducible rfl)
    (try simp only [Act.put])
    (try simp only [List.setIfInBounds_toArray])
    (try simp only [List.set_cons_succ])
    (try simp only [List.set_cons_zero])
    refine wpAnyH_take (i := 8) (oi := { dst := some 38, op := Op.load 24 (Operand.tmp 37), type := 24, pos := "law.go:88", after := #[{ on := 7, ground := Ground.data }, { on := 6, ground := Ground.guard }], guard := some (6, false) }) (v := ?d1_9xv8) rfl (by kernel_rfl) (by kernel_rfl) (by kernel_rfl) (fun _ _ _ h => h) (Or.inl ⟨by rfl, ?d1_9xy8⟩) (by assumption) ?d1_9xr8
    case d1_9xy8 => (intro w hSw; (try dsimp only at hSw); go_simp; try with_reducible rfl)
    (try simp only [Act.put])
    (try simp only [List.setIfInBounds_toArray])
    (try simp only [List.set_cons_succ])
    (try simp only [List.set_cons_zero])
    refine wpAnyH_take (i := 9) (oi := { dst := some 39, op := Op.build 24 #[], type := 24, pos := "law.go:88", after := #[{ on := 6, ground := Ground.guard }], guard := some (6, false) }) (v := ?d1_10xv9) rfl (by kernel_rfl) (by kernel_rfl) (by kernel_rfl) (fun _ _ _ h => h) (Or.inl ⟨by rfl, ?d1_10xy9⟩) (by assumption) ?d1_10xr9
    case d1_10xy9 => (intro w hSw; (try dsimp only at hSw); go_simp; try with_reducible rfl)
    (try simp only [Act.put])
    (try simp only [List.setIfInBounds_toArray])
    (try simp only [List.set_cons_succ])
    (try simp only [List.set_cons_zero])
    refine wpAnyH_take (i := 10) (oi := { dst := some 40, op := Op.binOp BinOp.neq 24 (Operand.tmp 38) (Operand.tmp 39) 24, type := 4, pos := "law.go:88", after := #[{ on := 8, ground := Ground.data }, { on := 9, ground := Ground.data }, { on := 6, ground := Ground.guard }], guard := some (6, false) }) (v := ?d1_11xv10) rfl (by kernel_rfl) (by kernel_rfl) (by kernel_rfl) (fun _ _ _ h => h) (Or.inl ⟨by rfl, ?d1_11xy10⟩) (by assumption) ?d1_11xr10
    case d1_11xy10 => (intro w hSw; (try dsimp only at hSw); go_simp; try with_reducible rfl)
    (try simp only [Act.put])
    (try simp only [List.setIfInBounds_toArray])
    (try simp only [List.set_cons_succ])
    (try simp only [List.set_cons_zero])
    refine wpAnyH_take (i := 11) (oi := { dst := some 41, op := Op.pick (Operand.tmp 36) (Operand.const (Value.bool true)) (Operand.tmp 40), type := 4, pos := "law.go:88", after := #[{ on := 6, ground := Ground.data }, { on := 10, ground := Ground.data }], guard := none }) (v := ?d1_12xv11) rfl (by kernel_rfl) (by kernel_rfl) (by kernel_rfl) (fun _ _ _ h => h) (Or.inl ⟨by rfl, ?d1_12xy11⟩) (by assumption) ?d1_12xr11
    case d1_12xy11 => (intro w hSw; (try dsimp only at hSw); go_simp; try with_reducible rfl)
    (try simp only [Act.put])
    (try simp only [List.setIfInBounds_toArray])
    (try simp only [List.set_cons_succ])
    (try simp only [List.set_cons_zero])
    refine wpAnyH_take (i := 12) (oi := { dst := some 42, op := Op.move (Operand.tmp 41), type := 4, pos := "law.go:88", after := #[{ on := 11, ground := Ground.data }, { on := 6, ground := Ground.chain }], guard := none }) (v := ?d1_13xv12) rfl (by kernel_rfl) (by kernel_rfl) (by kernel_rfl) (fun _ _ _ h => h) (Or.inl ⟨by rfl, ?d1_13xy12⟩) (by assumption) ?d1_13xr12
    case d1_13xy12 => (intro w hSw; (try dsimp only at hSw); go_simp; try with_reducible rfl)
    (try simp only [Act.put])
    (try simp only [List.setIfInBounds_toArray])
    (try simp only [List.set_cons_succ])
    (try simp only [List.set_cons_zero])
    refine wpAnyH_take (i := 13) (oi := { dst := some 43, op := Op.load 29 (Operand.tmp 9), type := 29, pos := "law.go:88", after := #[{ on := 12, ground := Ground.guard }], guard := some (12, false) }) (v := ?d1_14xv13) rfl (by kernel_rfl) (by kernel_rfl) (by kernel_rfl) (fun _ _ _ h => h) (Or.inl ⟨by rfl, ?d1_14xy13⟩) (by assumption) ?d1_14xr13
    case d1_14xy13 => (intro w hSw; (try dsimp only at hSw); go_simp; try with_reducible rfl)
    (try simp only [Act.put])
    (try simp only [List.setIfInBounds_toArray])
    (try simp only [List.set_cons_succ])
    (try simp only [List.set_cons_zero])
    refine wpAnyH_ready (rs := [14]) (by kernel_rfl) (by simp) ?_
    refine AllReadyH.cons (o := { dst := some 44, op := Op.call { callee := Callee.value (Operand.func 13), args := #[Operand.tmp 43], argTypes := #[29] }, type := 3, pos := "law.go:88", after := #[{ on := 13, ground := Ground.data }, { on := 12, ground := Ground.chain }, { on := 12, ground := Ground.guard }], guard := some (12, false) }) rfl (fun K hK => ?_) AllReadyH.nil
    go_simp
    go_at_call 13
    refine (len_c _ 0 0 _).mono ?_
    rintro e v1 ⟨rfl, hb⟩
    have B7' := Lib.hid (B7.out.below (hb))
    have B9' := Lib.hid (B9.out.below (hb))
    have B10' := Lib.hid (B10.out.below (hb))
    have BB' := Lib.hid (BB.out.trans ((hb).mono BB.out.size))
    clear B7
    have B7 := B7'
    clear B7'
    clear B9
    have B9 := B9'
    clear B9'
    clear B10
    have B10 := B10'
    clear B10'
    clear BB
    have BB := BB'
    clear BB'
    clear hb
    go_simp
    refine hK.out _ _ ?_ (fun hHeld => ?_)
    · exact ⟨B10.out.cell 0, B10.out.cell 1, B10.out.cell 2, B10.out.cell 3, B10.out.cell 4, B9.out.cells1.1⟩
    clear hK K
    (try simp only [Act.put])
    (try simp only [List.setIfInBounds_toArray])
    (try simp only [List.set_cons_succ])
    (try simp only [List.set_cons_zero])
    refine wpAnyH_take (i := 15) (oi := { dst := some 45, op := Op.binOp BinOp.neq 3 (Operand.tmp 44) (Operand.const (Value.int IntKind.i64 0)) 3, type := 4, pos := "law.go:88", after := #[{ on := 14, ground := Ground.data }, { on := 12, ground := Ground.guard }], guard := some (12, false) }) (v := ?d2_15xv15) rfl (by kernel_rfl) (by kernel_rfl) (by kernel_rfl) (fun _ _ _ h => h) (Or.inl ⟨by rfl, ?d2_15xy15⟩) (by assumption) ?d2_15xr15
    case d2_15xy15 => (intro w hSw; (try dsimp only at hSw); go_simp; try with_reducible rfl)
    (try simp only [Act.put])
    (try simp only [List.setIfInBounds_toArray])
    (try simp only [List.set_cons_succ])
    (try simp only [List.set_cons_zero])
    refine wpAnyH_take (i := 16) (oi := { dst := some 46, op := Op.pick (Operand.tmp 42) (Operand.const (Value.bool true)) (Operand.tmp 45), type := 4, pos := "law.go:88", after := #[{ on := 12, ground := Ground.data }, { on := 15, ground := Ground.data }], guard := none }) (v := ?d2_16xv16) rfl (by kernel_rfl) (by kernel_rfl) (by kernel_rfl) (fun _ _ _ h => h) (Or.inl ⟨by rfl, ?d2_16xy16⟩) (by assumption) ?d2_16xr16
    case d2_16xy16 => (intro w hSw; (try dsimp only at hSw); go_simp; try with_reducible rfl)
    (try simp only [Act.put])
    (try simp only [List.setIfInBounds_toArray])
    (try simp only [List.set_cons_succ])
    (try simp only [List.set_cons_zero])
    refine wpAnyH_take (i := 17) (oi := { dst := some 47, op := Op.move (Operand.tmp 46), type := 4, pos := "law.go:88", after := #[{ on := 16, ground := Ground.data }, { on := 14, ground := Ground.chain }], guard := none }) (v := ?d2_17xv17) rfl (by kernel_rfl) (by kernel_rfl) (by kernel_rfl) (fun _ _ _ h => h) (Or.inl ⟨by rfl, ?d2_17xy17⟩) (by assumption) ?d2_17xr17
    case d2_17xy17 => (intro w hSw; (try dsimp only at hSw); go_simp; try with_reducible rfl)
    (try simp only [Act.put])
    (try simp only [List.setIfInBounds_toArray])
    (try simp only [List.set_cons_succ])
    (try simp only [List.set_cons_zero])
    refine wpAnyH_take (i := 18) (oi := { dst := some 48, op := Op.load 29 (Operand.tmp 9), type := 29, pos := "law.go:88", after := #[{ on := 17, ground := Ground.guard }], guard := some (17, false) }) (v := ?d2_18xv18) rfl (by kernel_rfl) (by kernel_rfl) (by kernel_rfl) (fun _ _ _ h => h) (Or.inl ⟨by rfl, ?d2_18xy18⟩) (by assumption) ?d2_18xr18
    case d2_18xy18 => (intro w hSw; (try dsimp only at hSw); go_simp; try with_reducible rfl)
    (try simp only [Act.put])
    (try simp only [List.setIfInBounds_toArray])
    (try simp only [List.set_cons_succ])
    (try simp only [List.set_cons_zero])
    refine wpAnyH_take (i := 21) (oi := { dst := some 51, op := Op.build 24 #[], type := 24, pos := "law.go:88", after := #[{ on := 17, ground := Ground.guard }], guard := some (17, false) }) (v := ?d2_19xv21) rfl (by kernel_rfl) (by kernel_rfl) (by kernel_rfl) (fun _ _ _ h => h) (Or.inl ⟨by rfl, ?d2_19xy21⟩) (by assumption) ?d2_19xr21
    case d2_19xy21 => (intro w hSw; (try dsimp only at hSw); go_simp; try with_reducible rfl)
    (try simp only [Act.put])
    (try simp only [List.setIfInBounds_toArray])
    (try simp only [List.set_cons_succ])
    (try simp only [List.set_cons_zero])
    refine wpAnyH_ready (rs := [19]) (by kernel_rfl) (by simp) ?_
    refine AllReadyH.cons (o := { dst := some 49, op := Op.call { callee := Callee.value (Operand.func 14), args := #[Operand.tmp 48], argTypes := #[29] }, type := 38, pos := "law.go:88", after := #[{ on := 18, ground := Ground.data }, { on := 17, ground := Ground.chain }, { on := 17, ground := Ground.guard }], guard := some (17, false) }) rfl (fun K hK => ?_) AllReadyH.nil
    go_simp
    go_at_call 14
    refine (last_none _).mono ?_
    rintro e v2 ⟨rfl, hb⟩
    have B7' := Lib.hid (B7.out.below (hb))
    have B9' := Lib.hid (B9.out.below (hb))
    have B10' := Lib.hid (B10.out.below (hb))
    have BB' := Lib.hid (BB.out.trans ((hb).mono BB.out.size))
    clear B7
    have B7 := B7'
    clear B7'
    clear B9
    have B9 := B9'
    clear B9'
    clear B10
    have B10 := B10'
    clear B10'
    clear BB
    have BB := BB'
    clear BB'
    clear hb
    go_simp
    refine hK.out _ _ ?_ (fun hHeld => ?_)
    · exact ⟨B10.out.cell 0, B10.out.cell 1, B10.out.cell 2, B10.out.cell 3, B10.out.cell 4, B9.out.cells1.1⟩
    clear hK K
    (try simp only [Act.put])
    (try simp only [List.setIfInBounds_toArray])
    (try simp only [List.set_cons_succ])
    (try simp only [List.set_cons_zero])
    refine wpAnyH_take (i := 20) (oi := { dst := some 50, op := Op.field 38 (Operand.tmp 49) 0, type := 24, pos := "law.go:88", after := #[{ on := 19, ground := Ground.data }, { on := 17, ground := Ground.guard }], guard := some (17, false) }) (v := ?d3_20xv20) rfl (by kernel_rfl) (by kernel_rfl) (by kernel_rfl) (fun _ _ _ h => h) (Or.inl ⟨by rfl, ?d3_20xy20⟩) (by assumption) ?d3_20xr20
    case d3_20xy20 => (intro w hSw; (try dsimp only at hSw); go_simp; try with_reducible rfl)
    (try simp only [Act.put])
    (try simp only [List.setIfInBounds_toArray])
    (try simp only [List.set_cons_succ])
    (try simp only [List.set_cons_zero])
    refine wpAnyH_take (i := 22) (oi := { dst := some 52, op := Op.binOp BinOp.neq 24 (Operand.tmp 50) (Operand.tmp 51) 24, type := 4, pos := "law.go:88", after := #[{ on := 20, ground := Ground.data }, { on := 21, ground := Ground.data }, { on := 17, ground := Ground.guard }], guard := some (17, false) }) (v := ?d3_21xv22) rfl (by kernel_rfl) (by kernel_rfl) (by kernel_rfl) (fun _ _ _ h => h) (Or.inl ⟨by rfl, ?d3_21xy22⟩) (by assumption) ?d3_21xr22
    case d3_21xy22 => (intro w hSw; (try dsimp only at hSw); go_simp; try with_reducible rfl)
    (try simp only [Act.put])
    (try simp only [List.setIfInBounds_toArray])
    (try simp only [List.set_cons_succ])
    (try simp only [List.set_cons_zero])
    refine wpAnyH_take (i := 23) (oi := { dst := some 53, op := Op.pick (Operand.tmp 47) (Operand.const (Value.bool true)) (Operand.tmp 52), type := 4, pos := "law.go:88", after := #[{ on := 17, ground := Ground.data }, { on := 22, ground := Ground.data }], guard := none }) (v := ?d3_22xv23) rfl (by kernel_rfl) (by kernel_rfl) (by kernel_rfl) (fun _ _ _ h => h) (Or.inl ⟨by rfl, ?d3_22xy23⟩) (by assumption) ?d3_22xr23
    case d3_22xy23 => (intro w hSw; (try dsimp only at hSw); go_simp; try with_reducible rfl)
    (try simp only [Act.put])
    (try simp only [List.setIfInBounds_toArray])
    (try simp only [List.set_cons_succ])
    (try simp only [List.set_cons_zero])
    refine wpAnyH_take (i := 24) (oi := { dst := some 54, op := Op.move (Operand.tmp 53), type := 4, pos := "law.go:88", after := #[{ on := 23, ground := Ground.data }, { on := 19, ground := Ground.chain }], guard := none }) (v := ?d3_23xv24) rfl (by kernel_rfl) (by kernel_rfl) (by kernel_rfl) (fun _ _ _ h => h) (Or.inl ⟨by rfl, ?d3_23xy24⟩) (by assumption) ?d3_23xr24
    case d3_23xy24 => (intro w hSw; (try dsimp only at hSw); go_simp; try with_reducible rfl)
    (try simp only [Act.put])
    (try simp only [List.setIfInBounds_toArray])
    (try simp only [List.set_cons_succ])
    (try simp only [List.set_cons_zero])
    refine wpAnyH_take (i := 25) (oi := { dst := some 55, op := Op.load 29 (Operand.tmp 9), type := 29, pos := "law.go:88", after := #[{ on := 24, ground := Ground.guard }], guard := some (24, false) }) (v := ?d3_24xv25) rfl (by kernel_rfl) (by kernel_rfl) (by kernel_rfl) (fun _ _ _ h => h) (Or.inl ⟨by rfl, ?d3_24xy25⟩) (by assumption) ?d3_24xr25
    case d3_24xy25 => (intro w hSw; (try dsimp only at hSw); go_simp; try with_reducible rfl)
    (try simp only [Act.put])
    (try simp only [List.setIfInBounds_toArray])
    (try simp only [List.set_cons_succ])
    (try simp only [List.set_cons_zero])
    refine wpAnyH_take (i := 26) (oi := { dst := some 56, op := Op.move (Operand.tmp 2), type := 3, pos := "law.go:88", after := #[{ on := 24, ground := Ground.guard }], guard := some (24, false) }) (v := ?d3_25xv26) rfl (by kernel_rfl) (by kernel_rfl) (by kernel_rfl) (fun _ _ _ h => h) (Or.inl ⟨by rfl, ?d3_25xy26⟩) (by assumption) ?d3_25xr26
    case d3_25xy26 => (intro w hSw; (try dsimp only at hSw); go_simp; try with_reducible rfl)
    (try simp only [Act.put])
    (try simp only [List.setIfInBounds_toArray])
    (try simp only [List.set_cons_succ])
    (try simp only [List.set_cons_zero])
    refine wpAnyH_take (i := 27) (oi := { dst := some 57, op := Op.move (Operand.tmp 2), type := 3, pos := "law.go:88", after := #[{ on := 24, ground := Ground.guard }], guard := some (24, false) }) (v := ?d3_26xv27) rfl (by kernel_rfl) (by kernel_rfl) (by kernel_rfl) (fun _ _ _ h => h) (Or.inl ⟨by rfl, ?d3_26xy27⟩) (by assumption) ?d3_26xr27
    case d3_26xy27 => (intro w hSw; (try dsimp only at hSw); go_simp; try with_reducible rfl)
    (try simp only [Act.put])
    (try simp only [List.setIfInBounds_toArray])
    (try simp only [List.set_cons_succ])
    (try simp only [List.set_cons_zero])
    refine wpAnyH_ready (rs := [28]) (by kernel_rfl) (by simp) ?_
    refine AllReadyH.cons (o := { dst := some 58, op := Op.call { callee := Callee.value (Operand.func 18), args := #[Operand.tmp 55, Operand.tmp 56, Operand.tmp 57], argTypes := #[29, 3, 3] }, type := 3, pos := "law.go:88", after := #[{ on := 25, ground := Ground.data }, { on := 26, ground := Ground.data }, { on := 27, ground := Ground.data }, { on := 24, ground := Ground.chain }, { on := 24, ground := Ground.guard }], guard := some (24, false) }) rfl (fun K hK => ?_) AllReadyH.nil
    go_simp
    go_at_call 18
    refine (choose_any none 0 0 i i _ (by omega) (by omega) (by omega) (by omega) (by omega)).mono ?_
    rintro e v3 ⟨rfl, hb⟩
    have B7' := Lib.hid (B7.out.below (hb))
    have B9' := Lib.hid (B9.out.below (hb))
    have B10' := Lib.hid (B10.out.below (hb))
    have BB' := Lib.hid (BB.out.trans ((hb).mono BB.out.size))
    clear B7
    have B7 := B7'
    clear B7'
    clear B9
    have B9 := B9'
    clear B9'
    clear B10
    have B10 := B10'
    clear B10'
    clear BB
    have BB := BB'
    clear BB'
    clear hb
    rw [show chooseL 0 i i = -1 from rfl]
    go_simp
    refine hK.out _ _ ?_ (fun hHeld => ?_)
    · exact ⟨B10.out.cell 0, B10.out.cell 1, B10.out.cell 2, B10.out.cell 3, B10.out.cell 4, B9.out.cells1.1⟩
    clear hK K
    (try simp only [Act.put])
    (try simp only [List.setIfInBounds_toArray])
    (try simp only [List.set_cons_succ])
    (try simp only [List.set_cons_zero])
    refine wpAnyH_take (i := 29) (oi := { dst := some 59, op := Op.binOp BinOp.neq 3 (Operand.tmp 58) (Operand.const (Value.int IntKind.i64 (-1))) 3, type := 4, pos := "law.go:88", after := #[{ on := 28, ground := Ground.data }, { on := 24, ground := Ground.guard }], guard := some (24, false) }) (v := ?d4_27xv29) rfl (by kernel_rfl) (by kernel_rfl) (by kernel_rfl) (fun _ _ _ h => h) (Or.inl ⟨by rfl, ?d4_27xy29⟩) (by assumption) ?d4_27xr29
    case d4_27xy29 => (intro w hSw; (try dsimp only at hSw); go_simp; try with_reducible rfl)
    (try simp only [Act.put])
    (try simp only [List.setIfInBounds_toArray])
    (try simp only [List.set_cons_succ])
    (try simp only [List.set_cons_zero])
    refine wpAnyH_take (i := 30) (oi := { dst := some 60, op := Op.pick (Operand.tmp 54) (Operand.const (Value.bool true)) (Operand.tmp 59), type := 4, pos := "law.go:88", after := #[{ on := 24, ground := Ground.data }, { on := 29, ground := Ground.data }], guard := none }) (v := ?d4_28xv30) rfl (by kernel_rfl) (by kernel_rfl) (by kernel_rfl) (fun _ _ _ h => h) (Or.inl ⟨by rfl, ?d4_28xy30⟩) (by assumption) ?d4_28xr30
    case d4_28xy30 => (intro w hSw; (try dsimp only at hSw); go_simp; try with_reducible rfl)
    (try simp only [Act.put])
    (try simp only [List.setIfInBounds_toArray])
    (try simp only [List.set_cons_succ])
    (try simp only [List.set_cons_zero])
    refine wpAnyH_take (i := 31) (oi := { dst := some 61, op := Op.move (Operand.tmp 60), type := 4, pos := "law.go:88", after := #[{ on := 30, ground := Ground.data }, { on := 28, ground := Ground.chain }], guard := none }) (v := ?d4_29xv31) rfl (by kernel_rfl) (by kernel_rfl) (by kernel_rfl) (fun _ _ _ h => h) (Or.inl ⟨by rfl, ?d4_29xy31⟩) (by assumption) ?d4_29xr31
    case d4_29xy31 => (intro w hSw; (try dsimp only at hSw); go_simp; try with_reducible rfl)
    (try simp only [Act.put])
    (try simp only [List.setIfInBounds_toArray])
    (try simp only [List.set_cons_succ])
    (try simp only [List.set_cons_zero])
    refine wpAnyH_take (i := 32) (oi := { dst := some 62, op := Op.load 29 (Operand.tmp 9), type := 29, pos := "law.go:88", after := #[{ on := 31, ground := Ground.guard }], guard := some (31, false) }) (v := ?d4_30xv32) rfl (by kernel_rfl) (by kernel_rfl) (by kernel_rfl) (fun _ _ _ h => h) (Or.inl ⟨by rfl, ?d4_30xy32⟩) (by assumption) ?d4_30xr32
    case d4_30xy32 => (intro w hSw; (try dsimp only at hSw); go_simp; try with_reducible rfl)
    (try simp only [Act.put])
    (try simp only [List.setIfInBounds_toArray])
    (try simp only [List.set_cons_succ])
    (try simp only [List.set_cons_zero])
    refine wpAnyH_take (i := 33) (oi := { dst := some 63, op := Op.build 32 #[(1, Operand.const (Value.int IntKind.i64 3))], type := 32, pos := "law.go:88", after := #[{ on := 31, ground := Ground.guard }], guard := some (31, false) }) (v := ?d4_31xv33) rfl (by kernel_rfl) (by kernel_rfl) (by kernel_rfl) (fun _ _ _ h => h) (Or.inl ⟨by rfl, ?d4_31xy33⟩) (by assumption) ?d4_31xr33
    case d4_31xy33 => (intro w hSw; (try dsimp only at hSw); go_simp; try with_reducible rfl)
    (try simp only [Act.put])
    (try simp only [List.setIfInBounds_toArray])
    (try simp only [List.set_cons_succ])
    (try simp only [List.set_cons_zero])
    refine wpAnyH_ready (rs := [34]) (by kernel_rfl) (by simp) ?_
    refine AllReadyH.cons (o := { dst := some 64, op := Op.call { callee := Callee.value (Operand.func 11), args := #[Operand.tmp 63], argTypes := #[32] }, type := 38, pos := "law.go:88", after := #[{ on := 33, ground := Ground.data }, { on := 31, ground := Ground.chain }, { on := 31, ground := Ground.guard }], guard := some (31, false) }) rfl (fun K hK => ?_) AllReadyH.nil
    go_simp
    go_at_call 11
    refine (make_any one3 _ one3_ok).mono ?_
    rintro e v4 ⟨p2, rfl, hv, hb⟩
    have B7' := Lib.hid (B7.out.below (hb))
    have B9' := Lib.hid (B9.out.below (hb))
    have B10' := Lib.hid (B10.out.below (hb))
    have BB' := Lib.hid (BB.out.trans ((hb).mono BB.out.size))
    clear B7
    have B7 := B7'
    clear B7'
    clear B9
    have B9 := B9'
    clear B9'
    clear B10
    have B10 := B10'
    clear B10'
    clear BB
    have BB := BB'
    clear BB'
    clear hb
    have P2 := Lib.hid (hv)
    clear hv
    go_simp
    refine hK.out _ _ ?_ (fun hHeld => ?_)
    · exact ⟨B10.out.cell 0, B10.out.cell 1, B10.out.cell 2, B10.out.cell 3, B10.out.cell 4, B9.out.cells1.1⟩
    clear hK K
    (try simp only [Act.put])
    (try simp only [List.setIfInBounds_toArray])
    (try simp only [List.set_cons_succ])
    (try simp only [List.set_cons_zero])
    refine wpAnyH_ready (rs := [35]) (by kernel_rfl) (by simp) ?_
    refine AllReadyH.cons (o := { dst := some 65, op := Op.call { callee := Callee.value (Operand.func 10), args := #[Operand.tmp 62, Operand.tmp 64], argTypes := #[29, 38] }, type := 29, pos := "law.go:88", after := #[{ on := 32, ground := Ground.data }, { on := 34, ground := Ground.data }, { on := 34, ground := Ground.chain }, { on := 31, ground := Ground.guard }], guard := some (31, false) }) rfl (fun K hK => ?_) AllReadyH.nil
    go_simp
    go_at_call 10
    refine (add_any _ [] (one3.msg, p2) _ (HW.nil _) P2.out (by simp)).mono ?_
    rintro e v5 ⟨bz, hbz, rfl, hh, hb⟩
    have B7' := Lib.hid (B7.out.below (hb))
    have B9' := Lib.hid (B9.out.below (hb))
    have B10' := Lib.hid (B10.out.below (hb))
    have P2' := Lib.hid (P2.out.below (hb))
    have BB' := Lib.hid (BB.out.trans ((hb).mono BB.out.size))
    clear B7
    have B7 := B7'
    clear B7'
    clear B9
    have B9 := B9'
    clear B9'
    clear B10
    have B10 := B10'
    clear B10'
    clear P2
    have P2 := P2'
    clear P2'
    clear BB
    have BB := BB'
    clear BB'
    clear hb
    clear P2
    clear hh
    simp only [List.nil_append, List.length_cons, List.length_nil, Nat.zero_add]
    go_simp
    refine hK.out _ _ ?_ (fun hHeld => ?_)
    · exact ⟨B10.out.cell 0, B10.out.cell 1, B10.out.cell 2, B10.out.cell 3, B10.out.cell 4, B9.out.cells1.1⟩
    clear hK K
    (try simp only [Act.put])
    (try simp only [List.setIfInBounds_toArray])
    (try simp only [List.set_cons_succ])
    (try simp only [List.set_cons_zero])
    refine wpAnyH_ready (rs := [36]) (by kernel_rfl) (by simp) ?_
    refine AllReadyH.cons (o := { dst := some 66, op := Op.call { callee := Callee.value (Operand.func 13), args := #[Operand.tmp 65], argTypes := #[29] }, type := 3, pos := "law.go:88", after := #[{ on := 35, ground := Ground.data }, { on := 35, ground := Ground.chain }, { on := 31, ground := Ground.guard }], guard := some (31, false) }) rfl (fun K hK => ?_) AllReadyH.nil
    go_simp
    go_at_call 13
    refine (len_c _ 1 1 _).mono ?_
    rintro e v6 ⟨rfl, hb⟩
    have B7' := Lib.hid (B7.out.below (hb))
    have B9' := Lib.hid (B9.out.below (hb))
    have B10' := Lib.hid (B10.out.below (hb))
    have BB' := Lib.hid (BB.out.trans ((hb).mono BB.out.size))
    clear B7
    have B7 := B7'
    clear B7'
    clear B9
    have B9 := B9'
    clear B9'
    clear B10
    have B10 := B10'
    clear B10'
    clear BB
    have BB := BB'
    clear BB'
    clear hb
    go_simp
    refine hK.out _ _ ?_ (fun hHeld => ?_)
    · exact ⟨B10.out.cell 0, B10.out.cell 1, B10.out.cell 2, B10.out.cell 3, B10.out.cell 4, B9.out.cells1.1⟩
    clear hK K
    (try simp only [Act.put])
    (try simp only [List.setIfInBounds_toArray])
    (try simp only [List.set_cons_succ])
    (try simp only [List.set_cons_zero])
    refine wpAnyH_take (i := 37) (oi := { dst := some 67, op := Op.binOp BinOp.neq 3 (Operand.tmp 66) (Operand.const (Value.int IntKind.i64 1)) 3, type := 4, pos := "law.go:88", after := #[{ on := 36, ground := Ground.data }, { on := 31, ground := Ground.guard }], guard := some (31, false) }) (v := ?d7_32xv37) rfl (by kernel_rfl) (by kernel_rfl) (by kernel_rfl) (fun _ _ _ h => h) (Or.inl ⟨by rfl, ?d7_32xy37⟩) (by assumption) ?d7_32xr37
    case d7_32xy37 => (intro w hSw; (try dsimp only at hSw); go_simp; try with_reducible rfl)
    (try simp only [Act.put])
    (try simp only [List.setIfInBounds_toArray])
    (try simp only [List.set_cons_succ])
    (try simp only [List.set_cons_zero])
    refine wpAnyH_take (i := 38) (oi := { dst := some 68, op := Op.pick (Operand.tmp 61) (Operand.const (Value.bool true)) (Operand.tmp 67), type := 4, pos := "law.go:88", after := #[{ on := 31, ground := Ground.data }, { on := 37, ground := Ground.data }], guard := none }) (v := ?d7_33xv38) rfl (by kernel_rfl) (by kernel_rfl) (by kernel_rfl) (fun _ _ _ h => h) (Or.inl ⟨by rfl, ?d7_33xy38⟩) (by assumption) ?d7_33xr38
    case d7_33xy38 => (intro w hSw; (try dsimp only at hSw); go_simp; try with_reducible rfl)
    (try simp only [Act.put])
    (try simp only [List.setIfInBounds_toArray])
    (try simp only [List.set_cons_succ])
    (try simp only [List.set_cons_zero])
    refine wpAnyH_done (by kernel_rfl) ?_ _
    go_wp2
    go_meet
    case rel => exact ⟨rfl, B7.out, BB.out⟩
  case rest =>
    obtain ⟨rfl, B7', BB'⟩ := hcut
    clear B7 B9 B10 BB
    have B7 := Lib.hid B7'
    have BB := Lib.hid BB'
    clear B7' BB'
    go_wp2_with fail
    refine (awake_any _).mono ?_
    rintro e a6 ⟨rfl, hb⟩
    have B7' := Lib.hid (B7.out.below (hb))
    have BB' := Lib.hid (BB.out.trans ((hb).mono BB.out.size))
    clear B7
    have B7 := B7'
    clear B7'
    clear BB
    have BB := BB'
    clear BB'
    clear hb
    obtain ⟨⟨m0, m1, m2, m3, m4⟩, -⟩ := B7.out.cells5
    have BB2 := BB.out
    go_wp2
    go_ret
    exact ⟨by simp, BB2⟩

set_option maxRecDepth 100000 in
set_option maxHeartbeats 3200000 in
theorem outside_low (x y z : Int) (v : Value) (l : List One) (i : Int) (w : World) (h : IsOnes w v l) (ho : OnesOk l) (hl : l.length ≤ 100) (hi : i < 0) (i0 : -9223372036854775808 ≤ i) :
    Calls Try.prog 4 #[.agg #[.int .i64 x, .int .u32 y, .int .u32 z], v, .int .i64 i] w fun e w' => e = .returned (.bool true) ∧ Below w.heap.size w w' := by
  obtain ⟨a, cap, rfl⟩ := h.slice
  have HI := Lib.hid h
  have HO := Lib.hid ho
  have HL := Lib.hid (msgsOf_length x y z l)
  clear h ho
  obtain ⟨n, hn⟩ : ∃ n, l.length = n := ⟨_, rfl⟩
  have HN := Lib.hid hn
  rw [hn] at HI HL hl ⊢
  (try rw [hn] at hi)
  clear hn
  have qW := neqW
  have qE := eqlW
  have qF := field0V
  go_enter Try.func4, Try.ntmps4
  go_wp2_with fail
  have HI' := Lib.hid (HI.out.below (below_new w (.cells #[.int .i64 x, .int .u32 y, .int .u32 z] 24)))
  clear HI
  have HI := HI'
  clear HI'
  have BB := Lib.hid (below_new w (.cells #[.int .i64 x, .int .u32 y, .int .u32 z] 24))
  have B3 := Lib.hid (Box.new w #[.int .i64 x, .int .u32 y, .int .u32 z] 24 rfl)
  generalize World.alloc w (.cells #[.int .i64 x, .int .u32 y, .int .u32 z] 24) = a0 at *
  obtain ⟨b3, hb3⟩ : ∃ b, w.heap.size = b := ⟨_, rfl⟩
  rw [hb3] at B3 ⊢
  refine (made_any x y z _ l _ HI.out (by rw [HN.out]; omega) HO.out).mono ?_
  rintro e z1 hh
  obtain ⟨b, q, hq1, hq2, hq3, hq4, rfl, hq5, hb⟩ := hh.block
  clear hh hq3
  rw [HL.out] at hq4 hq5 ⊢
  have HI' := Lib.hid (HI.out.below (hb))
  have B3' := Lib.hid (B3.out.below (hb))
  have BB' := Lib.hid (BB.out.trans ((hb).mono BB.out.size))
  clear HI
  have HI := HI'
  clear HI'
  clear B3
  have B3 := B3'
  clear B3'
  clear BB
  have BB := BB'
  clear BB'
  have H := Lib.hid hq5
  clear hb hq5 HI HO B3
  go_wp2_with fail
  refine (hat_out _ q i _ H.out (by omega)).mono ?_
  rintro e a1 ⟨rfl, hb⟩
  have H' := Lib.hid (H.out.below (hb))
  have BB' := Lib.hid (BB.out.trans ((hb).mono BB.out.size))
  clear H
  have H := H'
  clear H'
  clear BB
  have BB := BB'
  clear BB'
  clear hb
  clear H
  go_wp2_with fail
  have hlt_b7 := BB.out.size
  have BB' := Lib.hid (BB.out.trans ((below_new a1 (.cells #[.int .i64 0, .int .u32 0, .int .u32 0, .int .i64 0, .map none] 38)).mono BB.out.size))
  clear BB
  have BB := BB'
  clear BB'
  have B7 := Lib.hid (Box.new a1 #[.int .i64 0, .int .u32 0, .int .u32 0, .int .i64 0, .map none] 38 rfl)
  have hsz_b7 : (World.alloc a1 (.cells #[.int .i64 0, .int .u32 0, .int .u32 0, .int .i64 0, .map none] 38)).heap.size = (World.heap a1).size + 1 := by simp
  generalize World.alloc a1 (.cells #[.int .i64 0, .int .u32 0, .int .u32 0, .int .i64 0, .map none] 38) = a2 at *
  generalize World.heap a1 = hp_b7 at *
  generalize hp_b7.size = b7 at *
  have hlt_b9 := BB.out.size
  have B7' := Lib.hid (B7.out.below (below_new a2 (.cells #[.slice none 0 0] 29)))
  have BB' := Lib.hid (BB.out.trans ((below_new a2 (.cells #[.slice none 0 0] 29)).mono BB.out.size))
  clear B7
  have B7 := B7'
  clear B7'
  clear BB
  have BB := BB'
  clear BB'
  have B9 := Lib.hid (Box.new a2 #[.slice none 0 0] 29 (n := b7 + 1) hsz_b7.symm)
  have hsz_b9 : (World.alloc a2 (.cells #[.slice none 0 0] 29)).heap.size = b7 + 1 + 1 := by simp [hsz_b7]
  rw [hsz_b7] at hlt_b9
  generalize World.alloc a2 (.cells #[.slice none 0 0] 29) = a3 at *
  obtain ⟨b9, hq_b9⟩ : ∃ b, b7 + 1 = b := ⟨_, rfl⟩
  rw [hq_b9] at B9 hsz_b9 ⊢
  refine (hat_out _ [] i _ (HW.nil _) (by simp <;> omega)).mono ?_
  rintro e a4 ⟨rfl, hb⟩
  have B7' := Lib.hid (B7.out.below (hb))
  have B9' := Lib.hid (B9.out.below (hb))
  have BB' := Lib.hid (BB.out.trans ((hb).mono BB.out.size))
  clear B7
  have B7 := B7'
  clear B7'
  clear B9
  have B9 := B9'
  clear B9'
  clear BB
  have BB := BB'
  clear BB'
  clear hb
  go_wp2_with fail
  have hlt_b10 := BB.out.size
  have hlt_b10_B7 := B7.out.lt
  have hlt_b10_B9 := B9.out.lt
  have B7' := Lib.hid (B7.out.below (below_new a4 (.cells #[.int .i64 0, .int .u32 0, .int .u32 0, .int .i64 0, .map none] 38)))
  have B9' := Lib.hid (B9.out.below (below_new a4 (.cells #[.int .i64 0, .int .u32 0, .int .u32 0, .int .i64 0, .map none] 38)))
  have BB' := Lib.hid (BB.out.trans ((below_new a4 (.cells #[.int .i64 0, .int .u32 0, .int .u32 0, .int .i64 0, .map none] 38)).mono BB.out.size))
  clear B7
  have B7 := B7'
  clear B7'
  clear B9
  have B9 := B9'
  clear B9'
  clear BB
  have BB := BB'
  clear BB'
  have B10 := Lib.hid (Box.new a4 #[.int .i64 0, .int .u32 0, .int .u32 0, .int .i64 0, .map none] 38 rfl)
  have hsz_b10 : (World.alloc a4 (.cells #[.int .i64 0, .int .u32 0, .int .u32 0, .int .i64 0, .map none] 38)).heap.size = (World.heap a4).size + 1 := by simp
  generalize World.alloc a4 (.cells #[.int .i64 0, .int .u32 0, .int .u32 0, .int .i64 0, .map none] 38) = a5 at *
  generalize World.heap a4 = hp_b10 at *
  generalize hp_b10.size = b10 at *
  go_cut [68] (fun s68 wx => s68 = .bool false ∧ Box wx b7 #[.int .i64 0, .int .u32 0, .int .u32 0, .int .i64 0, .map none] 38 ∧ Below w.heap.size w wx)
  case first =>
    have B7' := Lib.hid (B7.out.below ((Below.refl _ _).drew))
    have B9' := Lib.hid (B9.out.below ((Below.refl _ _).drew))
    have B10' := Lib.hid (B10.out.below ((Below.refl _ _).drew))
    have BB' := Lib.hid (BB.out.trans (((Below.refl _ _).drew).mono BB.out.size))
    clear B7
    have B7 := B7'
    clear B7'
    clear B9
    have B9 := B9'
    clear B9'
    clear B10
    have B10 := B10'
    clear B10'
    clear BB
    have BB := BB'
    clear BB'
    refine wp_region_held_drew (S := fun w' => w'.cell? ⟨b10, 0, none⟩ = some (.int .i64 0) ∧ w'.cell? ⟨b10, 1, none⟩ = some (.int .u32 0) ∧ w'.cell? ⟨b10, 2, none⟩ = some (.int .u32 0) ∧ w'.cell? ⟨b10, 3, none⟩ = some (.int .i64 0) ∧ w'.cell? ⟨b10, 4, none⟩ = some (.map none) ∧ w'.cell? ⟨b9, 0, none⟩ = some (.slice none 0 0)) (by kernel_rfl) ⟨B10.out.cell 0, B10.out.cell 1, B10.out.cell 2, B10.out.cell 3, B10.out.cell 4, B9.out.cells1.1⟩ (fun hHeld => ?_)
    generalize World.drew a5 = V0 at *
    refine wpAnyH_take (i := 0) (oi := { dst := some 30, op := Op.move (Operand.tmp 11), type := 4, pos := "law.go:88", after := #[], guard := none }) (v := ?d1_1xv0) rfl (by kernel_rfl) (by kernel_rfl) (by kernel_rfl) (fun _ _ _ h => h) (Or.inl ⟨by rfl, ?d1_1xy0⟩) (by assumption) ?d1_1xr0
    case d1_1xy0 => (intro w hSw; (try dsimp only at hSw); go_simp; try with_reducible rfl)
    (try simp only [Act.put])
    (try simp only [List.setIfInBounds_toArray])
    (try simp only [List.set_cons_succ])
    (try simp only [List.set_cons_zero])
    refine wpAnyH_take (i := 1) (oi := { dst := some 31, op := Op.move (Operand.tmp 30), type := 4, pos := "law.go:88", after := #[{ on := 0, ground := Ground.data }], guard := none }) (v := ?d1_2xv1) rfl (by kernel_rfl) (by kernel_rfl) (by kernel_rfl) (fun _ _ _ h => h) (Or.inl ⟨by rfl, ?d1_2xy1⟩) (by assumption) ?d1_2xr1
    case d1_2xy1 => (intro w hSw; (try dsimp only at hSw); go_simp; try with_reducible rfl)
    (try simp only [Act.put])
    (try simp only [List.setIfInBounds_toArray])
    (try simp only [List.set_cons_succ])
    (try simp only [List.set_cons_zero])
    refine wpAnyH_take (i := 2) (oi := { dst := some 32, op := Op.fieldAddr 38 (Operand.tmp 10) 1, type := 0, pos := "law.go:88", after := #[{ on := 1, ground := Ground.guard }], guard := some (1, false) }) (v := ?d1_3xv2) rfl (by kernel_rfl) (by kernel_rfl) (by kernel_rfl) (fun _ _ _ h => h) (Or.inl ⟨by rfl, ?d1_3xy2⟩) (by assumption) ?d1_3xr2
    case d1_3xy2 => (intro w hSw; (try dsimp only at hSw); go_simp; try with_reducible rfl)
    (try simp only [Act.put])
    (try simp only [List.setIfInBounds_toArray])
    (try simp only [List.set_cons_succ])
    (try simp only [List.set_cons_zero])
    refine wpAnyH_take (i := 3) (oi := { dst := some 33, op := Op.load 3 (Operand.tmp 32), type := 3, pos := "law.go:88", after := #[{ on := 2, ground := Ground.data }, { on := 1, ground := Ground.guard }], guard := some (1, false) }) (v := ?d1_4xv3) rfl (by kernel_rfl) (by kernel_rfl) (by kernel_rfl) (fun _ _ _ h => h) (Or.inl ⟨by rfl, ?d1_4xy3⟩) (by assumption) ?d1_4xr3
    case d1_4xy3 => (intro w hSw; (try dsimp only at hSw); go_simp; try with_reducible rfl)
    (try simp only [Act.put])
    (try simp only [List.setIfInBounds_toArray])
    (try simp only [List.set_cons_succ])
    (try simp only [List.set_cons_zero])
    refine wpAnyH_take (i := 4) (oi := { dst := some 34, op := Op.binOp BinOp.neq 3 (Operand.tmp 33) (Operand.const (Value.int IntKind.i64 0)) 3, type := 4, pos := "law.go:88", after := #[{ on := 3, ground := Ground.data }, { on := 1, ground := Ground.guard }], guard := some (1, false) }) (v := ?d1_5xv4) rfl (by kernel_rfl) (by kernel_rfl) (by kernel_rfl) (fun _ _ _ h => h) (Or.inl ⟨by rfl, ?d1_5xy4⟩) (by assumption) ?d1_5xr4
    case d1_5xy4 => (intro w hSw; (try dsimp only at hSw); go_simp; try with_reducible rfl)
    (try simp only [Act.put])
    (try simp only [List.setIfInBounds_toArray])
    (try simp only [List.set_cons_succ])
    (try simp only [List.set_cons_zero])
    refine wpAnyH_take (i := 5) (oi := { dst := some 35, op := Op.pick (Operand.tmp 31) (Operand.const (Value.bool true)) (Operand.tmp 34), type := 4, pos := "law.go:88", after := #[{ on := 1, ground := Ground.data }, { on := 4, ground := Ground.data }], guard := none }) (v := ?d1_6xv5) rfl (by kernel_rfl) (by kernel_rfl) (by kernel_rfl) (fun _ _ _ h => h) (Or.inl ⟨by rfl, ?d1_6xy5⟩) (by assumption) ?d1_6xr5
    case d1_6xy5 => (intro w hSw; (try dsimp only at hSw); go_simp; try with_reducible rfl)
    (try simp only [Act.put])
    (try simp only [List.setIfInBounds_toArray])
    (try simp only [List.set_cons_succ])
    (try simp only [List.set_cons_zero])
    refine wpAnyH_take (i := 6) (oi := { dst := some 36, op := Op.move (Operand.tmp 35), type := 4, pos := "law.go:88", after := #[{ on := 5, ground := Ground.data }, { on := 1, ground := Ground.chain }], guard := none }) (v := ?d1_7xv6) rfl (by kernel_rfl) (by kernel_rfl) (by kernel_rfl) (fun _ _ _ h => h) (Or.inl ⟨by rfl, ?d1_7xy6⟩) (by assumption) ?d1_7xr6
    case d1_7xy6 => (intro w hSw; (try dsimp only at hSw); go_simp; try with_reducible rfl)
    (try simp only [Act.put])
    (try simp only [List.setIfInBounds_toArray])
    (try simp only [List.set_cons_succ])
    (try simp only [List.set_cons_zero])
    refine wpAnyH_take (i := 7) (oi := { dst := some 37, op := Op.fieldAddr 38 (Operand.tmp 10) 0, type := 0, pos := "law.go:88", after := #[{ on := 6, ground := Ground.guard }], guard := some (6, false) }) (v := ?d1_8xv7) rfl (by kernel_rfl) (by kernel_rfl) (by kernel_rfl) (fun _ _ _ h => h) (Or.inl ⟨by rfl, ?d1_8xy7⟩) (by assumption) ?d1_8xr7
    case d1_8xy7 => (intro w hSw; (try dsimp only at hSw); go_simp; try with_reducible rfl)
    (try simp only [Act.put])
    (try simp only [List.setIfInBounds_toArray])
    (try simp only [List.set_cons_succ])
    (try simp only [List.set_cons_zero])
    refine wpAnyH_take (i := 8) (oi := { dst := some 38, op := Op.load 24 (Operand.tmp 37), type := 24, pos := "law.go:88", after := #[{ on := 7, ground := Ground.data }, { on := 6, ground := Ground.guard }], guard := some (6, false) }) (v := ?d1_9xv8) rfl (by kernel_rfl) (by kernel_rfl) (by kernel_rfl) (fun _ _ _ h => h) (Or.inl ⟨by rfl, ?d1_9xy8⟩) (by assumption) ?d1_9xr8
    case d1_9xy8 => (intro w hSw; (try dsimp only at hSw); go_simp; try with_reducible rfl)
    (try simp only [Act.put])
    (try simp only [List.setIfInBounds_toArray])
    (try simp only [List.set_cons_succ])
    (try simp only [List.set_cons_zero])
    refine wpAnyH_take (i := 9) (oi := { dst := some 39, op := Op.build 24 #[], type := 24, pos := "law.go:88", after := #[{ on := 6, ground := Ground.guard }], guard := some (6, false) }) (v := ?d1_10xv9) rfl (by kernel_rfl) (by kernel_rfl) (by kernel_rfl) (fun _ _ _ h => h) (Or.inl ⟨by rfl, ?d1_10xy9⟩) (by assumption) ?d1_10xr9
    case d1_10xy9 => (intro w hSw; (try dsimp only at hSw); go_simp; try with_reducible rfl)
    (try simp only [Act.put])
    (try simp only [List.setIfInBounds_toArray])
    (try simp only [List.set_cons_succ])
    (try simp only [List.set_cons_zero])
    refine wpAnyH_take (i := 10) (oi := { dst := some 40, op := Op.binOp BinOp.neq 24 (Operand.tmp 38) (Operand.tmp 39) 24, type := 4, pos := "law.go:88", after := #[{ on := 8, ground := Ground.data }, { on := 9, ground := Ground.data }, { on := 6, ground := Ground.guard }], guard := some (6, false) }) (v := ?d1_11xv10) rfl (by kernel_rfl) (by kernel_rfl) (by kernel_rfl) (fun _ _ _ h => h) (Or.inl ⟨by rfl, ?d1_11xy10⟩) (by assumption) ?d1_11xr10
    case d1_11xy10 => (intro w hSw; (try dsimp only at hSw); go_simp; try with_reducible rfl)
    (try simp only [Act.put])
    (try simp only [List.setIfInBounds_toArray])
    (try simp only [List.set_cons_succ])
    (try simp only [List.set_cons_zero])
    refine wpAnyH_take (i := 11) (oi := { dst := some 41, op := Op.pick (Operand.tmp 36) (Operand.const (Value.bool true)) (Operand.tmp 40), type := 4, pos := "law.go:88", after := #[{ on := 6, ground := Ground.data }, { on := 10, ground := Ground.data }], guard := none }) (v := ?d1_12xv11) rfl (by kernel_rfl) (by kernel_rfl) (by kernel_rfl) (fun _ _ _ h => h) (Or.inl ⟨by rfl, ?d1_12xy11⟩) (by assumption) ?d1_12xr11
    case d1_12xy11 => (intro w hSw; (try dsimp only at hSw); go_simp; try with_reducible rfl)
    (try simp only [Act.put])
    (try simp only [List.setIfInBounds_toArray])
    (try simp only [List.set_cons_succ])
    (try simp only [List.set_cons_zero])
    refine wpAnyH_take (i := 12) (oi := { dst := some 42, op := Op.move (Operand.tmp 41), type := 4, pos := "law.go:88", after := #[{ on := 11, ground := Ground.data }, { on := 6, ground := Ground.chain }], guard := none }) (v := ?d1_13xv12) rfl (by kernel_rfl) (by kernel_rfl) (by kernel_rfl) (fun _ _ _ h => h) (Or.inl ⟨by rfl, ?d1_13xy12⟩) (by assumption) ?d1_13xr12
    case d1_13xy12 => (intro w hSw; (try dsimp only at hSw); go_simp; try with_reducible rfl)
    (try simp only [Act.put])
    (try simp only [List.setIfInBounds_toArray])
    (try simp only [List.set_cons_succ])
    (try simp only [List.set_cons_zero])
    refine wpAnyH_take (i := 13) (oi := { dst := some 43, op := Op.load 29 (Operand.tmp 9), type := 29, pos := "law.go:88", after := #[{ on := 12, ground := Ground.guard }], guard := some (12, false) }) (v := ?d1_14xv13) rfl (by kernel_rfl) (by kernel_rfl) (by kernel_rfl) (fun _ _ _ h => h) (Or.inl ⟨by rfl, ?d1_14xy13⟩) (by assumption) ?d1_14xr13
    case d1_14xy13 => (intro w hSw; (try dsimp only at hSw); go_simp; try with_reducible rfl)
    (try simp only [Act.put])
    (try simp only [List.setIfInBounds_toArray])
    (try simp only [List.set_cons_succ])
    (try simp only [List.set_cons_zero])
    refine wpAnyH_ready (rs := [14]) (by kernel_rfl) (by simp) ?_
    refine AllReadyH.cons (o := { dst := some 44, op := Op.call { callee := Callee.value (Operand.func 13), args := #[Operand.tmp 43], argTypes := #[29] }, type := 3, pos := "law.go:88", after := #[{ on := 13, ground := Ground.data }, { on := 12, ground := Ground.chain }, { on := 12, ground := Ground.guard }], guard := some (12, false) }) rfl (fun K hK => ?_) AllReadyH.nil
    go_simp
    go_at_call 13
    refine (len_c _ 0 0 _).mono ?_
    rintro e v1 ⟨rfl, hb⟩
    have B7' := Lib.hid (B7.out.below (hb))
    have B9' := Lib.hid (B9.out.below (hb))
    have B10' := Lib.hid (B10.out.below (hb))
    have BB' := Lib.hid (BB.out.trans ((hb).mono BB.out.size))
    clear B7
    have B7 := B7'
    clear B7'
    clear B9
    have B9 := B9'
    clear B9'
    clear B10
    have B10 := B10'
    clear B10'
    clear BB
    have BB := BB'
    clear BB'
    clear hb
    go_simp
    refine hK.out _ _ ?_ (fun hHeld => ?_)
    · exact ⟨B10.out.cell 0, B10.out.cell 1, B10.out.cell 2, B10.out.cell 3, B10.out.cell 4, B9.out.cells1.1⟩
    clear hK K
    (try simp only [Act.put])
    (try simp only [List.setIfInBounds_toArray])
    (try simp only [List.set_cons_succ])
    (try simp only [List.set_cons_zero])
    refine wpAnyH_take (i := 15) (oi := { dst := some 45, op := Op.binOp BinOp.neq 3 (Operand.tmp 44) (Operand.const (Value.int IntKind.i64 0)) 3, type := 4, pos := "law.go:88", after := #[{ on := 14, ground := Ground.data }, { on := 12, ground := Ground.guard }], guard := some (12, false) }) (v := ?d2_15xv15) rfl (by kernel_rfl) (by kernel_rfl) (by kernel_rfl) (fun _ _ _ h => h) (Or.inl ⟨by rfl, ?d2_15xy15⟩) (by assumption) ?d2_15xr15
    case d2_15xy15 => (intro w hSw; (try dsimp only at hSw); go_simp; try with_reducible rfl)
    (try simp only [Act.put])
    (try simp only [List.setIfInBounds_toArray])
    (try simp only [List.set_cons_succ])
    (try simp only [List.set_cons_zero])
    refine wpAnyH_take (i := 16) (oi := { dst := some 46, op := Op.pick (Operand.tmp 42) (Operand.const (Value.bool true)) (Operand.tmp 45), type := 4, pos := "law.go:88", after := #[{ on := 12, ground := Ground.data }, { on := 15, ground := Ground.data }], guard := none }) (v := ?d2_16xv16) rfl (by kernel_rfl) (by kernel_rfl) (by kernel_rfl) (fun _ _ _ h => h) (Or.inl ⟨by rfl, ?d2_16xy16⟩) (by assumption) ?d2_16xr16
    case d2_16xy16 => (intro w hSw; (try dsimp only at hSw); go_simp; try with_reducible rfl)
    (try simp only [Act.put])
    (try simp only [List.setIfInBounds_toArray])
    (try simp only [List.set_cons_succ])
    (try simp only [List.set_cons_zero])
    refine wpAnyH_take (i := 17) (oi := { dst := some 47, op := Op.move (Operand.tmp 46), type := 4, pos := "law.go:88", after := #[{ on := 16, ground := Ground.data }, { on := 14, ground := Ground.chain }], guard := none }) (v := ?d2_17xv17) rfl (by kernel_rfl) (by kernel_rfl) (by kernel_rfl) (fun _ _ _ h => h) (Or.inl ⟨by rfl, ?d2_17xy17⟩) (by assumption) ?d2_17xr17
    case d2_17xy17 => (intro w hSw; (try dsimp only at hSw); go_simp; try with_reducible rfl)
    (try simp only [Act.put])
    (try simp only [List.setIfInBounds_toArray])
    (try simp only [List.set_cons_succ])
    (try simp only [List.set_cons_zero])
    refine wpAnyH_take (i := 18) (oi := { dst := some 48, op := Op.load 29 (Operand.tmp 9), type := 29, pos := "law.go:88", after := #[{ on := 17, ground := Ground.guard }], guard := some (17, false) }) (v := ?d2_18xv18) rfl (by kernel_rfl) (by kernel_rfl) (by kernel_rfl) (fun _ _ _ h => h) (Or.inl ⟨by rfl, ?d2_18xy18⟩) (by assumption) ?d2_18xr18
    case d2_18xy18 => (intro w hSw; (try dsimp only at hSw); go_simp; try with_reducible rfl)
    (try simp only [Act.put])
    (try simp only [List.setIfInBounds_toArray])
    (try simp only [List.set_cons_succ])
    (try simp only [List.set_cons_zero])
    refine wpAnyH_take (i := 21) (oi := { dst := some 51, op := Op.build 24 #[], type := 24, pos := "law.go:88", after := #[{ on := 17, ground := Ground.guard }], guard := some (17, false) }) (v := ?d2_19xv21) rfl (by kernel_rfl) (by kernel_rfl) (by kernel_rfl) (fun _ _ _ h => h) (Or.inl ⟨by rfl, ?d2_19xy21⟩) (by assumption) ?d2_19xr21
    case d2_19xy21 => (intro w hSw; (try dsimp only at hSw); go_simp; try with_reducible rfl)
    (try simp only [Act.put])
    (try simp only [List.setIfInBounds_toArray])
    (try simp only [List.set_cons_succ])
    (try simp only [List.set_cons_zero])
    refine wpAnyH_ready (rs := [19]) (by kernel_rfl) (by simp) ?_
    refine AllReadyH.cons (o := { dst := some 49, op := Op.call { callee := Callee.value (Operand.func 14), args := #[Operand.tmp 48], argTypes := #[29] }, type := 38, pos := "law.go:88", after := #[{ on := 18, ground := Ground.data }, { on := 17, ground := Ground.chain }, { on := 17, ground := Ground.guard }], guard := some (17, false) }) rfl (fun K hK => ?_) AllReadyH.nil
    go_simp
    go_at_call 14
    refine (last_none _).mono ?_
    rintro e v2 ⟨rfl, hb⟩
    have B7' := Lib.hid (B7.out.below (hb))
    have B9' := Lib.hid (B9.out.below (hb))
    have B10' := Lib.hid (B10.out.below (hb))
    have BB' := Lib.hid (BB.out.trans ((hb).mono BB.out.size))
    clear B7
    have B7 := B7'
    clear B7'
    clear B9
    have B9 := B9'
    clear B9'
    clear B10
    have B10 := B10'
    clear B10'
    clear BB
    have BB := BB'
    clear BB'
    clear hb
    go_simp
    refine hK.out _ _ ?_ (fun hHeld => ?_)
    · exact ⟨B10.out.cell 0, B10.out.cell 1, B10.out.cell 2, B10.out.cell 3, B10.out.cell 4, B9.out.cells1.1⟩
    clear hK K
    (try simp only [Act.put])
    (try simp only [List.setIfInBounds_toArray])
    (try simp only [List.set_cons_succ])
    (try simp only [List.set_cons_zero])
    refine wpAnyH_take (i := 20) (oi := { dst := some 50, op := Op.field 38 (Operand.tmp 49) 0, type := 24, pos := "law.go:88", after := #[{ on := 19, ground := Ground.data }, { on := 17, ground := Ground.guard }], guard := some (17, false) }) (v := ?d3_20xv20) rfl (by kernel_rfl) (by kernel_rfl) (by kernel_rfl) (fun _ _ _ h => h) (Or.inl ⟨by rfl, ?d3_20xy20⟩) (by assumption) ?d3_20xr20
    case d3_20xy20 => (intro w hSw; (try dsimp only at hSw); go_simp; try with_reducible rfl)
    (try simp only [Act.put])
    (try simp only [List.setIfInBounds_toArray])
    (try simp only [List.set_cons_succ])
    (try simp only [List.set_cons_zero])
    refine wpAnyH_take (i := 22) (oi := { dst := some 52, op := Op.binOp BinOp.neq 24 (Operand.tmp 50) (Operand.tmp 51) 24, type := 4, pos := "law.go:88", after := #[{ on := 20, ground := Ground.data }, { on := 21, ground := Ground.data }, { on := 17, ground := Ground.guard }], guard := some (17, false) }) (v := ?d3_21xv22) rfl (by kernel_rfl) (by kernel_rfl) (by kernel_rfl) (fun _ _ _ h => h) (Or.inl ⟨by rfl, ?d3_21xy22⟩) (by assumption) ?d3_21xr22
    case d3_21xy22 => (intro w hSw; (try dsimp only at hSw); go_simp; try with_reducible rfl)
    (try simp only [Act.put])
    (try simp only [List.setIfInBounds_toArray])
    (try simp only [List.set_cons_succ])
    (try simp only [List.set_cons_zero])
    refine wpAnyH_take (i := 23) (oi := { dst := some 53, op := Op.pick (Operand.tmp 47) (Operand.const (Value.bool true)) (Operand.tmp 52), type := 4, pos := "law.go:88", after := #[{ on := 17, ground := Ground.data }, { on := 22, ground := Ground.data }], guard := none }) (v := ?d3_22xv23) rfl (by kernel_rfl) (by kernel_rfl) (by kernel_rfl) (fun _ _ _ h => h) (Or.inl ⟨by rfl, ?d3_22xy23⟩) (by assumption) ?d3_22xr23
    case d3_22xy23 => (intro w hSw; (try dsimp only at hSw); go_simp; try with_reducible rfl)
    (try simp only [Act.put])
    (try simp only [List.setIfInBounds_toArray])
    (try simp only [List.set_cons_succ])
    (try simp only [List.set_cons_zero])
    refine wpAnyH_take (i := 24) (oi := { dst := some 54, op := Op.move (Operand.tmp 53), type := 4, pos := "law.go:88", after := #[{ on := 23, ground := Ground.data }, { on := 19, ground := Ground.chain }], guard := none }) (v := ?d3_23xv24) rfl (by kernel_rfl) (by kernel_rfl) (by kernel_rfl) (fun _ _ _ h => h) (Or.inl ⟨by rfl, ?d3_23xy24⟩) (by assumption) ?d3_23xr24
    case d3_23xy24 => (intro w hSw; (try dsimp only at hSw); go_simp; try with_reducible rfl)
    (try simp only [Act.put])
    (try simp only [List.setIfInBounds_toArray])
    (try simp only [List.set_cons_succ])
    (try simp only [List.set_cons_zero])
    refine wpAnyH_take (i := 25) (oi := { dst := some 55, op := Op.load 29 (Operand.tmp 9), type := 29, pos := "law.go:88", after := #[{ on := 24, ground := Ground.guard }], guard := some (24, false) }) (v := ?d3_24xv25) rfl (by kernel_rfl) (by kernel_rfl) (by kernel_rfl) (fun _ _ _ h => h) (Or.inl ⟨by rfl, ?d3_24xy25⟩) (by assumption) ?d3_24xr25
    case d3_24xy25 => (intro w hSw; (try dsimp only at hSw); go_simp; try with_reducible rfl)
    (try simp only [Act.put])
    (try simp only [List.setIfInBounds_toArray])
    (try simp only [List.set_cons_succ])
    (try simp only [List.set_cons_zero])
    refine wpAnyH_take (i := 26) (oi := { dst := some 56, op := Op.move (Operand.tmp 2), type := 3, pos := "law.go:88", after := #[{ on := 24, ground := Ground.guard }], guard := some (24, false) }) (v := ?d3_25xv26) rfl (by kernel_rfl) (by kernel_rfl) (by kernel_rfl) (fun _ _ _ h => h) (Or.inl ⟨by rfl, ?d3_25xy26⟩) (by assumption) ?d3_25xr26
    case d3_25xy26 => (intro w hSw; (try dsimp only at hSw); go_simp; try with_reducible rfl)
    (try simp only [Act.put])
    (try simp only [List.setIfInBounds_toArray])
    (try simp only [List.set_cons_succ])
    (try simp only [List.set_cons_zero])
    refine wpAnyH_take (i := 27) (oi := { dst := some 57, op := Op.move (Operand.tmp 2), type := 3, pos := "law.go:88", after := #[{ on := 24, ground := Ground.guard }], guard := some (24, false) }) (v := ?d3_26xv27) rfl (by kernel_rfl) (by kernel_rfl) (by kernel_rfl) (fun _ _ _ h => h) (Or.inl ⟨by rfl, ?d3_26xy27⟩) (by assumption) ?d3_26xr27
    case d3_26xy27 => (intro w hSw; (try dsimp only at hSw); go_simp; try with_reducible rfl)
    (try simp only [Act.put])
    (try simp only [List.setIfInBounds_toArray])
    (try simp only [List.set_cons_succ])
    (try simp only [List.set_cons_zero])
    refine wpAnyH_ready (rs := [28]) (by kernel_rfl) (by simp) ?_
    refine AllReadyH.cons (o := { dst := some 58, op := Op.call { callee := Callee.value (Operand.func 18), args := #[Operand.tmp 55, Operand.tmp 56, Operand.tmp 57], argTypes := #[29, 3, 3] }, type := 3, pos := "law.go:88", after := #[{ on := 25, ground := Ground.data }, { on := 26, ground := Ground.data }, { on := 27, ground := Ground.data }, { on := 24, ground := Ground.chain }, { on := 24, ground := Ground.guard }], guard := some (24, false) }) rfl (fun K hK => ?_) AllReadyH.nil
    go_simp
    go_at_call 18
    refine (choose_any none 0 0 i i _ (by omega) (by omega) (by omega) (by omega) (by omega)).mono ?_
    rintro e v3 ⟨rfl, hb⟩
    have B7' := Lib.hid (B7.out.below (hb))
    have B9' := Lib.hid (B9.out.below (hb))
    have B10' := Lib.hid (B10.out.below (hb))
    have BB' := Lib.hid (BB.out.trans ((hb).mono BB.out.size))
    clear B7
    have B7 := B7'
    clear B7'
    clear B9
    have B9 := B9'
    clear B9'
    clear B10
    have B10 := B10'
    clear B10'
    clear BB
    have BB := BB'
    clear BB'
    clear hb
    rw [show chooseL 0 i i = -1 from rfl]
    go_simp
    refine hK.out _ _ ?_ (fun hHeld => ?_)
    · exact ⟨B10.out.cell 0, B10.out.cell 1, B10.out.cell 2, B10.out.cell 3, B10.out.cell 4, B9.out.cells1.1⟩
    clear hK K
    (try simp only [Act.put])
    (try simp only [List.setIfInBounds_toArray])
    (try simp only [List.set_cons_succ])
    (try simp only [List.set_cons_zero])
    refine wpAnyH_take (i := 29) (oi := { dst := some 59, op := Op.binOp BinOp.neq 3 (Operand.tmp 58) (Operand.const (Value.int IntKind.i64 (-1))) 3, type := 4, pos := "law.go:88", after := #[{ on := 28, ground := Ground.data }, { on := 24, ground := Ground.guard }], guard := some (24, false) }) (v := ?d4_27xv29) rfl (by kernel_rfl) (by kernel_rfl) (by kernel_rfl) (fun _ _ _ h => h) (Or.inl ⟨by rfl, ?d4_27xy29⟩) (by assumption) ?d4_27xr29
    case d4_27xy29 => (intro w hSw; (try dsimp only at hSw); go_simp; try with_reducible rfl)
    (try simp only [Act.put])
    (try simp only [List.setIfInBounds_toArray])
    (try simp only [List.set_cons_succ])
    (try simp only [List.set_cons_zero])
    refine wpAnyH_take (i := 30) (oi := { dst := some 60, op := Op.pick (Operand.tmp 54) (Operand.const (Value.bool true)) (Operand.tmp 59), type := 4, pos := "law.go:88", after := #[{ on := 24, ground := Ground.data }, { on := 29, ground := Ground.data }], guard := none }) (v := ?d4_28xv30) rfl (by kernel_rfl) (by kernel_rfl) (by kernel_rfl) (fun _ _ _ h => h) (Or.inl ⟨by rfl, ?d4_28xy30⟩) (by assumption) ?d4_28xr30
    case d4_28xy30 => (intro w hSw; (try dsimp only at hSw); go_simp; try with_reducible rfl)
    (try simp only [Act.put])
    (try simp only [List.setIfInBounds_toArray])
    (try simp only [List.set_cons_succ])
    (try simp only [List.set_cons_zero])
    refine wpAnyH_take (i := 31) (oi := { dst := some 61, op := Op.move (Operand.tmp 60), type := 4, pos := "law.go:88", after := #[{ on := 30, ground := Ground.data }, { on := 28, ground := Ground.chain }], guard := none }) (v := ?d4_29xv31) rfl (by kernel_rfl) (by kernel_rfl) (by kernel_rfl) (fun _ _ _ h => h) (Or.inl ⟨by rfl, ?d4_29xy31⟩) (by assumption) ?d4_29xr31
    case d4_29xy31 => (intro w hSw; (try dsimp only at hSw); go_simp; try with_reducible rfl)
    (try simp only [Act.put])
    (try simp only [List.setIfInBounds_toArray])
    (try simp only [List.set_cons_succ])
    (try simp only [List.set_cons_zero])
    refine wpAnyH_take (i := 32) (oi := { dst := some 62, op := Op.load 29 (Operand.tmp 9), type := 29, pos := "law.go:88", after := #[{ on := 31, ground := Ground.guard }], guard := some (31, false) }) (v := ?d4_30xv32) rfl (by kernel_rfl) (by kernel_rfl) (by kernel_rfl) (fun _ _ _ h => h) (Or.inl ⟨by rfl, ?d4_30xy32⟩) (by assumption) ?d4_30xr32
    case d4_30xy32 => (intro w hSw; (try dsimp only at hSw); go_simp; try with_reducible rfl)
    (try simp only [Act.put])
    (try simp only [List.setIfInBounds_toArray])
    (try simp only [List.set_cons_succ])
    (try simp only [List.set_cons_zero])
    refine wpAnyH_take (i := 33) (oi := { dst := some 63, op := Op.build 32 #[(1, Operand.const (Value.int IntKind.i64 3))], type := 32, pos := "law.go:88", after := #[{ on := 31, ground := Ground.guard }], guard := some (31, false) }) (v := ?d4_31xv33) rfl (by kernel_rfl) (by kernel_rfl) (by kernel_rfl) (fun _ _ _ h => h) (Or.inl ⟨by rfl, ?d4_31xy33⟩) (by assumption) ?d4_31xr33
    case d4_31xy33 => (intro w hSw; (try dsimp only at hSw); go_simp; try with_reducible rfl)
    (try simp only [Act.put])
    (try simp only [List.setIfInBounds_toArray])
    (try simp only [List.set_cons_succ])
    (try simp only [List.set_cons_zero])
    refine wpAnyH_ready (rs := [34]) (by kernel_rfl) (by simp) ?_
    refine AllReadyH.cons (o := { dst := some 64, op := Op.call { callee := Callee.value (Operand.func 11), args := #[Operand.tmp 63], argTypes := #[32] }, type := 38, pos := "law.go:88", after := #[{ on := 33, ground := Ground.data }, { on := 31, ground := Ground.chain }, { on := 31, ground := Ground.guard }], guard := some (31, false) }) rfl (fun K hK => ?_) AllReadyH.nil
    go_simp
    go_at_call 11
    refine (make_any one3 _ one3_ok).mono ?_
    rintro e v4 ⟨p2, rfl, hv, hb⟩
    have B7' := Lib.hid (B7.out.below (hb))
    have B9' := Lib.hid (B9.out.below (hb))
    have B10' := Lib.hid (B10.out.below (hb))
    have BB' := Lib.hid (BB.out.trans ((hb).mono BB.out.size))
    clear B7
    have B7 := B7'
    clear B7'
    clear B9
    have B9 := B9'
    clear B9'
    clear B10
    have B10 := B10'
    clear B10'
    clear BB
    have BB := BB'
    clear BB'
    clear hb
    have P2 := Lib.hid (hv)
    clear hv
    go_simp
    refine hK.out _ _ ?_ (fun hHeld => ?_)
    · exact ⟨B10.out.cell 0, B10.out.cell 1, B10.out.cell 2, B10.out.cell 3, B10.out.cell 4, B9.out.cells1.1⟩
    clear hK K
    (try simp only [Act.put])
    (try simp only [List.setIfInBounds_toArray])
    (try simp only [List.set_cons_succ])
    (try simp only [List.set_cons_zero])
    refine wpAnyH_ready (rs := [35]) (by kernel_rfl) (by simp) ?_
    refine AllReadyH.cons (o := { dst := some 65, op := Op.call { callee := Callee.value (Operand.func 10), args := #[Operand.tmp 62, Operand.tmp 64], argTypes := #[29, 38] }, type := 29, pos := "law.go:88", after := #[{ on := 32, ground := Ground.data }, { on := 34, ground := Ground.data }, { on := 34, ground := Ground.chain }, { on := 31, ground := Ground.guard }], guard := some (31, false) }) rfl (fun K hK => ?_) AllReadyH.nil
    go_simp
    go_at_call 10
    refine (add_any _ [] (one3.msg, p2) _ (HW.nil _) P2.out (by simp)).mono ?_
    rintro e v5 ⟨bz, hbz, rfl, hh, hb⟩
    have B7' := Lib.hid (B7.out.below (hb))
    have B9' := Lib.hid (B9.out.below (hb))
    have B10' := Lib.hid (B10.out.below (hb))
    have P2' := Lib.hid (P2.out.below (hb))
    have BB' := Lib.hid (BB.out.trans ((hb).mono BB.out.size))
    clear B7
    have B7 := B7'
    clear B7'
    clear B9
    have B9 := B9'
    clear B9'
    clear B10
    have B10 := B10'
    clear B10'
    clear P2
    have P2 := P2'
    clear P2'
    clear BB
    have BB := BB'
    clear BB'
    clear hb
    clear P2
    clear hh
    simp only [List.nil_append, List.length_cons, List.length_nil, Nat.zero_add]
    go_simp
    refine hK.out _ _ ?_ (fun hHeld => ?_)
    · exact ⟨B10.out.cell 0, B10.out.cell 1, B10.out.cell 2, B10.out.cell 3, B10.out.cell 4, B9.out.cells1.1⟩
    clear hK K
    (try simp only [Act.put])
    (try simp only [List.setIfInBounds_toArray])
    (try simp only [List.set_cons_succ])
    (try simp only [List.set_cons_zero])
    refine wpAnyH_ready (rs := [36]) (by kernel_rfl) (by simp) ?_
    refine AllReadyH.cons (o := { dst := some 66, op := Op.call { callee := Callee.value (Operand.func 13), args := #[Operand.tmp 65], argTypes := #[29] }, type := 3, pos := "law.go:88", after := #[{ on := 35, ground := Ground.data }, { on := 35, ground := Ground.chain }, { on := 31, ground := Ground.guard }], guard := some (31, false) }) rfl (fun K hK => ?_) AllReadyH.nil
    go_simp
    go_at_call 13
    refine (len_c _ 1 1 _).mono ?_
    rintro e v6 ⟨rfl, hb⟩
    have B7' := Lib.hid (B7.out.below (hb))
    have B9' := Lib.hid (B9.out.below (hb))
    have B10' := Lib.hid (B10.out.below (hb))
    have BB' := Lib.hid (BB.out.trans ((hb).mono BB.out.size))
    clear B7
    have B7 := B7'
    clear B7'
    clear B9
    have B9 := B9'
    clear B9'
    clear B10
    have B10 := B10'
    clear B10'
    clear BB
    have BB := BB'
    clear BB'
    clear hb
    go_simp
    refine hK.out _ _ ?_ (fun hHeld => ?_)
    · exact ⟨B10.out.cell 0, B10.out.cell 1, B10.out.cell 2, B10.out.cell 3, B10.out.cell 4, B9.out.cells1.1⟩
    clear hK K
    (try simp only [Act.put])
    (try simp only [List.setIfInBounds_toArray])
    (try simp only [List.set_cons_succ])
    (try simp only [List.set_cons_zero])
    refine wpAnyH_take (i := 37) (oi := { dst := some 67, op := Op.binOp BinOp.neq 3 (Operand.tmp 66) (Operand.const (Value.int IntKind.i64 1)) 3, type := 4, pos := "law.go:88", after := #[{ on := 36, ground := Ground.data }, { on := 31, ground := Ground.guard }], guard := some (31, false) }) (v := ?d7_32xv37) rfl (by kernel_rfl) (by kernel_rfl) (by kernel_rfl) (fun _ _ _ h => h) (Or.inl ⟨by rfl, ?d7_32xy37⟩) (by assumption) ?d7_32xr37
    case d7_32xy37 => (intro w hSw; (try dsimp only at hSw); go_simp; try with_reducible rfl)
    (try simp only [Act.put])
    (try simp only [List.setIfInBounds_toArray])
    (try simp only [List.set_cons_succ])
    (try simp only [List.set_cons_zero])
    refine wpAnyH_take (i := 38) (oi := { dst := some 68, op := Op.pick (Operand.tmp 61) (Operand.const (Value.bool true)) (Operand.tmp 67), type := 4, pos := "law.go:88", after := #[{ on := 31, ground := Ground.data }, { on := 37, ground := Ground.data }], guard := none }) (v := ?d7_33xv38) rfl (by kernel_rfl) (by kernel_rfl) (by kernel_rfl) (fun _ _ _ h => h) (Or.inl ⟨by rfl, ?d7_33xy38⟩) (by assumption) ?d7_33xr38
    case d7_33xy38 => (intro w hSw; (try dsimp only at hSw); go_simp; try with_reducible rfl)
    (try simp only [Act.put])
    (try simp only [List.setIfInBounds_toArray])
    (try simp only [List.set_cons_succ])
    (try simp only [List.set_cons_zero])
    refine wpAnyH_done (by kernel_rfl) ?_ _
    go_wp2
    go_meet
    case rel => exact ⟨rfl, B7.out, BB.out⟩
  case rest =>
    obtain ⟨rfl, B7', BB'⟩ := hcut
    clear B7 B9 B10 BB
    have B7 := Lib.hid B7'
    have BB := Lib.hid BB'
    clear B7' BB'
    go_wp2_with fail
    refine (awake_any _).mono ?_
    rintro e a6 ⟨rfl, hb⟩
    have B7' := Lib.hid (B7.out.below (hb))
    have BB' := Lib.hid (BB.out.trans ((hb).mono BB.out.size))
    clear B7
    have B7 := B7'
    clear B7'
    clear BB
    have BB := BB'
    clear BB'
    clear hb
    obtain ⟨⟨m0, m1, m2, m3, m4⟩, -⟩ := B7.out.cells5
    have BB2 := BB.out
    go_wp2
    go_ret
    exact ⟨by simp, BB2⟩

set_option maxRecDepth 100000 in
set_option maxHeartbeats 3200000 in
theorem outside_high (x y z : Int) (v : Value) (l : List One) (i : Int) (w : World) (h : IsOnes w v l) (ho : OnesOk l) (hl : l.length ≤ 100) (hi : (l.length : Int) < i) (i1 : i < 9223372036854775808) :
    Calls Try.prog 4 #[.agg #[.int .i64 x, .int .u32 y, .int .u32 z], v, .int .i64 i] w fun e w' => e = .returned (.bool true) ∧ Below w.heap.size w w' := by
  obtain ⟨a, cap, rfl⟩ := h.slice
  have HI := Lib.hid h
  have HO := Lib.hid ho
  have HL := Lib.hid (msgsOf_length x y z l)
  clear h ho
  obtain ⟨n, hn⟩ : ∃ n, l.length = n := ⟨_, rfl⟩
  have HN := Lib.hid hn
  rw [hn] at HI HL hl ⊢
  (try rw [hn] at hi)
  clear hn
  have qW := neqW
  have qE := eqlW
  have qF := field0V
  go_enter Try.func4, Try.ntmps4
  go_wp2_with fail
  have HI' := Lib.hid (HI.out.below (below_new w (.cells #[.int .i64 x, .int .u32 y, .int .u32 z] 24)))
  clear HI
  have HI := HI'
  clear HI'
  have BB := Lib.hid (below_new w (.cells #[.int .i64 x, .int .u32 y, .int .u32 z] 24))
  have B3 := Lib.hid (Box.new w #[.int .i64 x, .int .u32 y, .int .u32 z] 24 rfl)
  generalize World.alloc w (.cells #[.int .i64 x, .int .u32 y, .int .u32 z] 24) = a0 at *
  obtain ⟨b3, hb3⟩ : ∃ b, w.heap.size = b := ⟨_, rfl⟩
  rw [hb3] at B3 ⊢
  refine (made_any x y z _ l _ HI.out (by rw [HN.out]; omega) HO.out).mono ?_
  rintro e z1 hh
  obtain ⟨b, q, hq1, hq2, hq3, hq4, rfl, hq5, hb⟩ := hh.block
  clear hh hq3
  rw [HL.out] at hq4 hq5 ⊢
  have HI' := Lib.hid (HI.out.below (hb))
  have B3' := Lib.hid (B3.out.below (hb))
  have BB' := Lib.hid (BB.out.trans ((hb).mono BB.out.size))
  clear HI
  have HI := HI'
  clear HI'
  clear B3
  have B3 := B3'
  clear B3'
  clear BB
  have BB := BB'
  clear BB'
  have H := Lib.hid hq5
  clear hb hq5 HI HO B3
  go_wp2_with fail
  refine (hat_out _ q i _ H.out (by omega)).mono ?_
  rintro e a1 ⟨rfl, hb⟩
  have H' := Lib.hid (H.out.below (hb))
  have BB' := Lib.hid (BB.out.trans ((hb).mono BB.out.size))
  clear H
  have H := H'
  clear H'
  clear BB
  have BB := BB'
  clear BB'
  clear hb
  clear H
  go_wp2_with fail
  have hlt_b7 := BB.out.size
  have BB' := Lib.hid (BB.out.trans ((below_new a1 (.cells #[.int .i64 0, .int .u32 0, .int .u32 0, .int .i64 0, .map none] 38)).mono BB.out.size))
  clear BB
  have BB := BB'
  clear BB'
  have B7 := Lib.hid (Box.new a1 #[.int .i64 0, .int .u32 0, .int .u32 0, .int .i64 0, .map none] 38 rfl)
  have hsz_b7 : (World.alloc a1 (.cells #[.int .i64 0, .int .u32 0, .int .u32 0, .int .i64 0, .map none] 38)).heap.size = (World.heap a1).size + 1 := by simp
  generalize World.alloc a1 (.cells #[.int .i64 0, .int .u32 0, .int .u32 0, .int .i64 0, .map none] 38) = a2 at *
  generalize World.heap a1 = hp_b7 at *
  generalize hp_b7.size = b7 at *
  have hlt_b9 := BB.out.size
  have B7' := Lib.hid (B7.out.below (below_new a2 (.cells #[.slice none 0 0] 29)))
  have BB' := Lib.hid (BB.out.trans ((below_new a2 (.cells #[.slice none 0 0] 29)).mono BB.out.size))
  clear B7
  have B7 := B7'
  clear B7'
  clear BB
  have BB := BB'
  clear BB'
  have B9 := Lib.hid (Box.new a2 #[.slice none 0 0] 29 (n := b7 + 1) hsz_b7.symm)
  have hsz_b9 : (World.alloc a2 (.cells #[.slice none 0 0] 29)).heap.size = b7 + 1 + 1 := by simp [hsz_b7]
  rw [hsz_b7] at hlt_b9
  generalize World.alloc a2 (.cells #[.slice none 0 0] 29) = a3 at *
  obtain ⟨b9, hq_b9⟩ : ∃ b, b7 + 1 = b := ⟨_, rfl⟩
  rw [hq_b9] at B9 hsz_b9 ⊢
  refine (hat_out _ [] i _ (HW.nil _) (by simp <;> omega)).mono ?_
  rintro e a4 ⟨rfl, hb⟩
  have B7' := Lib.hid (B7.out.below (hb))
  have B9' := Lib.hid (B9.out.below (hb))
  have BB' := Lib.hid (BB.out.trans ((hb).mono BB.out.size))
  clear B7
  have B7 := B7'
  clear B7'
  clear B9
  have B9 := B9'
  clear B9'
  clear BB
  have BB := BB'
  clear BB'
  clear hb
  go_wp2_with fail
  have hlt_b10 := BB.out.size
  have hlt_b10_B7 := B7.out.lt
  have hlt_b10_B9 := B9.out.lt
  have B7' := Lib.hid (B7.out.below (below_new a4 (.cells #[.int .i64 0, .int .u32 0, .int .u32 0, .int .i64 0, .map none] 38)))
  have B9' := Lib.hid (B9.out.below (below_new a4 (.cells #[.int .i64 0, .int .u32 0, .int .u32 0, .int .i64 0, .map none] 38)))
  have BB' := Lib.hid (BB.out.trans ((below_new a4 (.cells #[.int .i64 0, .int .u32 0, .int .u32 0, .int .i64 0, .map none] 38)).mono BB.out.size))
  clear B7
  have B7 := B7'
  clear B7'
  clear B9
  have B9 := B9'
  clear B9'
  clear BB
  have BB := BB'
  clear BB'
  have B10 := Lib.hid (Box.new a4 #[.int .i64 0, .int .u32 0, .int .u32 0, .int .i64 0, .map none] 38 rfl)
  have hsz_b10 : (World.alloc a4 (.cells #[.int .i64 0, .int .u32 0, .int .u32 0, .int .i64 0, .map none] 38)).heap.size = (World.heap a4).size + 1 := by simp
  generalize World.alloc a4 (.cells #[.int .i64 0, .int .u32 0, .int .u32 0, .int .i64 0, .map none] 38) = a5 at *
  generalize World.heap a4 = hp_b10 at *
  generalize hp_b10.size = b10 at *
  go_cut [68] (fun s68 wx => s68 = .bool false ∧ Box wx b7 #[.int .i64 0, .int .u32 0, .int .u32 0, .int .i64 0, .map none] 38 ∧ Below w.heap.size w wx)
  case first =>
    have B7' := Lib.hid (B7.out.below ((Below.refl _ _).drew))
    have B9' := Lib.hid (B9.out.below ((Below.refl _ _).drew))
    have B10' := Lib.hid (B10.out.below ((Below.refl _ _).drew))
    have BB' := Lib.hid (BB.out.trans (((Below.refl _ _).drew).mono BB.out.size))
    clear B7
    have B7 := B7'
    clear B7'
    clear B9
    have B9 := B9'
    clear B9'
    clear B10
    have B10 := B10'
    clear B10'
    clear BB
    have BB := BB'
    clear BB'
    refine wp_region_held_drew (S := fun w' => w'.cell? ⟨b10, 0, none⟩ = some (.int .i64 0) ∧ w'.cell? ⟨b10, 1, none⟩ = some (.int .u32 0) ∧ w'.cell? ⟨b10, 2, none⟩ = some (.int .u32 0) ∧ w'.cell? ⟨b10, 3, none⟩ = some (.int .i64 0) ∧ w'.cell? ⟨b10, 4, none⟩ = some (.map none) ∧ w'.cell? ⟨b9, 0, none⟩ = some (.slice none 0 0)) (by kernel_rfl) ⟨B10.out.cell 0, B10.out.cell 1, B10.out.cell 2, B10.out.cell 3, B10.out.cell 4, B9.out.cells1.1⟩ (fun hHeld => ?_)
    generalize World.drew a5 = V0 at *
    refine wpAnyH_take (i := 0) (oi := { dst := some 30, op := Op.move (Operand.tmp 11), type := 4, pos := "law.go:88", after := #[], guard := none }) (v := ?d1_1xv0) rfl (by kernel_rfl) (by kernel_rfl) (by kernel_rfl) (fun _ _ _ h => h) (Or.inl ⟨by rfl, ?d1_1xy0⟩) (by assumption) ?d1_1xr0
    case d1_1xy0 => (intro w hSw; (try dsimp only at hSw); go_simp; try with_reducible rfl)
    (try simp only [Act.put])
    (try simp only [List.setIfInBounds_toArray])
    (try simp only [List.set_cons_succ])
    (try simp only [List.set_cons_zero])
    refine wpAnyH_take (i := 1) (oi := { dst := some 31, op := Op.move (Operand.tmp 30), type := 4, pos := "law.go:88", after := #[{ on := 0, ground := Ground.data }], guard := none }) (v := ?d1_2xv1) rfl (by kernel_rfl) (by kernel_rfl) (by kernel_rfl) (fun _ _ _ h => h) (Or.inl ⟨by rfl, ?d1_2xy1⟩) (by assumption) ?d1_2xr1
    case d1_2xy1 => (intro w hSw; (try dsimp only at hSw); go_simp; try with_reducible rfl)
    (try simp only [Act.put])
    (try simp only [List.setIfInBounds_toArray])
    (try simp only [List.set_cons_succ])
    (try simp only [List.set_cons_zero])
    refine wpAnyH_take (i := 2) (oi := { dst := some 32, op := Op.fieldAddr 38 (Operand.tmp 10) 1, type := 0, pos := "law.go:88", after := #[{ on := 1, ground := Ground.guard }], guard := some (1, false) }) (v := ?d1_3xv2) rfl (by kernel_rfl) (by kernel_rfl) (by kernel_rfl) (fun _ _ _ h => h) (Or.inl ⟨by rfl, ?d1_3xy2⟩) (by assumption) ?d1_3xr2
    case d1_3xy2 => (intro w hSw; (try dsimp only at hSw); go_simp; try with_reducible rfl)
    (try simp only [Act.put])
    (try simp only [List.setIfInBounds_toArray])
    (try simp only [List.set_cons_succ])
    (try simp only [List.set_cons_zero])
    refine wpAnyH_take (i := 3) (oi := { dst := some 33, op := Op.load 3 (Operand.tmp 32), type := 3, pos := "law.go:88", after := #[{ on := 2, ground := Ground.data }, { on := 1, ground := Ground.guard }], guard := some (1, false) }) (v := ?d1_4xv3) rfl (by kernel_rfl) (by kernel_rfl) (by kernel_rfl) (fun _ _ _ h => h) (Or.inl ⟨by rfl, ?d1_4xy3⟩) (by assumption) ?d1_4xr3
    case d1_4xy3 => (intro w hSw; (try dsimp only at hSw); go_simp; try with_reducible rfl)
    (try simp only [Act.put])
    (try simp only [List.setIfInBounds_toArray])
    (try simp only [List.set_cons_succ])
    (try simp only [List.set_cons_zero])
    refine wpAnyH_take (i := 4) (oi := { dst := some 34, op := Op.binOp BinOp.neq 3 (Operand.tmp 33) (Operand.const (Value.int IntKind.i64 0)) 3, type := 4, pos := "law.go:88", after := #[{ on := 3, ground := Ground.data }, { on := 1, ground := Ground.guard }], guard := some (1, false) }) (v := ?d1_5xv4) rfl (by kernel_rfl) (by kernel_rfl) (by kernel_rfl) (fun _ _ _ h => h) (Or.inl ⟨by rfl, ?d1_5xy4⟩) (by assumption) ?d1_5xr4
    case d1_5xy4 => (intro w hSw; (try dsimp only at hSw); go_simp; try with_reducible rfl)
    (try simp only [Act.put])
    (try simp only [List.setIfInBounds_toArray])
    (try simp only [List.set_cons_succ])
    (try simp only [List.set_cons_zero])
    refine wpAnyH_take (i := 5) (oi := { dst := some 35, op := Op.pick (Operand.tmp 31) (Operand.const (Value.bool true)) (Operand.tmp 34), type := 4, pos := "law.go:88", after := #[{ on := 1, ground := Ground.data }, { on := 4, ground := Ground.data }], guard := none }) (v := ?d1_6xv5) rfl (by kernel_rfl) (by kernel_rfl) (by kernel_rfl) (fun _ _ _ h => h) (Or.inl ⟨by rfl, ?d1_6xy5⟩) (by assumption) ?d1_6xr5
    case d1_6xy5 => (intro w hSw; (try dsimp only at hSw); go_simp; try with_reducible rfl)
    (try simp only [Act.put])
    (try simp only [List.setIfInBounds_toArray])
    (try simp only [List.set_cons_succ])
    (try simp only [List.set_cons_zero])
    refine wpAnyH_take (i := 6) (oi := { dst := some 36, op := Op.move (Operand.tmp 35), type := 4, pos := "law.go:88", after := #[{ on := 5, ground := Ground.data }, { on := 1, ground := Ground.chain }], guard := none }) (v := ?d1_7xv6) rfl (by kernel_rfl) (by kernel_rfl) (by kernel_rfl) (fun _ _ _ h => h) (Or.inl ⟨by rfl, ?d1_7xy6⟩) (by assumption) ?d1_7xr6
    case d1_7xy6 => (intro w hSw; (try dsimp only at hSw); go_simp; try with_reducible rfl)
    (try simp only [Act.put])
    (try simp only [List.setIfInBounds_toArray])
    (try simp only [List.set_cons_succ])
    (try simp only [List.set_cons_zero])
    refine wpAnyH_take (i := 7) (oi := { dst := some 37, op := Op.fieldAddr 38 (Operand.tmp 10) 0, type := 0, pos := "law.go:88", after := #[{ on := 6, ground := Ground.guard }], guard := some (6, false) }) (v := ?d1_8xv7) rfl (by kernel_rfl) (by kernel_rfl) (by kernel_rfl) (fun _ _ _ h => h) (Or.inl ⟨by rfl, ?d1_8xy7⟩) (by assumption) ?d1_8xr7
    case d1_8xy7 => (intro w hSw; (try dsimp only at hSw); go_simp; try with_reducible rfl)
    (try simp only [Act.put])
    (try simp only [List.setIfInBounds_toArray])
    (try simp only [List.set_cons_succ])
    (try simp only [List.set_cons_zero])
    refine wpAnyH_take (i := 8) (oi := { dst := some 38, op := Op.load 24 (Operand.tmp 37), type := 24, pos := "law.go:88", after := #[{ on := 7, ground := Ground.data }, { on := 6, ground := Ground.guard }], guard := some (6, false) }) (v := ?d1_9xv8) rfl (by kernel_rfl) (by kernel_rfl) (by kernel_rfl) (fun _ _ _ h => h) (Or.inl ⟨by rfl, ?d1_9xy8⟩) (by assumption) ?d1_9xr8
    case d1_9xy8 => (intro w hSw; (try dsimp only at hSw); go_simp; try with_reducible rfl)
    (try simp only [Act.put])
    (try simp only [List.setIfInBounds_toArray])
    (try simp only [List.set_cons_succ])
    (try simp only [List.set_cons_zero])
    refine wpAnyH_take (i := 9) (oi := { dst := some 39, op := Op.build 24 #[], type := 24, pos := "law.go:88", after := #[{ on := 6, ground := Ground.guard }], guard := some (6, false) }) (v := ?d1_10xv9) rfl (by kernel_rfl) (by kernel_rfl) (by kernel_rfl) (fun _ _ _ h => h) (Or.inl ⟨by rfl, ?d1_10xy9⟩) (by assumption) ?d1_10xr9
    case d1_10xy9 => (intro w hSw; (try dsimp only at hSw); go_simp; try with_reducible rfl)
    (try simp only [Act.put])
    (try simp only [List.setIfInBounds_toArray])
    (try simp only [List.set_cons_succ])
    (try simp only [List.set_cons_zero])
    refine wpAnyH_take (i := 10) (oi := { dst := some 40, op := Op.binOp BinOp.neq 24 (Operand.tmp 38) (Operand.tmp 39) 24, type := 4, pos := "law.go:88", after := #[{ on := 8, ground := Ground.data }, { on := 9, ground := Ground.data }, { on := 6, ground := Ground.guard }], guard := some (6, false) }) (v := ?d1_11xv10) rfl (by kernel_rfl) (by kernel_rfl) (by kernel_rfl) (fun _ _ _ h => h) (Or.inl ⟨by rfl, ?d1_11xy10⟩) (by assumption) ?d1_11xr10
    case d1_11xy10 => (intro w hSw; (try dsimp only at hSw); go_simp; try with_reducible rfl)
    (try simp only [Act.put])
    (try simp only [List.setIfInBounds_toArray])
    (try simp only [List.set_cons_succ])
    (try simp only [List.set_cons_zero])
    refine wpAnyH_take (i := 11) (oi := { dst := some 41, op := Op.pick (Operand.tmp 36) (Operand.const (Value.bool true)) (Operand.tmp 40), type := 4, pos := "law.go:88", after := #[{ on := 6, ground := Ground.data }, { on := 10, ground := Ground.data }], guard := none }) (v := ?d1_12xv11) rfl (by kernel_rfl) (by kernel_rfl) (by kernel_rfl) (fun _ _ _ h => h) (Or.inl ⟨by rfl, ?d1_12xy11⟩) (by assumption) ?d1_12xr11
    case d1_12xy11 => (intro w hSw; (try dsimp only at hSw); go_simp; try with_reducible rfl)
    (try simp only [Act.put])
    (try simp only [List.setIfInBounds_toArray])
    (try simp only [List.set_cons_succ])
    (try simp only [List.set_cons_zero])
    refine wpAnyH_take (i := 12) (oi := { dst := some 42, op := Op.move (Operand.tmp 41), type := 4, pos := "law.go:88", after := #[{ on := 11, ground := Ground.data }, { on := 6, ground := Ground.chain }], guard := none }) (v := ?d1_13xv12) rfl (by kernel_rfl) (by kernel_rfl) (by kernel_rfl) (fun _ _ _ h => h) (Or.inl ⟨by rfl, ?d1_13xy12⟩) (by assumption) ?d1_13xr12
    case d1_13xy12 => (intro w hSw; (try dsimp only at hSw); go_simp; try with_reducible rfl)
    (try simp only [Act.put])
    (try simp only [List.setIfInBounds_toArray])
    (try simp only [List.set_cons_succ])
    (try simp only [List.set_cons_zero])
    refine wpAnyH_take (i := 13) (oi := { dst := some 43, op := Op.load 29 (Operand.tmp 9), type := 29, pos := "law.go:88", after := #[{ on := 12, ground := Ground.guard }], guard := some (12, false) }) (v := ?d1_14xv13) rfl (by kernel_rfl) (by kernel_rfl) (by kernel_rfl) (fun _ _ _ h => h) (Or.inl ⟨by rfl, ?d1_14xy13⟩) (by assumption) ?d1_14xr13
    case d1_14xy13 => (intro w hSw; (try dsimp only at hSw); go_simp; try with_reducible rfl)
    (try simp only [Act.put])
    (try simp only [List.setIfInBounds_toArray])
    (try simp only [List.set_cons_succ])
    (try simp only [List.set_cons_zero])
    refine wpAnyH_ready (rs := [14]) (by kernel_rfl) (by simp) ?_
    refine AllReadyH.cons (o := { dst := some 44, op := Op.call { callee := Callee.value (Operand.func 13), args := #[Operand.tmp 43], argTypes := #[29] }, type := 3, pos := "law.go:88", after := #[{ on := 13, ground := Ground.data }, { on := 12, ground := Ground.chain }, { on := 12, ground := Ground.guard }], guard := some (12, false) }) rfl (fun K hK => ?_) AllReadyH.nil
    go_simp
    go_at_call 13
    refine (len_c _ 0 0 _).mono ?_
    rintro e v1 ⟨rfl, hb⟩
    have B7' := Lib.hid (B7.out.below (hb))
    have B9' := Lib.hid (B9.out.below (hb))
    have B10' := Lib.hid (B10.out.below (hb))
    have BB' := Lib.hid (BB.out.trans ((hb).mono BB.out.size))
    clear B7
    have B7 := B7'
    clear B7'
    clear B9
    have B9 := B9'
    clear B9'
    clear B10
    have B10 := B10'
    clear B10'
    clear BB
    have BB := BB'
    clear BB'
    clear hb
    go_simp
    refine hK.out _ _ ?_ (fun hHeld => ?_)
    · exact ⟨B10.out.cell 0, B10.out.cell 1, B10.out.cell 2, B10.out.cell 3, B10.out.cell 4, B9.out.cells1.1⟩
    clear hK K
    (try simp only [Act.put])
    (try simp only [List.setIfInBounds_toArray])
    (try simp only [List.set_cons_succ])
    (try simp only [List.set_cons_zero])
    refine wpAnyH_take (i := 15) (oi := { dst := some 45, op := Op.binOp BinOp.neq 3 (Operand.tmp 44) (Operand.const (Value.int IntKind.i64 0)) 3, type := 4, pos := "law.go:88", after := #[{ on := 14, ground := Ground.data }, { on := 12, ground := Ground.guard }], guard := some (12, false) }) (v := ?d2_15xv15) rfl (by kernel_rfl) (by kernel_rfl) (by kernel_rfl) (fun _ _ _ h => h) (Or.inl ⟨by rfl, ?d2_15xy15⟩) (by assumption) ?d2_15xr15
    case d2_15xy15 => (intro w hSw; (try dsimp only at hSw); go_simp; try with_reducible rfl)
    (try simp only [Act.put])
    (try simp only [List.setIfInBounds_toArray])
    (try simp only [List.set_cons_succ])
    (try simp only [List.set_cons_zero])
    refine wpAnyH_take (i := 16) (oi := { dst := some 46, op := Op.pick (Operand.tmp 42) (Operand.const (Value.bool true)) (Operand.tmp 45), type := 4, pos := "law.go:88", after := #[{ on := 12, ground := Ground.data }, { on := 15, ground := Ground.data }], guard := none }) (v := ?d2_16xv16) rfl (by kernel_rfl) (by kernel_rfl) (by kernel_rfl) (fun _ _ _ h => h) (Or.inl ⟨by rfl, ?d2_16xy16⟩) (by assumption) ?d2_16xr16
    case d2_16xy16 => (intro w hSw; (try dsimp only at hSw); go_simp; try with_reducible rfl)
    (try simp only [Act.put])
    (try simp only [List.setIfInBounds_toArray])
    (try simp only [List.set_cons_succ])
    (try simp only [List.set_cons_zero])
    refine wpAnyH_take (i := 17) (oi := { dst := some 47, op := Op.move (Operand.tmp 46), type := 4, pos := "law.go:88", after := #[{ on := 16, ground := Ground.data }, { on := 14, ground := Ground.chain }], guard := none }) (v := ?d2_17xv17) rfl (by kernel_rfl) (by kernel_rfl) (by kernel_rfl) (fun _ _ _ h => h) (Or.inl ⟨by rfl, ?d2_17xy17⟩) (by assumption) ?d2_17xr17
    case d2_17xy17 => (intro w hSw; (try dsimp only at hSw); go_simp; try with_reducible rfl)
    (try simp only [Act.put])
    (try simp only [List.setIfInBounds_toArray])
    (try simp only [List.set_cons_succ])
    (try simp only [List.set_cons_zero])
    refine wpAnyH_take (i := 18) (oi := { dst := some 48, op := Op.load 29 (Operand.tmp 9), type := 29, pos := "law.go:88", after := #[{ on := 17, ground := Ground.guard }], guard := some (17, false) }) (v := ?d2_18xv18) rfl (by kernel_rfl) (by kernel_rfl) (by kernel_rfl) (fun _ _ _ h => h) (Or.inl ⟨by rfl, ?d2_18xy18⟩) (by assumption) ?d2_18xr18
    case d2_18xy18 => (intro w hSw; (try dsimp only at hSw); go_simp; try with_reducible rfl)
    (try simp only [Act.put])
    (try simp only [List.setIfInBounds_toArray])
    (try simp only [List.set_cons_succ])
    (try simp only [List.set_cons_zero])
    refine wpAnyH_take (i := 21) (oi := { dst := some 51, op := Op.build 24 #[], type := 24, pos := "law.go:88", after := #[{ on := 17, ground := Ground.guard }], guard := some (17, false) }) (v := ?d2_19xv21) rfl (by kernel_rfl) (by kernel_rfl) (by kernel_rfl) (fun _ _ _ h => h) (Or.inl ⟨by rfl, ?d2_19xy21⟩) (by assumption) ?d2_19xr21
    case d2_19xy21 => (intro w hSw; (try dsimp only at hSw); go_simp; try with_reducible rfl)
    (try simp only [Act.put])
    (try simp only [List.setIfInBounds_toArray])
    (try simp only [List.set_cons_succ])
    (try simp only [List.set_cons_zero])
    refine wpAnyH_ready (rs := [19]) (by kernel_rfl) (by simp) ?_
    refine AllReadyH.cons (o := { dst := some 49, op := Op.call { callee := Callee.value (Operand.func 14), args := #[Operand.tmp 48], argTypes := #[29] }, type := 38, pos := "law.go:88", after := #[{ on := 18, ground := Ground.data }, { on := 17, ground := Ground.chain }, { on := 17, ground := Ground.guard }], guard := some (17, false) }) rfl (fun K hK => ?_) AllReadyH.nil
    go_simp
    go_at_call 14
    refine (last_none _).mono ?_
    rintro e v2 ⟨rfl, hb⟩
    have B7' := Lib.hid (B7.out.below (hb))
    have B9' := Lib.hid (B9.out.below (hb))
    have B10' := Lib.hid (B10.out.below (hb))
    have BB' := Lib.hid (BB.out.trans ((hb).mono BB.out.size))
    clear B7
    have B7 := B7'
    clear B7'
    clear B9
    have B9 := B9'
    clear B9'
    clear B10
    have B10 := B10'
    clear B10'
    clear BB
    have BB := BB'
    clear BB'
    clear hb
    go_simp
    refine hK.out _ _ ?_ (fun hHeld => ?_)
    · exact ⟨B10.out.cell 0, B10.out.cell 1, B10.out.cell 2, B10.out.cell 3, B10.out.cell 4, B9.out.cells1.1⟩
    clear hK K
    (try simp only [Act.put])
    (try simp only [List.setIfInBounds_toArray])
    (try simp only [List.set_cons_succ])
    (try simp only [List.set_cons_zero])
    refine wpAnyH_take (i := 20) (oi := { dst := some 50, op := Op.field 38 (Operand.tmp 49) 0, type := 24, pos := "law.go:88", after := #[{ on := 19, ground := Ground.data }, { on := 17, ground := Ground.guard }], guard := some (17, false) }) (v := ?d3_20xv20) rfl (by kernel_rfl) (by kernel_rfl) (by kernel_rfl) (fun _ _ _ h => h) (Or.inl ⟨by rfl, ?d3_20xy20⟩) (by assumption) ?d3_20xr20
    case d3_20xy20 => (intro w hSw; (try dsimp only at hSw); go_simp; try with_reducible rfl)
    (try simp only [Act.put])
    (try simp only [List.setIfInBounds_toArray])
    (try simp only [List.set_cons_succ])
    (try simp only [List.set_cons_zero])
    refine wpAnyH_take (i := 22) (oi := { dst := some 52, op := Op.binOp BinOp.neq 24 (Operand.tmp 50) (Operand.tmp 51) 24, type := 4, pos := "law.go:88", after := #[{ on := 20, ground := Ground.data }, { on := 21, ground := Ground.data }, { on := 17, ground := Ground.guard }], guard := some (17, false) }) (v := ?d3_21xv22) rfl (by kernel_rfl) (by kernel_rfl) (by kernel_rfl) (fun _ _ _ h => h) (Or.inl ⟨by rfl, ?d3_21xy22⟩) (by assumption) ?d3_21xr22
    case d3_21xy22 => (intro w hSw; (try dsimp only at hSw); go_simp; try with_reducible rfl)
    (try simp only [Act.put])
    (try simp only [List.setIfInBounds_toArray])
    (try simp only [List.set_cons_succ])
    (try simp only [List.set_cons_zero])
    refine wpAnyH_take (i := 23) (oi := { dst := some 53, op := Op.pick (Operand.tmp 47) (Operand.const (Value.bool true)) (Operand.tmp 52), type := 4, pos := "law.go:88", after := #[{ on := 17, ground := Ground.data }, { on := 22, ground := Ground.data }], guard := none }) (v := ?d3_22xv23) rfl (by kernel_rfl) (by kernel_rfl) (by kernel_rfl) (fun _ _ _ h => h) (Or.inl ⟨by rfl, ?d3_22xy23⟩) (by assumption) ?d3_22xr23
    case d3_22xy23 => (intro w hSw; (try dsimp only at hSw); go_simp; try with_reducible rfl)
    (try simp only [Act.put])
    (try simp only [List.setIfInBounds_toArray])
    (try simp only [List.set_cons_succ])
    (try simp only [List.set_cons_zero])
    refine wpAnyH_take (i := 24) (oi := { dst := some 54, op := Op.move (Operand.tmp 53), type := 4, pos := "law.go:88", after := #[{ on := 23, ground := Ground.data }, { on := 19, ground := Ground.chain }], guard := none }) (v := ?d3_23xv24) rfl (by kernel_rfl) (by kernel_rfl) (by kernel_rfl) (fun _ _ _ h => h) (Or.inl ⟨by rfl, ?d3_23xy24⟩) (by assumption) ?d3_23xr24
    case d3_23xy24 => (intro w hSw; (try dsimp only at hSw); go_simp; try with_reducible rfl)
    (try simp only [Act.put])
    (try simp only [List.setIfInBounds_toArray])
    (try simp only [List.set_cons_succ])
    (try simp only [List.set_cons_zero])
    refine wpAnyH_take (i := 25) (oi := { dst := some 55, op := Op.load 29 (Operand.tmp 9), type := 29, pos := "law.go:88", after := #[{ on := 24, ground := Ground.guard }], guard := some (24, false) }) (v := ?d3_24xv25) rfl (by kernel_rfl) (by kernel_rfl) (by kernel_rfl) (fun _ _ _ h => h) (Or.inl ⟨by rfl, ?d3_24xy25⟩) (by assumption) ?d3_24xr25
    case d3_24xy25 => (intro w hSw; (try dsimp only at hSw); go_simp; try with_reducible rfl)
    (try simp only [Act.put])
    (try simp only [List.setIfInBounds_toArray])
    (try simp only [List.set_cons_succ])
    (try simp only [List.set_cons_zero])
    refine wpAnyH_take (i := 26) (oi := { dst := some 56, op := Op.move (Operand.tmp 2), type := 3, pos := "law.go:88", after := #[{ on := 24, ground := Ground.guard }], guard := some (24, false) }) (v := ?d3_25xv26) rfl (by kernel_rfl) (by kernel_rfl) (by kernel_rfl) (fun _ _ _ h => h) (Or.inl ⟨by rfl, ?d3_25xy26⟩) (by assumption) ?d3_25xr26
    case d3_25xy26 => (intro w hSw; (try dsimp only at hSw); go_simp; try with_reducible rfl)
    (try simp only [Act.put])
    (try simp only [List.setIfInBounds_toArray])
    (try simp only [List.set_cons_succ])
    (try simp only [List.set_cons_zero])
    refine wpAnyH_take (i := 27) (oi := { dst := some 57, op := Op.move (Operand.tmp 2), type := 3, pos := "law.go:88", after := #[{ on := 24, ground := Ground.guard }], guard := some (24, false) }) (v := ?d3_26xv27) rfl (by kernel_rfl) (by kernel_rfl) (by kernel_rfl) (fun _ _ _ h => h) (Or.inl ⟨by rfl, ?d3_26xy27⟩) (by assumption) ?d3_26xr27
    case d3_26xy27 => (intro w hSw; (try dsimp only at hSw); go_simp; try with_reducible rfl)
    (try simp only [Act.put])
    (try simp only [List.setIfInBounds_toArray])
    (try simp only [List.set_cons_succ])
    (try simp only [List.set_cons_zero])
    refine wpAnyH_ready (rs := [28]) (by kernel_rfl) (by simp) ?_
    refine AllReadyH.cons (o := { dst := some 58, op := Op.call { callee := Callee.value (Operand.func 18), args := #[Operand.tmp 55, Operand.tmp 56, Operand.tmp 57], argTypes := #[29, 3, 3] }, type := 3, pos := "law.go:88", after := #[{ on := 25, ground := Ground.data }, { on := 26, ground := Ground.data }, { on := 27, ground := Ground.data }, { on := 24, ground := Ground.chain }, { on := 24, ground := Ground.guard }], guard := some (24, false) }) rfl (fun K hK => ?_) AllReadyH.nil
    go_simp
    go_at_call 18
    refine (choose_any none 0 0 i i _ (by omega) (by omega) (by omega) (by omega) (by omega)).mono ?_
    rintro e v3 ⟨rfl, hb⟩
    have B7' := Lib.hid (B7.out.below (hb))
    have B9' := Lib.hid (B9.out.below (hb))
    have B10' := Lib.hid (B10.out.below (hb))
    have BB' := Lib.hid (BB.out.trans ((hb).mono BB.out.size))
    clear B7
    have B7 := B7'
    clear B7'
    clear B9
    have B9 := B9'
    clear B9'
    clear B10
    have B10 := B10'
    clear B10'
    clear BB
    have BB := BB'
    clear BB'
    clear hb
    rw [show chooseL 0 i i = -1 from rfl]
    go_simp
    refine hK.out _ _ ?_ (fun hHeld => ?_)
    · exact ⟨B10.out.cell 0, B10.out.cell 1, B10.out.cell 2, B10.out.cell 3, B10.out.cell 4, B9.out.cells1.1⟩
    clear hK K
    (try simp only [Act.put])
    (try simp only [List.setIfInBounds_toArray])
    (try simp only [List.set_cons_succ])
    (try simp only [List.set_cons_zero])
    refine wpAnyH_take (i := 29) (oi := { dst := some 59, op := Op.binOp BinOp.neq 3 (Operand.tmp 58) (Operand.const (Value.int IntKind.i64 (-1))) 3, type := 4, pos := "law.go:88", after := #[{ on := 28, ground := Ground.data }, { on := 24, ground := Ground.guard }], guard := some (24, false) }) (v := ?d4_27xv29) rfl (by kernel_rfl) (by kernel_rfl) (by kernel_rfl) (fun _ _ _ h => h) (Or.inl ⟨by rfl, ?d4_27xy29⟩) (by assumption) ?d4_27xr29
    case d4_27xy29 => (intro w hSw; (try dsimp only at hSw); go_simp; try with_reducible rfl)
    (try simp only [Act.put])
    (try simp only [List.setIfInBounds_toArray])
    (try simp only [List.set_cons_succ])
    (try simp only [List.set_cons_zero])
    refine wpAnyH_take (i := 30) (oi := { dst := some 60, op := Op.pick (Operand.tmp 54) (Operand.const (Value.bool true)) (Operand.tmp 59), type := 4, pos := "law.go:88", after := #[{ on := 24, ground := Ground.data }, { on := 29, ground := Ground.data }], guard := none }) (v := ?d4_28xv30) rfl (by kernel_rfl) (by kernel_rfl) (by kernel_rfl) (fun _ _ _ h => h) (Or.inl ⟨by rfl, ?d4_28xy30⟩) (by assumption) ?d4_28xr30
    case d4_28xy30 => (intro w hSw; (try dsimp only at hSw); go_simp; try with_reducible rfl)
    (try simp only [Act.put])
    (try simp only [List.setIfInBounds_toArray])
    (try simp only [List.set_cons_succ])
    (try simp only [List.set_cons_zero])
    refine wpAnyH_take (i := 31) (oi := { dst := some 61, op := Op.move (Operand.tmp 60), type := 4, pos := "law.go:88", after := #[{ on := 30, ground := Ground.data }, { on := 28, ground := Ground.chain }], guard := none }) (v := ?d4_29xv31) rfl (by kernel_rfl) (by kernel_rfl) (by kernel_rfl) (fun _ _ _ h => h) (Or.inl ⟨by rfl, ?d4_29xy31⟩) (by assumption) ?d4_29xr31
    case d4_29xy31 => (intro w hSw; (try dsimp only at hSw); go_simp; try with_reducible rfl)
    (try simp only [Act.put])
    (try simp only [List.setIfInBounds_toArray])
    (try simp only [List.set_cons_succ])
    (try simp only [List.set_cons_zero])
    refine wpAnyH_take (i := 32) (oi := { dst := some 62, op := Op.load 29 (Operand.tmp 9), type := 29, pos := "law.go:88", after := #[{ on := 31, ground := Ground.guard }], guard := some (31, false) }) (v := ?d4_30xv32) rfl (by kernel_rfl) (by kernel_rfl) (by kernel_rfl) (fun _ _ _ h => h) (Or.inl ⟨by rfl, ?d4_30xy32⟩) (by assumption) ?d4_30xr32
    case d4_30xy32 => (intro w hSw; (try dsimp only at hSw); go_simp; try with_reducible rfl)
    (try simp only [Act.put])
    (try simp only [List.setIfInBounds_toArray])
    (try simp only [List.set_cons_succ])
    (try simp only [List.set_cons_zero])
    refine wpAnyH_take (i := 33) (oi := { dst := some 63, op := Op.build 32 #[(1, Operand.const (Value.int IntKind.i64 3))], type := 32, pos := "law.go:88", after := #[{ on := 31, ground := Ground.guard }], guard := some (31, false) }) (v := ?d4_31xv33) rfl (by kernel_rfl) (by kernel_rfl) (by kernel_rfl) (fun _ _ _ h => h) (Or.inl ⟨by rfl, ?d4_31xy33⟩) (by assumption) ?d4_31xr33
    case d4_31xy33 => (intro w hSw; (try dsimp only at hSw); go_simp; try with_reducible rfl)
    (try simp only [Act.put])
    (try simp only [List.setIfInBounds_toArray])
    (try simp only [List.set_cons_succ])
    (try simp only [List.set_cons_zero])
    refine wpAnyH_ready (rs := [34]) (by kernel_rfl) (by simp) ?_
    refine AllReadyH.cons (o := { dst := some 64, op := Op.call { callee := Callee.value (Operand.func 11), args := #[Operand.tmp 63], argTypes := #[32] }, type := 38, pos := "law.go:88", after := #[{ on := 33, ground := Ground.data }, { on := 31, ground := Ground.chain }, { on := 31, ground := Ground.guard }], guard := some (31, false) }) rfl (fun K hK => ?_) AllReadyH.nil
    go_simp
    go_at_call 11
    refine (make_any one3 _ one3_ok).mono ?_
    rintro e v4 ⟨p2, rfl, hv, hb⟩
    have B7' := Lib.hid (B7.out.below (hb))
    have B9' := Lib.hid (B9.out.below (hb))
    have B10' := Lib.hid (B10.out.below (hb))
    have BB' := Lib.hid (BB.out.trans ((hb).mono BB.out.size))
    clear B7
    have B7 := B7'
    clear B7'
    clear B9
    have B9 := B9'
    clear B9'
    clear B10
    have B10 := B10'
    clear B10'
    clear BB
    have BB := BB'
    clear BB'
    clear hb
    have P2 := Lib.hid (hv)
    clear hv
    go_simp
    refine hK.out _ _ ?_ (fun hHeld => ?_)
    · exact ⟨B10.out.cell 0, B10.out.cell 1, B10.out.cell 2, B10.out.cell 3, B10.out.cell 4, B9.out.cells1.1⟩
    clear hK K
    (try simp only [Act.put])
    (try simp only [List.setIfInBounds_toArray])
    (try simp only [List.set_cons_succ])
    (try simp only [List.set_cons_zero])
    refine wpAnyH_ready (rs := [35]) (by kernel_rfl) (by simp) ?_
    refine AllReadyH.cons (o := { dst := some 65, op := Op.call { callee := Callee.value (Operand.func 10), args := #[Operand.tmp 62, Operand.tmp 64], argTypes := #[29, 38] }, type := 29, pos := "law.go:88", after := #[{ on := 32, ground := Ground.data }, { on := 34, ground := Ground.data }, { on := 34, ground := Ground.chain }, { on := 31, ground := Ground.guard }], guard := some (31, false) }) rfl (fun K hK => ?_) AllReadyH.nil
    go_simp
    go_at_call 10
    refine (add_any _ [] (one3.msg, p2) _ (HW.nil _) P2.out (by simp)).mono ?_
    rintro e v5 ⟨bz, hbz, rfl, hh, hb⟩
    have B7' := Lib.hid (B7.out.below (hb))
    have B9' := Lib.hid (B9.out.below (hb))
    have B10' := Lib.hid (B10.out.below (hb))
    have P2' := Lib.hid (P2.out.below (hb))
    have BB' := Lib.hid (BB.out.trans ((hb).mono BB.out.size))
    clear B7
    have B7 := B7'
    clear B7'
    clear B9
    have B9 := B9'
    clear B9'
    clear B10
    have B10 := B10'
    clear B10'
    clear P2
    have P2 := P2'
    clear P2'
    clear BB
    have BB := BB'
    clear BB'
    clear hb
    clear P2
    clear hh
    simp only [List.nil_append, List.length_cons, List.length_nil, Nat.zero_add]
    go_simp
    refine hK.out _ _ ?_ (fun hHeld => ?_)
    · exact ⟨B10.out.cell 0, B10.out.cell 1, B10.out.cell 2, B10.out.cell 3, B10.out.cell 4, B9.out.cells1.1⟩
    clear hK K
    (try simp only [Act.put])
    (try simp only [List.setIfInBounds_toArray])
    (try simp only [List.set_cons_succ])
    (try simp only [List.set_cons_zero])
    refine wpAnyH_ready (rs := [36]) (by kernel_rfl) (by simp) ?_
    refine AllReadyH.cons (o := { dst := some 66, op := Op.call { callee := Callee.value (Operand.func 13), args := #[Operand.tmp 65], argTypes := #[29] }, type := 3, pos := "law.go:88", after := #[{ on := 35, ground := Ground.data }, { on := 35, ground := Ground.chain }, { on := 31, ground := Ground.guard }], guard := some (31, false) }) rfl (fun K hK => ?_) AllReadyH.nil
    go_simp
    go_at_call 13
    refine (len_c _ 1 1 _).mono ?_
    rintro e v6 ⟨rfl, hb⟩
    have B7' := Lib.hid (B7.out.below (hb))
    have B9' := Lib.hid (B9.out.below (hb))
    have B10' := Lib.hid (B10.out.below (hb))
    have BB' := Lib.hid (BB.out.trans ((hb).mono BB.out.size))
    clear B7
    have B7 := B7'
    clear B7'
    clear B9
    have B9 := B9'
    clear B9'
    clear B10
    have B10 := B10'
    clear B10'
    clear BB
    have BB := BB'
    clear BB'
    clear hb
    go_simp
    refine hK.out _ _ ?_ (fun hHeld => ?_)
    · exact ⟨B10.out.cell 0, B10.out.cell 1, B10.out.cell 2, B10.out.cell 3, B10.out.cell 4, B9.out.cells1.1⟩
    clear hK K
    (try simp only [Act.put])
    (try simp only [List.setIfInBounds_toArray])
    (try simp only [List.set_cons_succ])
    (try simp only [List.set_cons_zero])
    refine wpAnyH_take (i := 37) (oi := { dst := some 67, op := Op.binOp BinOp.neq 3 (Operand.tmp 66) (Operand.const (Value.int IntKind.i64 1)) 3, type := 4, pos := "law.go:88", after := #[{ on := 36, ground := Ground.data }, { on := 31, ground := Ground.guard }], guard := some (31, false) }) (v := ?d7_32xv37) rfl (by kernel_rfl) (by kernel_rfl) (by kernel_rfl) (fun _ _ _ h => h) (Or.inl ⟨by rfl, ?d7_32xy37⟩) (by assumption) ?d7_32xr37
    case d7_32xy37 => (intro w hSw; (try dsimp only at hSw); go_simp; try with_reducible rfl)
    (try simp only [Act.put])
    (try simp only [List.setIfInBounds_toArray])
    (try simp only [List.set_cons_succ])
    (try simp only [List.set_cons_zero])
    refine wpAnyH_take (i := 38) (oi := { dst := some 68, op := Op.pick (Operand.tmp 61) (Operand.const (Value.bool true)) (Operand.tmp 67), type := 4, pos := "law.go:88", after := #[{ on := 31, ground := Ground.data }, { on := 37, ground := Ground.data }], guard := none }) (v := ?d7_33xv38) rfl (by kernel_rfl) (by kernel_rfl) (by kernel_rfl) (fun _ _ _ h => h) (Or.inl ⟨by rfl, ?d7_33xy38⟩) (by assumption) ?d7_33xr38
    case d7_33xy38 => (intro w hSw; (try dsimp only at hSw); go_simp; try with_reducible rfl)
    (try simp only [Act.put])
    (try simp only [List.setIfInBounds_toArray])
    (try simp only [List.set_cons_succ])
    (try simp only [List.set_cons_zero])
    refine wpAnyH_done (by kernel_rfl) ?_ _
    go_wp2
    go_meet
    case rel => exact ⟨rfl, B7.out, BB.out⟩
  case rest =>
    obtain ⟨rfl, B7', BB'⟩ := hcut
    clear B7 B9 B10 BB
    have B7 := Lib.hid B7'
    have BB := Lib.hid BB'
    clear B7' BB'
    go_wp2_with fail
    refine (awake_any _).mono ?_
    rintro e a6 ⟨rfl, hb⟩
    have B7' := Lib.hid (B7.out.below (hb))
    have BB' := Lib.hid (BB.out.trans ((hb).mono BB.out.size))
    clear B7
    have B7 := B7'
    clear B7'
    clear BB
    have BB := BB'
    clear BB'
    clear hb
    obtain ⟨⟨m0, m1, m2, m3, m4⟩, -⟩ := B7.out.cells5
    have BB2 := BB.out
    go_wp2
    go_ret
    exact ⟨by simp, BB2⟩

set_option maxRecDepth 100000 in
set_option maxHeartbeats 1600000 in
theorem outside (x y z : Int) (v : Value) (l : List One) (i : Int) (w : World) (h : IsOnes w v l) (ho : OnesOk l) (i0 : -9223372036854775808 ≤ i) (i1 : i < 9223372036854775808) :
    Calls Try.prog 4 #[.agg #[.int .i64 x, .int .u32 y, .int .u32 z], v, .int .i64 i] w fun e w' => e = .returned (.bool true) ∧ Below w.heap.size w w' := by
  by_cases hl : 100 < l.length
  · obtain ⟨a, cap, rfl⟩ := h.slice
    clear h ho
    generalize l.length = n at *
    go_enter Try.func4, Try.ntmps4
    go_wp2_with fail
    refine (awake_any _).mono ?_
    rintro e w1 ⟨rfl, hb⟩
    simp only [World.size_alloc] at hb
    have hb2 := (below_new w _).trans (hb.mono (by simp))
    clear hb
    go_wp2
    go_ret
    exact ⟨rfl, hb2⟩
  · by_cases h0 : i < 0
    · exact outside_low x y z v l i w h ho (by omega) h0 i0
    · by_cases h1 : (l.length : Int) < i
      · exact outside_high x y z v l i w h ho (by omega) h1 i1
      · obtain ⟨k, rfl⟩ : ∃ k : Nat, i = k := ⟨i.toNat, by omega⟩
        exact outside_in x y z v l k w h ho (by omega) (by omega)
end Go.Proofs.Ytfkfomefelekcaa
