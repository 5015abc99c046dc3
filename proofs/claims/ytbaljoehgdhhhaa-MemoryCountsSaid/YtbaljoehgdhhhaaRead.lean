/- The contract of read. -/
import Derived.Test.YtbaljoehgdhhhaaOpenMem
import Derived.Test.YtbaljoehgdhhhaaHistRead
namespace Go.Proofs.Ytbaljoehgdhhhaa
open Go.RowKit Go.Shelf Go.Maps

theorem RW.only {w w' : World} {b b' n c : Nat} {cs : List Value} (h : RW w (.slice (some ⟨b, 0, none⟩) n c) cs) (hne : b ≠ b') (ho : Only b' w w') : RW w' (.slice (some ⟨b, 0, none⟩) n c) cs := by
  rcases h with h | ⟨b1, t, e, hk⟩
  · exact .inl h
  · simp only [Value.slice.injEq, Option.some.injEq, Addr.mk.injEq, and_true] at e
    obtain ⟨rfl, rfl, rfl⟩ := e
    exact .inr ⟨b, t, rfl, (ho.block b hne).trans hk⟩

set_option maxRecDepth 100000 in
set_option maxHeartbeats 6400000 in
theorem read_new (z : Int) (bP bV np nv B k p i hn : Nat) (P : List PL) (V : List VL) (ha : Option Addr) (q : List MP) (vp : Option Nat) (vm : List (Int × Int)) (xa xb xc xd : Int) (xm : List (Int × Int)) (xp : Option Nat) (w : World)
    (h : MO B bP bV P V w) (e1 : P.length = np) (e2 : V.length = nv) (l1 : np ≤ 4096) (l2 : nv ≤ 8) (hp : P[p]? = some ((.slice ha hn hn), q)) (hv : V[k]? = some (vp, vm)) (hq : q.length = hn) (hql : hn ≤ 1000)
    (hx : q[i]? = some (⟨xa, xb, xc, xd, xm⟩, xp)) (hi : (i : Int) = (hn : Int) - 1) :
    Calls Try.prog 39 #[.agg #[.slice (some ⟨bP, 0, none⟩) np np, .slice (some ⟨bV, 0, none⟩) nv nv], .int .i64 ((k : Int) + 1), .int .i64 p, (.func (Fn.func 40) #[.agg #[.int .i64 z]] #[]), .bool true] w fun e w' => ∃ bN vp', e = .returned (.tuple #[.agg #[.slice (some ⟨bP, 0, none⟩) np np, .slice (some ⟨bN, 0, none⟩) nv nv], .agg #[.int .i64 xa, .int .u32 xb, .int .u32 xc]]) ∧
      w.heap.size ≤ bN ∧ RW w' (.slice (some ⟨bN, 0, none⟩) nv nv) ((V.map fun x => Value.map x.1).set k (.map vp')) ∧ VW w' vp' (joinL (withL vm p i) xm) ∧ Below w.heap.size w w' := by
  have hk : k < nv := by rw [← e2]; exact (List.getElem?_eq_some_iff.1 hv).1
  have hpn : p < np := by rw [← e1]; exact (List.getElem?_eq_some_iff.1 hp).1
  have hih : i < hn := by rw [← hq]; exact (List.getElem?_eq_some_iff.1 hx).1
  have hvo := (h.atV hv).1
  have hbd := atL_bd hvo p
  have HP := Lib.hid hp
  have HV := Lib.hid hv
  have HX := Lib.hid hx
  have HQ := Lib.hid hq
  have HI := Lib.hid hi
  have E1 := Lib.hid e1
  have E2 := Lib.hid e2
  have HVO := Lib.hid hvo
  have hwk : IntKind.i64.wrap ((k : Int)) = k := IntWalk.i64_in _ (by omega)
  have B5 := Lib.hid (Box.alloc (Box.alloc (Box.new w #[.slice (some ⟨bP, 0, none⟩) np np, .slice (some ⟨bV, 0, none⟩) nv nv] 31 rfl) (.cells #[.slice none 0 0, .slice none 0 0] 31)) (.cells #[.int .i64 0, .int .u32 0, .int .u32 0] 45))
  have R10 := Lib.hid (Box.alloc (Box.new (w.alloc (.cells #[.slice (some ⟨bP, 0, none⟩) np np, .slice (some ⟨bV, 0, none⟩) nv nv] 31)) #[.slice none 0 0, .slice none 0 0] 31 (n := w.heap.size + 1) (by simp)) (.cells #[.int .i64 0, .int .u32 0, .int .u32 0] 45))
  have R11 := Lib.hid (Box.new ((w.alloc (.cells #[.slice (some ⟨bP, 0, none⟩) np np, .slice (some ⟨bV, 0, none⟩) nv nv] 31)).alloc (.cells #[.slice none 0 0, .slice none 0 0] 31)) #[.int .i64 0, .int .u32 0, .int .u32 0] 45 (n := w.heap.size + 1 + 1) (by simp))
  have BB := Lib.hid (b3 w (.cells #[.slice (some ⟨bP, 0, none⟩) np np, .slice (some ⟨bV, 0, none⟩) nv nv] 31) (.cells #[.slice none 0 0, .slice none 0 0] 31) (.cells #[.int .i64 0, .int .u32 0, .int .u32 0] 45))
  have MM := Lib.hid (h.below (b3 w (.cells #[.slice (some ⟨bP, 0, none⟩) np np, .slice (some ⟨bV, 0, none⟩) nv nv] 31) (.cells #[.slice none 0 0, .slice none 0 0] 31) (.cells #[.int .i64 0, .int .u32 0, .int .u32 0] 45)))
  have hB := h.le
  clear h hp hv hx hq hi e1 e2 hvo
  go_enter Try.func39, Try.ntmps39
  go_wp2_with fail
  generalize ((w.alloc (.cells #[.slice (some ⟨bP, 0, none⟩) np np, .slice (some ⟨bV, 0, none⟩) nv nv] 31)).alloc (.cells #[.slice none 0 0, .slice none 0 0] 31)).alloc (.cells #[.int .i64 0, .int .u32 0, .int .u32 0] 45) = W0 at *
  obtain ⟨b11, hb11⟩ : ∃ br, w.heap.size + 1 + 1 = br := ⟨_, rfl⟩
  obtain ⟨b10, hb10⟩ : ∃ br, w.heap.size + 1 = br := ⟨_, rfl⟩
  obtain ⟨b5, hb5⟩ : ∃ bp, w.heap.size = bp := ⟨_, rfl⟩
  have hbq := hb5
  rw [hb11] at R11 ⊢
  rw [hb10] at R10 hb11 ⊢
  rw [hb5] at B5 hb10 ⊢
  go_cut [12, 13] (fun s12 s13 wx => ∃ b12 b13, s12 = .pointer (some ⟨b12, 0, none⟩) ∧ s13 = .pointer (some ⟨b13, 0, none⟩) ∧ b12 ≠ b13 ∧ b5 < b12 ∧ b10 < b13 ∧ b11 < b13 ∧ b10 < b12 ∧ b11 < b12 ∧ B ≤ b13 ∧ B ≤ b12 ∧ b5 < b13 ∧ Box wx b12 #[.slice ha hn hn] 65 ∧ Box wx b13 #[.map vp] 60 ∧ Box wx b5 #[.slice (some ⟨bP, 0, none⟩) np np, .slice (some ⟨bV, 0, none⟩) nv nv] 31 ∧ Box wx b10 #[.slice none 0 0, .slice none 0 0] 31 ∧ Box wx b11 #[.int .i64 0, .int .u32 0, .int .u32 0] 45 ∧ MO B bP bV P V wx ∧ Below w.heap.size w wx)
  case first =>
    have B5' := Lib.hid (B5.out.below ((Below.refl _ _).drew))
    have R10' := Lib.hid (R10.out.below ((Below.refl _ _).drew))
    have R11' := Lib.hid (R11.out.below ((Below.refl _ _).drew))
    have MM' := Lib.hid (MM.out.below ((Below.refl _ _).drew))
    have BB' := Lib.hid (BB.out.trans (((Below.refl _ _).drew).mono BB.out.size))
    clear B5
    have B5 := B5'
    clear B5'
    clear R10
    have R10 := R10'
    clear R10'
    clear R11
    have R11 := R11'
    clear R11'
    clear MM
    have MM := MM'
    clear MM'
    clear BB
    have BB := BB'
    clear BB'
    refine wp_region_held_drew (S := fun w' => w'.cell? ⟨b5, 0, none⟩ = some (.slice (some ⟨bP, 0, none⟩) np np) ∧ w'.cell? ⟨b5, 1, none⟩ = some (.slice (some ⟨bV, 0, none⟩) nv nv) ∧ w'.cell? ⟨bP, p, none⟩ = some (.slice ha hn hn) ∧ w'.cell? ⟨bV, k, none⟩ = some (.map vp)) (by kernel_rfl) ⟨B5.out.cells2.1.1, B5.out.cells2.1.2, MM.out.cellP HP.out, MM.out.cellV HV.out⟩ (fun hHeld => ?_)
    generalize World.drew W0 = V0 at *
    refine wpAnyH_take (i := 0) (oi := { dst := some 17, op := Op.fieldAddr 31 (Operand.tmp 5) 0, type := 0, pos := "memory.go:121", after := #[], guard := none }) (v := ?d1_1xv0) rfl (by kernel_rfl) (by kernel_rfl) (by kernel_rfl) (fun _ _ _ h => h) (Or.inl ⟨by rfl, ?d1_1xy0⟩) (by assumption) ?d1_1xr0
    case d1_1xy0 => (intro w hSw; (try dsimp only at hSw); go_simp; try with_reducible rfl)
    (try simp only [Act.put])
    (try simp only [List.setIfInBounds_toArray])
    (try simp only [List.set_cons_succ])
    (try simp only [List.set_cons_zero])
    refine wpAnyH_take (i := 1) (oi := { dst := some 18, op := Op.load 28 (Operand.tmp 17), type := 28, pos := "memory.go:121", after := #[{ on := 0, ground := Ground.data }], guard := none }) (v := ?d1_2xv1) rfl (by kernel_rfl) (by kernel_rfl) (by kernel_rfl) (fun _ _ _ h => h) (Or.inl ⟨by rfl, ?d1_2xy1⟩) (by assumption) ?d1_2xr1
    case d1_2xy1 => (intro w hSw; (try dsimp only at hSw); go_simp; try with_reducible rfl)
    (try simp only [Act.put])
    (try simp only [List.setIfInBounds_toArray])
    (try simp only [List.set_cons_succ])
    (try simp only [List.set_cons_zero])
    refine wpAnyH_take (i := 2) (oi := { dst := some 19, op := Op.move (Operand.tmp 2), type := 42, pos := "memory.go:121", after := #[], guard := none }) (v := ?d1_3xv2) rfl (by kernel_rfl) (by kernel_rfl) (by kernel_rfl) (fun _ _ _ h => h) (Or.inl ⟨by rfl, ?d1_3xy2⟩) (by assumption) ?d1_3xr2
    case d1_3xy2 => (intro w hSw; (try dsimp only at hSw); go_simp; try with_reducible rfl)
    (try simp only [Act.put])
    (try simp only [List.setIfInBounds_toArray])
    (try simp only [List.set_cons_succ])
    (try simp only [List.set_cons_zero])
    refine wpAnyH_take (i := 3) (oi := { dst := some 20, op := Op.indexAddr 28 (Operand.tmp 18) (Operand.tmp 19), type := 0, pos := "memory.go:121", after := #[{ on := 1, ground := Ground.data }, { on := 2, ground := Ground.data }], guard := none }) (v := ?d1_4xv3) rfl (by kernel_rfl) (by kernel_rfl) (by kernel_rfl) (fun _ _ _ h => h) (Or.inl ⟨by rfl, ?d1_4xy3⟩) (by assumption) ?d1_4xr3
    case d1_4xy3 => (intro w hSw; (try dsimp only at hSw); go_simp; try with_reducible rfl)
    (try simp only [Act.put])
    (try simp only [List.setIfInBounds_toArray])
    (try simp only [List.set_cons_succ])
    (try simp only [List.set_cons_zero])
    refine wpAnyH_take (i := 4) (oi := { dst := some 21, op := Op.load 65 (Operand.tmp 20), type := 65, pos := "memory.go:121", after := #[{ on := 3, ground := Ground.data }], guard := none }) (v := ?d1_5xv4) rfl (by kernel_rfl) (by kernel_rfl) (by kernel_rfl) (fun _ _ _ h => h) (Or.inl ⟨by rfl, ?d1_5xy4⟩) (by assumption) ?d1_5xr4
    case d1_5xy4 => (intro w hSw; (try dsimp only at hSw); go_simp; try with_reducible rfl)
    (try simp only [Act.put])
    (try simp only [List.setIfInBounds_toArray])
    (try simp only [List.set_cons_succ])
    (try simp only [List.set_cons_zero])
    refine wpAnyH_take (i := 5) (oi := { dst := some 22, op := Op.fieldAddr 31 (Operand.tmp 5) 1, type := 0, pos := "memory.go:121", after := #[{ on := 13, ground := Ground.gcOnly Departure.lateStores }], guard := none }) (v := ?d1_6xv5) rfl (by kernel_rfl) (by kernel_rfl) (by kernel_rfl) (fun _ _ _ h => h) (Or.inl ⟨by rfl, ?d1_6xy5⟩) (by assumption) ?d1_6xr5
    case d1_6xy5 => (intro w hSw; (try dsimp only at hSw); go_simp; try with_reducible rfl)
    (try simp only [Act.put])
    (try simp only [List.setIfInBounds_toArray])
    (try simp only [List.set_cons_succ])
    (try simp only [List.set_cons_zero])
    refine wpAnyH_take (i := 6) (oi := { dst := some 23, op := Op.load 29 (Operand.tmp 22), type := 29, pos := "memory.go:121", after := #[{ on := 5, ground := Ground.data }, { on := 13, ground := Ground.gcOnly Departure.lateStores }], guard := none }) (v := ?d1_7xv6) rfl (by kernel_rfl) (by kernel_rfl) (by kernel_rfl) (fun _ _ _ h => h) (Or.inl ⟨by rfl, ?d1_7xy6⟩) (by assumption) ?d1_7xr6
    case d1_7xy6 => (intro w hSw; (try dsimp only at hSw); go_simp; try with_reducible rfl)
    (try simp only [Act.put])
    (try simp only [List.setIfInBounds_toArray])
    (try simp only [List.set_cons_succ])
    (try simp only [List.set_cons_zero])
    refine wpAnyH_take (i := 7) (oi := { dst := some 24, op := Op.move (Operand.tmp 1), type := 3, pos := "memory.go:121", after := #[{ on := 13, ground := Ground.gcOnly Departure.lateStores }], guard := none }) (v := ?d1_8xv7) rfl (by kernel_rfl) (by kernel_rfl) (by kernel_rfl) (fun _ _ _ h => h) (Or.inl ⟨by rfl, ?d1_8xy7⟩) (by assumption) ?d1_8xr7
    case d1_8xy7 => (intro w hSw; (try dsimp only at hSw); go_simp; try with_reducible rfl)
    (try simp only [Act.put])
    (try simp only [List.setIfInBounds_toArray])
    (try simp only [List.set_cons_succ])
    (try simp only [List.set_cons_zero])
    refine wpAnyH_take (i := 8) (oi := { dst := some 25, op := Op.binOp BinOp.sub 3 (Operand.tmp 24) (Operand.const (Value.int IntKind.i64 1)) 3, type := 3, pos := "memory.go:121", after := #[{ on := 7, ground := Ground.data }, { on := 13, ground := Ground.gcOnly Departure.lateStores }], guard := none }) (v := ?d1_9xv8) rfl (by kernel_rfl) (by kernel_rfl) (by kernel_rfl) (fun _ _ _ h => h) (Or.inl ⟨by rfl, ?d1_9xy8⟩) (by assumption) ?d1_9xr8
    case d1_9xy8 => (intro w hSw; (try dsimp only at hSw); go_simp; try with_reducible rfl)
    (try simp only [Act.put])
    (try simp only [List.setIfInBounds_toArray])
    (try simp only [List.set_cons_succ])
    (try simp only [List.set_cons_zero])
    refine wpAnyH_take (i := 9) (oi := { dst := some 26, op := Op.indexAddr 29 (Operand.tmp 23) (Operand.tmp 25), type := 0, pos := "memory.go:121", after := #[{ on := 6, ground := Ground.data }, { on := 8, ground := Ground.data }, { on := 13, ground := Ground.gcOnly Departure.lateStores }], guard := none }) (v := ?d1_10xv9) rfl (by kernel_rfl) (by kernel_rfl) (by kernel_rfl) (fun _ _ _ h => h) (Or.inl ⟨by rfl, ?d1_10xy9⟩) (by assumption) ?d1_10xr9
    case d1_10xy9 => (intro w hSw; (try dsimp only at hSw); go_simp; try with_reducible rfl)
    (try simp only [Act.put])
    (try simp only [List.setIfInBounds_toArray])
    (try simp only [List.set_cons_succ])
    (try simp only [List.set_cons_zero])
    refine wpAnyH_take (i := 10) (oi := { dst := some 27, op := Op.load 60 (Operand.tmp 26), type := 60, pos := "memory.go:121", after := #[{ on := 9, ground := Ground.data }, { on := 13, ground := Ground.gcOnly Departure.lateStores }], guard := none }) (v := ?d1_11xv10) rfl (by kernel_rfl) (by kernel_rfl) (by kernel_rfl) (fun _ _ _ h => h) (Or.inl ⟨by rfl, ?d1_11xy10⟩) (by assumption) ?d1_11xr10
    case d1_11xy10 => (intro w hSw; (try dsimp only at hSw); go_simp; try with_reducible rfl)
    (try simp only [Act.put])
    (try simp only [List.setIfInBounds_toArray])
    (try simp only [List.set_cons_succ])
    (try simp only [List.set_cons_zero])
    refine wpAnyH_ready (rs := [11, 12]) (by kernel_rfl) (by simp) ?_
    refine AllReadyH.cons (o := { dst := some 12, op := Op.alloc 65, type := 0, pos := "memory.go:121", after := #[], guard := none }) rfl (fun K hK => ?_) ?_
    · skip
      go_simp
      have hlt_b12 := BB.out.size
      have hlt_b12_B5 := B5.out.lt
      have hlt_b12_R10 := R10.out.lt
      have hlt_b12_R11 := R11.out.lt
      have B5' := Lib.hid (B5.out.below (below_new V0 (.cells #[.slice none 0 0] 65)))
      have R10' := Lib.hid (R10.out.below (below_new V0 (.cells #[.slice none 0 0] 65)))
      have R11' := Lib.hid (R11.out.below (below_new V0 (.cells #[.slice none 0 0] 65)))
      have MM' := Lib.hid (MM.out.below (below_new V0 (.cells #[.slice none 0 0] 65)))
      have BB' := Lib.hid (BB.out.trans ((below_new V0 (.cells #[.slice none 0 0] 65)).mono BB.out.size))
      clear B5
      have B5 := B5'
      clear B5'
      clear R10
      have R10 := R10'
      clear R10'
      clear R11
      have R11 := R11'
      clear R11'
      clear MM
      have MM := MM'
      clear MM'
      clear BB
      have BB := BB'
      clear BB'
      have B12 := Lib.hid (Box.new V0 #[.slice none 0 0] 65 rfl)
      generalize World.alloc V0 (.cells #[.slice none 0 0] 65) = v1 at *
      generalize World.heap V0 = hp_b12 at *
      generalize hp_b12.size = b12 at *
      refine hK.out _ _ ?_ (fun hHeld => ?_)
      · exact ⟨B5.out.cells2.1.1, B5.out.cells2.1.2, MM.out.cellP HP.out, MM.out.cellV HV.out⟩
      clear hK K
      (try simp only [Act.put])
      (try simp only [List.setIfInBounds_toArray])
      (try simp only [List.set_cons_succ])
      (try simp only [List.set_cons_zero])
      refine wpAnyH_ready (rs := [12]) (by kernel_rfl) (by simp) ?_
      refine AllReadyH.cons (o := { dst := some 13, op := Op.alloc 60, type := 0, pos := "memory.go:121", after := #[], guard := none }) rfl (fun K hK => ?_) AllReadyH.nil
      go_simp
      have hlt_b13 := BB.out.size
      have hlt_b13_B5 := B5.out.lt
      have hlt_b13_R10 := R10.out.lt
      have hlt_b13_R11 := R11.out.lt
      have hlt_b13_B12 := B12.out.lt
      have B5' := Lib.hid (B5.out.below (below_new v1 (.cells #[.map none] 60)))
      have R10' := Lib.hid (R10.out.below (below_new v1 (.cells #[.map none] 60)))
      have R11' := Lib.hid (R11.out.below (below_new v1 (.cells #[.map none] 60)))
      have MM' := Lib.hid (MM.out.below (below_new v1 (.cells #[.map none] 60)))
      have B12' := Lib.hid (B12.out.below (below_new v1 (.cells #[.map none] 60)))
      have BB' := Lib.hid (BB.out.trans ((below_new v1 (.cells #[.map none] 60)).mono BB.out.size))
      clear B5
      have B5 := B5'
      clear B5'
      clear R10
      have R10 := R10'
      clear R10'
      clear R11
      have R11 := R11'
      clear R11'
      clear MM
      have MM := MM'
      clear MM'
      clear B12
      have B12 := B12'
      clear B12'
      clear BB
      have BB := BB'
      clear BB'
      have B13 := Lib.hid (Box.new v1 #[.map none] 60 rfl)
      generalize World.alloc v1 (.cells #[.map none] 60) = v2 at *
      generalize World.heap v1 = hp_b13 at *
      generalize hp_b13.size = b13 at *
      refine hK.out _ _ ?_ (fun hHeld => ?_)
      · exact ⟨B5.out.cells2.1.1, B5.out.cells2.1.2, MM.out.cellP HP.out, MM.out.cellV HV.out⟩
      clear hK K
      (try simp only [Act.put])
      (try simp only [List.setIfInBounds_toArray])
      (try simp only [List.set_cons_succ])
      (try simp only [List.set_cons_zero])
      refine wpAnyH_ready (rs := [13]) (by kernel_rfl) (by simp) ?_
      refine AllReadyH.cons (o := { dst := none, op := Op.store 65 (Operand.tmp 12) (Operand.tmp 21), type := 0, pos := "memory.go:121", after := #[{ on := 11, ground := Ground.data }, { on := 4, ground := Ground.data }, { on := 0, ground := Ground.phase }, { on := 1, ground := Ground.phase }, { on := 2, ground := Ground.phase }, { on := 3, ground := Ground.phase }, { on := 4, ground := Ground.phase }, { on := 5, ground := Ground.textOnly Departure.lateStores }, { on := 6, ground := Ground.textOnly Departure.lateStores }, { on := 7, ground := Ground.textOnly Departure.lateStores }, { on := 8, ground := Ground.textOnly Departure.lateStores }, { on := 9, ground := Ground.textOnly Departure.lateStores }, { on := 10, ground := Ground.textOnly Departure.lateStores }, { on := 11, ground := Ground.phase }, { on := 12, ground := Ground.phase }], guard := none }) rfl (fun K hK => ?_) AllReadyH.nil
      obtain ⟨m0, g0⟩ := B12.out.cells1
      go_simp
      clear m0 g0
      have B5' := Lib.hid (B5.out.only (by omega) ((Only.refl b12 v2).set 0 (.slice ha hn hn)))
      have R10' := Lib.hid (R10.out.only (by omega) ((Only.refl b12 v2).set 0 (.slice ha hn hn)))
      have R11' := Lib.hid (R11.out.only (by omega) ((Only.refl b12 v2).set 0 (.slice ha hn hn)))
      have MM' := Lib.hid (MM.out.only B12.out (by omega) ((Only.refl b12 v2).set 0 (.slice ha hn hn)))
      have B12' := Lib.hid ((B12.out).set 0 (.slice ha hn hn))
      have B13' := Lib.hid (B13.out.only (by omega) ((Only.refl b12 v2).set 0 (.slice ha hn hn)))
      have BB' := Lib.hid ((BB.out).put b12 (by omega) 0 (.slice ha hn hn))
      clear B5
      have B5 := B5'
      clear B5'
      clear R10
      have R10 := R10'
      clear R10'
      clear R11
      have R11 := R11'
      clear R11'
      clear MM
      have MM := MM'
      clear MM'
      clear B12
      have B12 := B12'
      clear B12'
      clear B13
      have B13 := B13'
      clear B13'
      clear BB
      have BB := BB'
      clear BB'
      generalize (World.setCell v2 ⟨b12, 0, none⟩ (.slice ha hn hn)) = v3 at *
      refine hK.out _ _ ?_ (fun hHeld => ?_)
      · exact ⟨B5.out.cells2.1.1, B5.out.cells2.1.2, MM.out.cellP HP.out, MM.out.cellV HV.out⟩
      clear hK K
      (try simp only [Act.put])
      (try simp only [List.setIfInBounds_toArray])
      (try simp only [List.set_cons_succ])
      (try simp only [List.set_cons_zero])
      refine wpAnyH_ready (rs := [14]) (by kernel_rfl) (by simp) ?_
      refine AllReadyH.cons (o := { dst := none, op := Op.store 60 (Operand.tmp 13) (Operand.tmp 27), type := 0, pos := "memory.go:121", after := #[{ on := 12, ground := Ground.data }, { on := 10, ground := Ground.data }, { on := 13, ground := Ground.chain }, { on := 0, ground := Ground.phase }, { on := 1, ground := Ground.phase }, { on := 2, ground := Ground.phase }, { on := 3, ground := Ground.phase }, { on := 4, ground := Ground.phase }, { on := 5, ground := Ground.phase }, { on := 6, ground := Ground.phase }, { on := 7, ground := Ground.phase }, { on := 8, ground := Ground.phase }, { on := 9, ground := Ground.phase }, { on := 10, ground := Ground.phase }, { on := 11, ground := Ground.phase }, { on := 12, ground := Ground.phase }, { on := 13, ground := Ground.phase }], guard := none }) rfl (fun K hK => ?_) AllReadyH.nil
      obtain ⟨m0, g0⟩ := B13.out.cells1
      go_simp
      clear m0 g0
      have B5' := Lib.hid (B5.out.only (by omega) ((Only.refl b13 v3).set 0 (.map vp)))
      have R10' := Lib.hid (R10.out.only (by omega) ((Only.refl b13 v3).set 0 (.map vp)))
      have R11' := Lib.hid (R11.out.only (by omega) ((Only.refl b13 v3).set 0 (.map vp)))
      have MM' := Lib.hid (MM.out.only B13.out (by omega) ((Only.refl b13 v3).set 0 (.map vp)))
      have B12' := Lib.hid (B12.out.only (by omega) ((Only.refl b13 v3).set 0 (.map vp)))
      have B13' := Lib.hid ((B13.out).set 0 (.map vp))
      have BB' := Lib.hid ((BB.out).put b13 (by omega) 0 (.map vp))
      clear B5
      have B5 := B5'
      clear B5'
      clear R10
      have R10 := R10'
      clear R10'
      clear R11
      have R11 := R11'
      clear R11'
      clear MM
      have MM := MM'
      clear MM'
      clear B12
      have B12 := B12'
      clear B12'
      clear B13
      have B13 := B13'
      clear B13'
      clear BB
      have BB := BB'
      clear BB'
      generalize (World.setCell v3 ⟨b13, 0, none⟩ (.map vp)) = v4 at *
      refine hK.out _ _ ?_ (fun hHeld => ?_)
      · exact ⟨B5.out.cells2.1.1, B5.out.cells2.1.2, MM.out.cellP HP.out, MM.out.cellV HV.out⟩
      clear hK K
      (try simp only [Act.put])
      (try simp only [List.setIfInBounds_toArray])
      (try simp only [List.set_cons_succ])
      (try simp only [List.set_cons_zero])
      refine wpAnyH_done (by kernel_rfl) ?_ _
      go_wp2
      go_meet
      case rel => exact ⟨b12, b13, rfl, rfl, by omega, by omega, by omega, by omega, by omega, by omega, by omega, by omega, by omega, B12.out, B13.out, B5.out, R10.out, R11.out, MM.out, BB.out⟩
    refine AllReadyH.cons (o := { dst := some 13, op := Op.alloc 60, type := 0, pos := "memory.go:121", after := #[], guard := none }) rfl (fun K hK => ?_) AllReadyH.nil
    go_simp
    have hlt_b13 := BB.out.size
    have hlt_b13_B5 := B5.out.lt
    have hlt_b13_R10 := R10.out.lt
    have hlt_b13_R11 := R11.out.lt
    have B5' := Lib.hid (B5.out.below (below_new V0 (.cells #[.map none] 60)))
    have R10' := Lib.hid (R10.out.below (below_new V0 (.cells #[.map none] 60)))
    have R11' := Lib.hid (R11.out.below (below_new V0 (.cells #[.map none] 60)))
    have MM' := Lib.hid (MM.out.below (below_new V0 (.cells #[.map none] 60)))
    have BB' := Lib.hid (BB.out.trans ((below_new V0 (.cells #[.map none] 60)).mono BB.out.size))
    clear B5
    have B5 := B5'
    clear B5'
    clear R10
    have R10 := R10'
    clear R10'
    clear R11
    have R11 := R11'
    clear R11'
    clear MM
    have MM := MM'
    clear MM'
    clear BB
    have BB := BB'
    clear BB'
    have B13 := Lib.hid (Box.new V0 #[.map none] 60 rfl)
    generalize World.alloc V0 (.cells #[.map none] 60) = v5 at *
    generalize World.heap V0 = hp_b13 at *
    generalize hp_b13.size = b13 at *
    refine hK.out _ _ ?_ (fun hHeld => ?_)
    · exact ⟨B5.out.cells2.1.1, B5.out.cells2.1.2, MM.out.cellP HP.out, MM.out.cellV HV.out⟩
    clear hK K
    (try simp only [Act.put])
    (try simp only [List.setIfInBounds_toArray])
    (try simp only [List.set_cons_succ])
    (try simp only [List.set_cons_zero])
    refine wpAnyH_ready (rs := [11]) (by kernel_rfl) (by simp) ?_
    refine AllReadyH.cons (o := { dst := some 12, op := Op.alloc 65, type := 0, pos := "memory.go:121", after := #[], guard := none }) rfl (fun K hK => ?_) AllReadyH.nil
    go_simp
    have hlt_b12 := BB.out.size
    have hlt_b12_B5 := B5.out.lt
    have hlt_b12_R10 := R10.out.lt
    have hlt_b12_R11 := R11.out.lt
    have hlt_b12_B13 := B13.out.lt
    have B5' := Lib.hid (B5.out.below (below_new v5 (.cells #[.slice none 0 0] 65)))
    have R10' := Lib.hid (R10.out.below (below_new v5 (.cells #[.slice none 0 0] 65)))
    have R11' := Lib.hid (R11.out.below (below_new v5 (.cells #[.slice none 0 0] 65)))
    have MM' := Lib.hid (MM.out.below (below_new v5 (.cells #[.slice none 0 0] 65)))
    have B13' := Lib.hid (B13.out.below (below_new v5 (.cells #[.slice none 0 0] 65)))
    have BB' := Lib.hid (BB.out.trans ((below_new v5 (.cells #[.slice none 0 0] 65)).mono BB.out.size))
    clear B5
    have B5 := B5'
    clear B5'
    clear R10
    have R10 := R10'
    clear R10'
    clear R11
    have R11 := R11'
    clear R11'
    clear MM
    have MM := MM'
    clear MM'
    clear B13
    have B13 := B13'
    clear B13'
    clear BB
    have BB := BB'
    clear BB'
    have B12 := Lib.hid (Box.new v5 #[.slice none 0 0] 65 rfl)
    generalize World.alloc v5 (.cells #[.slice none 0 0] 65) = v6 at *
    generalize World.heap v5 = hp_b12 at *
    generalize hp_b12.size = b12 at *
    refine hK.out _ _ ?_ (fun hHeld => ?_)
    · exact ⟨B5.out.cells2.1.1, B5.out.cells2.1.2, MM.out.cellP HP.out, MM.out.cellV HV.out⟩
    clear hK K
    (try simp only [Act.put])
    (try simp only [List.setIfInBounds_toArray])
    (try simp only [List.set_cons_succ])
    (try simp only [List.set_cons_zero])
    refine wpAnyH_ready (rs := [13]) (by kernel_rfl) (by simp) ?_
    refine AllReadyH.cons (o := { dst := none, op := Op.store 65 (Operand.tmp 12) (Operand.tmp 21), type := 0, pos := "memory.go:121", after := #[{ on := 11, ground := Ground.data }, { on := 4, ground := Ground.data }, { on := 0, ground := Ground.phase }, { on := 1, ground := Ground.phase }, { on := 2, ground := Ground.phase }, { on := 3, ground := Ground.phase }, { on := 4, ground := Ground.phase }, { on := 5, ground := Ground.textOnly Departure.lateStores }, { on := 6, ground := Ground.textOnly Departure.lateStores }, { on := 7, ground := Ground.textOnly Departure.lateStores }, { on := 8, ground := Ground.textOnly Departure.lateStores }, { on := 9, ground := Ground.textOnly Departure.lateStores }, { on := 10, ground := Ground.textOnly Departure.lateStores }, { on := 11, ground := Ground.phase }, { on := 12, ground := Ground.phase }], guard := none }) rfl (fun K hK => ?_) AllReadyH.nil
    obtain ⟨m0, g0⟩ := B12.out.cells1
    go_simp
    clear m0 g0
    have B5' := Lib.hid (B5.out.only (by omega) ((Only.refl b12 v6).set 0 (.slice ha hn hn)))
    have R10' := Lib.hid (R10.out.only (by omega) ((Only.refl b12 v6).set 0 (.slice ha hn hn)))
    have R11' := Lib.hid (R11.out.only (by omega) ((Only.refl b12 v6).set 0 (.slice ha hn hn)))
    have MM' := Lib.hid (MM.out.only B12.out (by omega) ((Only.refl b12 v6).set 0 (.slice ha hn hn)))
    have B13' := Lib.hid (B13.out.only (by omega) ((Only.refl b12 v6).set 0 (.slice ha hn hn)))
    have B12' := Lib.hid ((B12.out).set 0 (.slice ha hn hn))
    have BB' := Lib.hid ((BB.out).put b12 (by omega) 0 (.slice ha hn hn))
    clear B5
    have B5 := B5'
    clear B5'
    clear R10
    have R10 := R10'
    clear R10'
    clear R11
    have R11 := R11'
    clear R11'
    clear MM
    have MM := MM'
    clear MM'
    clear B13
    have B13 := B13'
    clear B13'
    clear B12
    have B12 := B12'
    clear B12'
    clear BB
    have BB := BB'
    clear BB'
    generalize (World.setCell v6 ⟨b12, 0, none⟩ (.slice ha hn hn)) = v7 at *
    refine hK.out _ _ ?_ (fun hHeld => ?_)
    · exact ⟨B5.out.cells2.1.1, B5.out.cells2.1.2, MM.out.cellP HP.out, MM.out.cellV HV.out⟩
    clear hK K
    (try simp only [Act.put])
    (try simp only [List.setIfInBounds_toArray])
    (try simp only [List.set_cons_succ])
    (try simp only [List.set_cons_zero])
    refine wpAnyH_ready (rs := [14]) (by kernel_rfl) (by simp) ?_
    refine AllReadyH.cons (o := { dst := none, op := Op.store 60 (Operand.tmp 13) (Operand.tmp 27), type := 0, pos := "memory.go:121", after := #[{ on := 12, ground := Ground.data }, { on := 10, ground := Ground.data }, { on := 13, ground := Ground.chain }, { on := 0, ground := Ground.phase }, { on := 1, ground := Ground.phase }, { on := 2, ground := Ground.phase }, { on := 3, ground := Ground.phase }, { on := 4, ground := Ground.phase }, { on := 5, ground := Ground.phase }, { on := 6, ground := Ground.phase }, { on := 7, ground := Ground.phase }, { on := 8, ground := Ground.phase }, { on := 9, ground := Ground.phase }, { on := 10, ground := Ground.phase }, { on := 11, ground := Ground.phase }, { on := 12, ground := Ground.phase }, { on := 13, ground := Ground.phase }], guard := none }) rfl (fun K hK => ?_) AllReadyH.nil
    obtain ⟨m0, g0⟩ := B13.out.cells1
    go_simp
    clear m0 g0
    have B5' := Lib.hid (B5.out.only (by omega) ((Only.refl b13 v7).set 0 (.map vp)))
    have R10' := Lib.hid (R10.out.only (by omega) ((Only.refl b13 v7).set 0 (.map vp)))
    have R11' := Lib.hid (R11.out.only (by omega) ((Only.refl b13 v7).set 0 (.map vp)))
    have MM' := Lib.hid (MM.out.only B13.out (by omega) ((Only.refl b13 v7).set 0 (.map vp)))
    have B13' := Lib.hid ((B13.out).set 0 (.map vp))
    have B12' := Lib.hid (B12.out.only (by omega) ((Only.refl b13 v7).set 0 (.map vp)))
    have BB' := Lib.hid ((BB.out).put b13 (by omega) 0 (.map vp))
    clear B5
    have B5 := B5'
    clear B5'
    clear R10
    have R10 := R10'
    clear R10'
    clear R11
    have R11 := R11'
    clear R11'
    clear MM
    have MM := MM'
    clear MM'
    clear B13
    have B13 := B13'
    clear B13'
    clear B12
    have B12 := B12'
    clear B12'
    clear BB
    have BB := BB'
    clear BB'
    generalize (World.setCell v7 ⟨b13, 0, none⟩ (.map vp)) = v8 at *
    refine hK.out _ _ ?_ (fun hHeld => ?_)
    · exact ⟨B5.out.cells2.1.1, B5.out.cells2.1.2, MM.out.cellP HP.out, MM.out.cellV HV.out⟩
    clear hK K
    (try simp only [Act.put])
    (try simp only [List.setIfInBounds_toArray])
    (try simp only [List.set_cons_succ])
    (try simp only [List.set_cons_zero])
    refine wpAnyH_done (by kernel_rfl) ?_ _
    go_wp2
    go_meet
    case rel => exact ⟨b12, b13, rfl, rfl, by omega, by omega, by omega, by omega, by omega, by omega, by omega, by omega, by omega, B12.out, B13.out, B5.out, R10.out, R11.out, MM.out, BB.out⟩
  case rest =>
    obtain ⟨b12, b13, rfl, rfl, n1, n2, n3, n4, n5, n6, n7, n8, n9, B12', B13', B5', R10', R11', MM', BB'⟩ := hcut
    clear B5 R10 R11 MM BB
    have B12 := Lib.hid B12'
    clear B12'
    have B13 := Lib.hid B13'
    clear B13'
    have B5 := Lib.hid B5'
    clear B5'
    have R10 := Lib.hid R10'
    clear R10'
    have R11 := Lib.hid R11'
    clear R11'
    have MM := Lib.hid MM'
    clear MM'
    have BB := Lib.hid BB'
    clear BB'
    go_upto_region 2 with fail
    have B12' := Lib.hid (B12.out.below ((Below.refl _ _).drew))
    have B13' := Lib.hid (B13.out.below ((Below.refl _ _).drew))
    have B5' := Lib.hid (B5.out.below ((Below.refl _ _).drew))
    have R10' := Lib.hid (R10.out.below ((Below.refl _ _).drew))
    have R11' := Lib.hid (R11.out.below ((Below.refl _ _).drew))
    have MM' := Lib.hid (MM.out.below ((Below.refl _ _).drew))
    have BB' := Lib.hid (BB.out.trans (((Below.refl _ _).drew).mono BB.out.size))
    clear B12
    have B12 := B12'
    clear B12'
    clear B13
    have B13 := B13'
    clear B13'
    clear B5
    have B5 := B5'
    clear B5'
    clear R10
    have R10 := R10'
    clear R10'
    clear R11
    have R11 := R11'
    clear R11'
    clear MM
    have MM := MM'
    clear MM'
    clear BB
    have BB := BB'
    clear BB'
    refine wp_region_held_drew (S := fun w' => w'.cell? ⟨b12, 0, none⟩ = some (.slice ha hn hn) ∧ w'.cell? ⟨b13, 0, none⟩ = some (.map vp)) (by kernel_rfl) ⟨B12.out.cells1.1, B13.out.cells1.1⟩ (fun hHeld => ?_)
    generalize World.drew wc = V9 at *
    refine wpAnyH_take (i := 0) (oi := { dst := some 28, op := Op.move (Operand.tmp 3), type := 108, pos := "memory.go:122", after := #[], guard := none }) (v := ?d10_1xv0) rfl (by kernel_rfl) (by kernel_rfl) (by kernel_rfl) (fun _ _ _ h => h) (Or.inl ⟨by rfl, ?d10_1xy0⟩) (by assumption) ?d10_1xr0
    case d10_1xy0 => (intro w hSw; (try dsimp only at hSw); go_simp; try with_reducible rfl)
    (try simp only [Act.put])
    (try simp only [List.setIfInBounds_toArray])
    (try simp only [List.set_cons_succ])
    (try simp only [List.set_cons_zero])
    refine wpAnyH_take (i := 1) (oi := { dst := some 29, op := Op.load 65 (Operand.tmp 12), type := 65, pos := "memory.go:122", after := #[], guard := none }) (v := ?d10_2xv1) rfl (by kernel_rfl) (by kernel_rfl) (by kernel_rfl) (fun _ _ _ h => h) (Or.inl ⟨by rfl, ?d10_2xy1⟩) (by assumption) ?d10_2xr1
    case d10_2xy1 => (intro w hSw; (try dsimp only at hSw); go_simp; try with_reducible rfl)
    (try simp only [Act.put])
    (try simp only [List.setIfInBounds_toArray])
    (try simp only [List.set_cons_succ])
    (try simp only [List.set_cons_zero])
    refine wpAnyH_take (i := 2) (oi := { dst := some 30, op := Op.load 60 (Operand.tmp 13), type := 60, pos := "memory.go:122", after := #[], guard := none }) (v := ?d10_3xv2) rfl (by kernel_rfl) (by kernel_rfl) (by kernel_rfl) (fun _ _ _ h => h) (Or.inl ⟨by rfl, ?d10_3xy2⟩) (by assumption) ?d10_3xr2
    case d10_3xy2 => (intro w hSw; (try dsimp only at hSw); go_simp; try with_reducible rfl)
    (try simp only [Act.put])
    (try simp only [List.setIfInBounds_toArray])
    (try simp only [List.set_cons_succ])
    (try simp only [List.set_cons_zero])
    refine wpAnyH_take (i := 3) (oi := { dst := some 31, op := Op.move (Operand.tmp 2), type := 42, pos := "memory.go:122", after := #[], guard := none }) (v := ?d10_4xv3) rfl (by kernel_rfl) (by kernel_rfl) (by kernel_rfl) (fun _ _ _ h => h) (Or.inl ⟨by rfl, ?d10_4xy3⟩) (by assumption) ?d10_4xr3
    case d10_4xy3 => (intro w hSw; (try dsimp only at hSw); go_simp; try with_reducible rfl)
    (try simp only [Act.put])
    (try simp only [List.setIfInBounds_toArray])
    (try simp only [List.set_cons_succ])
    (try simp only [List.set_cons_zero])
    refine wpAnyH_ready (rs := [4]) (by kernel_rfl) (by simp) ?_
    refine AllReadyH.cons (o := { dst := some 32, op := Op.call { callee := Callee.value (Operand.func 19), args := #[Operand.tmp 30, Operand.tmp 31], argTypes := #[60, 42] }, type := 3, pos := "memory.go:122", after := #[{ on := 2, ground := Ground.data }, { on := 3, ground := Ground.data }], guard := none }) rfl (fun K hK => ?_) AllReadyH.nil
    go_simp
    go_at_call 19
    refine (at_b vp vm p _ (by omega) (by omega) (MM.out.atV HV.out)).mono ?_
    rintro e v10 ⟨rfl, hb⟩
    have B12' := Lib.hid (B12.out.below (hb))
    have B13' := Lib.hid (B13.out.below (hb))
    have B5' := Lib.hid (B5.out.below (hb))
    have R10' := Lib.hid (R10.out.below (hb))
    have R11' := Lib.hid (R11.out.below (hb))
    have MM' := Lib.hid (MM.out.below (hb))
    have BB' := Lib.hid (BB.out.trans ((hb).mono BB.out.size))
    clear B12
    have B12 := B12'
    clear B12'
    clear B13
    have B13 := B13'
    clear B13'
    clear B5
    have B5 := B5'
    clear B5'
    clear R10
    have R10 := R10'
    clear R10'
    clear R11
    have R11 := R11'
    clear R11'
    clear MM
    have MM := MM'
    clear MM'
    clear BB
    have BB := BB'
    clear BB'
    clear hb
    go_simp
    refine hK.out _ _ ?_ (fun hHeld => ?_)
    · exact ⟨B12.out.cells1.1, B13.out.cells1.1⟩
    clear hK K
    (try simp only [Act.put])
    (try simp only [List.setIfInBounds_toArray])
    (try simp only [List.set_cons_succ])
    (try simp only [List.set_cons_zero])
    refine wpAnyH_ready (rs := [5]) (by kernel_rfl) (by simp) ?_
    refine AllReadyH.cons (o := { dst := some 33, op := Op.call { callee := Callee.value (Operand.tmp 28), args := #[Operand.tmp 29, Operand.tmp 32], argTypes := #[65, 3] }, type := 3, pos := "memory.go:122", after := #[{ on := 0, ground := Ground.data }, { on := 1, ground := Ground.data }, { on := 4, ground := Ground.data }, { on := 4, ground := Ground.chain }], guard := none }) rfl (fun K hK => ?_) AllReadyH.nil
    go_simp
    go_at_call 40
    refine (newest_any z ha hn hn (atL vm p) _ (by omega)).mono ?_
    rintro e v11 ⟨rfl, hb⟩
    have B12' := Lib.hid (B12.out.below (hb))
    have B13' := Lib.hid (B13.out.below (hb))
    have B5' := Lib.hid (B5.out.below (hb))
    have R10' := Lib.hid (R10.out.below (hb))
    have R11' := Lib.hid (R11.out.below (hb))
    have MM' := Lib.hid (MM.out.below (hb))
    have BB' := Lib.hid (BB.out.trans ((hb).mono BB.out.size))
    clear B12
    have B12 := B12'
    clear B12'
    clear B13
    have B13 := B13'
    clear B13'
    clear B5
    have B5 := B5'
    clear B5'
    clear R10
    have R10 := R10'
    clear R10'
    clear R11
    have R11 := R11'
    clear R11'
    clear MM
    have MM := MM'
    clear MM'
    clear BB
    have BB := BB'
    clear BB'
    clear hb
    rw [← HI.out]
    go_simp
    refine hK.out _ _ ?_ (fun hHeld => ?_)
    · exact ⟨B12.out.cells1.1, B13.out.cells1.1⟩
    clear hK K
    (try simp only [Act.put])
    (try simp only [List.setIfInBounds_toArray])
    (try simp only [List.set_cons_succ])
    (try simp only [List.set_cons_zero])
    refine wpAnyH_ready (rs := [6]) (by kernel_rfl) (by simp) ?_
    refine AllReadyH.cons (o := { dst := some 14, op := Op.assign (Operand.tmp 33), type := 3, pos := "memory.go:122", after := #[{ on := 5, ground := Ground.data }, { on := 5, ground := Ground.chain }, { on := 0, ground := Ground.phase }, { on := 1, ground := Ground.phase }, { on := 2, ground := Ground.phase }, { on := 3, ground := Ground.phase }, { on := 4, ground := Ground.phase }, { on := 5, ground := Ground.phase }], guard := none }) rfl (fun K hK => ?_) AllReadyH.nil
    go_simp
    refine hK.out _ _ ?_ (fun hHeld => ?_)
    · exact ⟨B12.out.cells1.1, B13.out.cells1.1⟩
    clear hK K
    (try simp only [Act.put])
    (try simp only [List.setIfInBounds_toArray])
    (try simp only [List.set_cons_succ])
    (try simp only [List.set_cons_zero])
    refine wpAnyH_done (by kernel_rfl) ?_ _
    go_wp2_with fail
    refine (hat_in _ q i _ _ (MM.out.atP HP.out) HX.out (by rw [HQ.out]; omega)).mono ?_
    rintro e a0 ⟨rfl, hb⟩
    have B12' := Lib.hid (B12.out.below (hb))
    have B13' := Lib.hid (B13.out.below (hb))
    have B5' := Lib.hid (B5.out.below (hb))
    have R10' := Lib.hid (R10.out.below (hb))
    have R11' := Lib.hid (R11.out.below (hb))
    have MM' := Lib.hid (MM.out.below (hb))
    have BB' := Lib.hid (BB.out.trans ((hb).mono BB.out.size))
    clear B12
    have B12 := B12'
    clear B12'
    clear B13
    have B13 := B13'
    clear B13'
    clear B5
    have B5 := B5'
    clear B5'
    clear R10
    have R10 := R10'
    clear R10'
    clear R11
    have R11 := R11'
    clear R11'
    clear MM
    have MM := MM'
    clear MM'
    clear BB
    have BB := BB'
    clear BB'
    clear hb
    simp only [msgV]
    have PX := Lib.hid ((MM.out.atP HP.out).1 _ (List.mem_of_getElem? HX.out))
    simp only at PX
    go_upto_region 4 with fail
    have hlt_b15 := BB.out.size
    have hlt_b15_B12 := B12.out.lt
    have hlt_b15_B13 := B13.out.lt
    have hlt_b15_B5 := B5.out.lt
    have hlt_b15_R10 := R10.out.lt
    have hlt_b15_R11 := R11.out.lt
    have B12' := Lib.hid (B12.out.below (below_new a0 (.cells #[.int .i64 xa, .int .u32 xb, .int .u32 xc, .int .i64 xd, .map xp] 70)))
    have B13' := Lib.hid (B13.out.below (below_new a0 (.cells #[.int .i64 xa, .int .u32 xb, .int .u32 xc, .int .i64 xd, .map xp] 70)))
    have B5' := Lib.hid (B5.out.below (below_new a0 (.cells #[.int .i64 xa, .int .u32 xb, .int .u32 xc, .int .i64 xd, .map xp] 70)))
    have R10' := Lib.hid (R10.out.below (below_new a0 (.cells #[.int .i64 xa, .int .u32 xb, .int .u32 xc, .int .i64 xd, .map xp] 70)))
    have R11' := Lib.hid (R11.out.below (below_new a0 (.cells #[.int .i64 xa, .int .u32 xb, .int .u32 xc, .int .i64 xd, .map xp] 70)))
    have MM' := Lib.hid (MM.out.below (below_new a0 (.cells #[.int .i64 xa, .int .u32 xb, .int .u32 xc, .int .i64 xd, .map xp] 70)))
    have PX' := Lib.hid (PX.out.below (below_new a0 (.cells #[.int .i64 xa, .int .u32 xb, .int .u32 xc, .int .i64 xd, .map xp] 70)))
    have BB' := Lib.hid (BB.out.trans ((below_new a0 (.cells #[.int .i64 xa, .int .u32 xb, .int .u32 xc, .int .i64 xd, .map xp] 70)).mono BB.out.size))
    clear B12
    have B12 := B12'
    clear B12'
    clear B13
    have B13 := B13'
    clear B13'
    clear B5
    have B5 := B5'
    clear B5'
    clear R10
    have R10 := R10'
    clear R10'
    clear R11
    have R11 := R11'
    clear R11'
    clear MM
    have MM := MM'
    clear MM'
    clear PX
    have PX := PX'
    clear PX'
    clear BB
    have BB := BB'
    clear BB'
    have B15 := Lib.hid (Box.new a0 #[.int .i64 xa, .int .u32 xb, .int .u32 xc, .int .i64 xd, .map xp] 70 rfl)
    have hsz_b15 : (World.alloc a0 (.cells #[.int .i64 xa, .int .u32 xb, .int .u32 xc, .int .i64 xd, .map xp] 70)).heap.size = (World.heap a0).size + 1 := by simp
    generalize World.alloc a0 (.cells #[.int .i64 xa, .int .u32 xb, .int .u32 xc, .int .i64 xd, .map xp] 70) = a1 at *
    generalize World.heap a0 = hp_b15 at *
    generalize hp_b15.size = b15 at *
    have kc0 := B13.out.cells1.1
    go_wp2_with fail
    clear kc0
    have hlt13 := B13.out.lt
    refine (with_any vp vm p i _ (by omega) (by omega) (by omega) (by omega) (MM.out.atV HV.out)).mono ?_
    rintro e a2 ⟨bw, hbw, rfl, hv1, hb⟩
    have B12' := Lib.hid (B12.out.below (hb))
    have B13' := Lib.hid (B13.out.below (hb))
    have B5' := Lib.hid (B5.out.below (hb))
    have R10' := Lib.hid (R10.out.below (hb))
    have R11' := Lib.hid (R11.out.below (hb))
    have MM' := Lib.hid (MM.out.below (hb))
    have PX' := Lib.hid (PX.out.below (hb))
    have B15' := Lib.hid (B15.out.below (hb))
    have BB' := Lib.hid (BB.out.trans ((hb).mono BB.out.size))
    clear B12
    have B12 := B12'
    clear B12'
    clear B13
    have B13 := B13'
    clear B13'
    clear B5
    have B5 := B5'
    clear B5'
    clear R10
    have R10 := R10'
    clear R10'
    clear R11
    have R11 := R11'
    clear R11'
    clear MM
    have MM := MM'
    clear MM'
    clear PX
    have PX := PX'
    clear PX'
    clear B15
    have B15 := B15'
    clear B15'
    clear BB
    have BB := BB'
    clear BB'
    clear hb
    have P1 := Lib.hid (hv1)
    clear hv1
    obtain ⟨m0, g0⟩ := B13.out.cells1
    go_upto_region 5 with fail
    clear m0 g0
    have B12' := Lib.hid (B12.out.only (by omega) ((Only.refl b13 a2).set 0 (.map (some bw))))
    have B13' := Lib.hid ((B13.out).set 0 (.map (some bw)))
    have B5' := Lib.hid (B5.out.only (by omega) ((Only.refl b13 a2).set 0 (.map (some bw))))
    have R10' := Lib.hid (R10.out.only (by omega) ((Only.refl b13 a2).set 0 (.map (some bw))))
    have R11' := Lib.hid (R11.out.only (by omega) ((Only.refl b13 a2).set 0 (.map (some bw))))
    have MM' := Lib.hid (MM.out.only B13.out (by omega) ((Only.refl b13 a2).set 0 (.map (some bw))))
    have PX' := Lib.hid (PX.out.only B13.out ((Only.refl b13 a2).set 0 (.map (some bw))))
    have B15' := Lib.hid (B15.out.only (by omega) ((Only.refl b13 a2).set 0 (.map (some bw))))
    have P1' := Lib.hid (P1.out.only B13.out ((Only.refl b13 a2).set 0 (.map (some bw))))
    have BB' := Lib.hid ((BB.out).put b13 (by omega) 0 (.map (some bw)))
    clear B12
    have B12 := B12'
    clear B12'
    clear B13
    have B13 := B13'
    clear B13'
    clear B5
    have B5 := B5'
    clear B5'
    clear R10
    have R10 := R10'
    clear R10'
    clear R11
    have R11 := R11'
    clear R11'
    clear MM
    have MM := MM'
    clear MM'
    clear PX
    have PX := PX'
    clear PX'
    clear B15
    have B15 := B15'
    clear B15'
    clear P1
    have P1 := P1'
    clear P1'
    clear BB
    have BB := BB'
    clear BB'
    generalize (World.setCell a2 ⟨b13, 0, none⟩ (.map (some bw))) = s12 at *
    obtain ⟨⟨m0, m1, m2, m3, m4⟩, -⟩ := B15.out.cells5
    have m13 := B13.out.cells1.1
    go_wp2_with fail
    clear m0 m1 m2 m3 m4 m13
    refine (join_any (some bw) xp (withL vm p i) xm _ P1.out PX.out).mono ?_
    rintro e a3 ⟨bj, hbj, rfl, hv1, hb⟩
    have B12' := Lib.hid (B12.out.below (hb))
    have B13' := Lib.hid (B13.out.below (hb))
    have B5' := Lib.hid (B5.out.below (hb))
    have R10' := Lib.hid (R10.out.below (hb))
    have R11' := Lib.hid (R11.out.below (hb))
    have MM' := Lib.hid (MM.out.below (hb))
    have PX' := Lib.hid (PX.out.below (hb))
    have B15' := Lib.hid (B15.out.below (hb))
    have P1' := Lib.hid (P1.out.below (hb))
    have BB' := Lib.hid (BB.out.trans ((hb).mono BB.out.size))
    clear B12
    have B12 := B12'
    clear B12'
    clear B13
    have B13 := B13'
    clear B13'
    clear B5
    have B5 := B5'
    clear B5'
    clear R10
    have R10 := R10'
    clear R10'
    clear R11
    have R11 := R11'
    clear R11'
    clear MM
    have MM := MM'
    clear MM'
    clear PX
    have PX := PX'
    clear PX'
    clear B15
    have B15 := B15'
    clear B15'
    clear P1
    have P1 := P1'
    clear P1'
    clear BB
    have BB := BB'
    clear BB'
    clear hb
    have PJ := Lib.hid (hv1)
    clear hv1
    obtain ⟨m0, g0⟩ := B13.out.cells1
    go_upto_region 7 with fail
    clear m0 g0
    have B12' := Lib.hid (B12.out.only (by omega) ((Only.refl b13 a3).set 0 (.map (some bj))))
    have B13' := Lib.hid ((B13.out).set 0 (.map (some bj)))
    have B5' := Lib.hid (B5.out.only (by omega) ((Only.refl b13 a3).set 0 (.map (some bj))))
    have R10' := Lib.hid (R10.out.only (by omega) ((Only.refl b13 a3).set 0 (.map (some bj))))
    have R11' := Lib.hid (R11.out.only (by omega) ((Only.refl b13 a3).set 0 (.map (some bj))))
    have MM' := Lib.hid (MM.out.only B13.out (by omega) ((Only.refl b13 a3).set 0 (.map (some bj))))
    have PX' := Lib.hid (PX.out.only B13.out ((Only.refl b13 a3).set 0 (.map (some bj))))
    have B15' := Lib.hid (B15.out.only (by omega) ((Only.refl b13 a3).set 0 (.map (some bj))))
    have P1' := Lib.hid (P1.out.only B13.out ((Only.refl b13 a3).set 0 (.map (some bj))))
    have PJ' := Lib.hid (PJ.out.only B13.out ((Only.refl b13 a3).set 0 (.map (some bj))))
    have BB' := Lib.hid ((BB.out).put b13 (by omega) 0 (.map (some bj)))
    clear B12
    have B12 := B12'
    clear B12'
    clear B13
    have B13 := B13'
    clear B13'
    clear B5
    have B5 := B5'
    clear B5'
    clear R10
    have R10 := R10'
    clear R10'
    clear R11
    have R11 := R11'
    clear R11'
    clear MM
    have MM := MM'
    clear MM'
    clear PX
    have PX := PX'
    clear PX'
    clear B15
    have B15 := B15'
    clear B15'
    clear P1
    have P1 := P1'
    clear P1'
    clear PJ
    have PJ := PJ'
    clear PJ'
    clear BB
    have BB := BB'
    clear BB'
    generalize (World.setCell a3 ⟨b13, 0, none⟩ (.map (some bj))) = s13 at *
    have B12' := Lib.hid (B12.out.below ((Below.refl _ _).drew))
    have B13' := Lib.hid (B13.out.below ((Below.refl _ _).drew))
    have B5' := Lib.hid (B5.out.below ((Below.refl _ _).drew))
    have R10' := Lib.hid (R10.out.below ((Below.refl _ _).drew))
    have R11' := Lib.hid (R11.out.below ((Below.refl _ _).drew))
    have MM' := Lib.hid (MM.out.below ((Below.refl _ _).drew))
    have PX' := Lib.hid (PX.out.below ((Below.refl _ _).drew))
    have B15' := Lib.hid (B15.out.below ((Below.refl _ _).drew))
    have P1' := Lib.hid (P1.out.below ((Below.refl _ _).drew))
    have PJ' := Lib.hid (PJ.out.below ((Below.refl _ _).drew))
    have BB' := Lib.hid (BB.out.trans (((Below.refl _ _).drew).mono BB.out.size))
    clear B12
    have B12 := B12'
    clear B12'
    clear B13
    have B13 := B13'
    clear B13'
    clear B5
    have B5 := B5'
    clear B5'
    clear R10
    have R10 := R10'
    clear R10'
    clear R11
    have R11 := R11'
    clear R11'
    clear MM
    have MM := MM'
    clear MM'
    clear PX
    have PX := PX'
    clear PX'
    clear B15
    have B15 := B15'
    clear B15'
    clear P1
    have P1 := P1'
    clear P1'
    clear PJ
    have PJ := PJ'
    clear PJ'
    clear BB
    have BB := BB'
    clear BB'
    refine wp_region_held_drew (S := fun w' => w'.cell? ⟨b5, 0, none⟩ = some (.slice (some ⟨bP, 0, none⟩) np np) ∧ w'.cell? ⟨b5, 1, none⟩ = some (.slice (some ⟨bV, 0, none⟩) nv nv) ∧ w'.cell? ⟨b13, 0, none⟩ = some (.map (some bj)) ∧ w'.cell? ⟨b15, 0, none⟩ = some (.int .i64 xa) ∧ w'.cell? ⟨b15, 1, none⟩ = some (.int .u32 xb) ∧ w'.cell? ⟨b15, 2, none⟩ = some (.int .u32 xc) ∧ w'.cell? ⟨b15, 3, none⟩ = some (.int .i64 xd) ∧ w'.cell? ⟨b15, 4, none⟩ = some (.map xp)) (by kernel_rfl) ⟨B5.out.cells2.1.1, B5.out.cells2.1.2, B13.out.cells1.1, B15.out.cell 0, B15.out.cell 1, B15.out.cell 2, B15.out.cell 3, B15.out.cell 4⟩ (fun hHeld => ?_)
    generalize World.drew s13 = V14 at *
    refine wpAnyH_take (i := 0) (oi := { dst := some 49, op := Op.fieldAddr 31 (Operand.tmp 5) 0, type := 0, pos := "memory.go:128", after := #[], guard := none }) (v := ?d15_1xv0) rfl (by kernel_rfl) (by kernel_rfl) (by kernel_rfl) (fun _ _ _ h => h) (Or.inl ⟨by rfl, ?d15_1xy0⟩) (by assumption) ?d15_1xr0
    case d15_1xy0 => (intro w hSw; (try dsimp only at hSw); go_simp; try with_reducible rfl)
    (try simp only [Act.put])
    (try simp only [List.setIfInBounds_toArray])
    (try simp only [List.set_cons_succ])
    (try simp only [List.set_cons_zero])
    refine wpAnyH_take (i := 1) (oi := { dst := some 50, op := Op.load 28 (Operand.tmp 49), type := 28, pos := "memory.go:128", after := #[{ on := 0, ground := Ground.data }], guard := none }) (v := ?d15_2xv1) rfl (by kernel_rfl) (by kernel_rfl) (by kernel_rfl) (fun _ _ _ h => h) (Or.inl ⟨by rfl, ?d15_2xy1⟩) (by assumption) ?d15_2xr1
    case d15_2xy1 => (intro w hSw; (try dsimp only at hSw); go_simp; try with_reducible rfl)
    (try simp only [Act.put])
    (try simp only [List.setIfInBounds_toArray])
    (try simp only [List.set_cons_succ])
    (try simp only [List.set_cons_zero])
    refine wpAnyH_take (i := 2) (oi := { dst := some 51, op := Op.fieldAddr 31 (Operand.tmp 5) 1, type := 0, pos := "memory.go:128", after := #[], guard := none }) (v := ?d15_3xv2) rfl (by kernel_rfl) (by kernel_rfl) (by kernel_rfl) (fun _ _ _ h => h) (Or.inl ⟨by rfl, ?d15_3xy2⟩) (by assumption) ?d15_3xr2
    case d15_3xy2 => (intro w hSw; (try dsimp only at hSw); go_simp; try with_reducible rfl)
    (try simp only [Act.put])
    (try simp only [List.setIfInBounds_toArray])
    (try simp only [List.set_cons_succ])
    (try simp only [List.set_cons_zero])
    refine wpAnyH_take (i := 3) (oi := { dst := some 52, op := Op.load 29 (Operand.tmp 51), type := 29, pos := "memory.go:128", after := #[{ on := 2, ground := Ground.data }], guard := none }) (v := ?d15_4xv3) rfl (by kernel_rfl) (by kernel_rfl) (by kernel_rfl) (fun _ _ _ h => h) (Or.inl ⟨by rfl, ?d15_4xy3⟩) (by assumption) ?d15_4xr3
    case d15_4xy3 => (intro w hSw; (try dsimp only at hSw); go_simp; try with_reducible rfl)
    (try simp only [Act.put])
    (try simp only [List.setIfInBounds_toArray])
    (try simp only [List.set_cons_succ])
    (try simp only [List.set_cons_zero])
    refine wpAnyH_take (i := 4) (oi := { dst := some 53, op := Op.move (Operand.tmp 1), type := 3, pos := "memory.go:128", after := #[], guard := none }) (v := ?d15_5xv4) rfl (by kernel_rfl) (by kernel_rfl) (by kernel_rfl) (fun _ _ _ h => h) (Or.inl ⟨by rfl, ?d15_5xy4⟩) (by assumption) ?d15_5xr4
    case d15_5xy4 => (intro w hSw; (try dsimp only at hSw); go_simp; try with_reducible rfl)
    (try simp only [Act.put])
    (try simp only [List.setIfInBounds_toArray])
    (try simp only [List.set_cons_succ])
    (try simp only [List.set_cons_zero])
    refine wpAnyH_take (i := 5) (oi := { dst := some 54, op := Op.binOp BinOp.sub 3 (Operand.tmp 53) (Operand.const (Value.int IntKind.i64 1)) 3, type := 3, pos := "memory.go:128", after := #[{ on := 4, ground := Ground.data }], guard := none }) (v := ?d15_6xv5) rfl (by kernel_rfl) (by kernel_rfl) (by kernel_rfl) (fun _ _ _ h => h) (Or.inl ⟨by rfl, ?d15_6xy5⟩) (by assumption) ?d15_6xr5
    case d15_6xy5 => (intro w hSw; (try dsimp only at hSw); go_simp; try with_reducible rfl)
    (try simp only [Act.put])
    (try simp only [List.setIfInBounds_toArray])
    (try simp only [List.set_cons_succ])
    (try simp only [List.set_cons_zero])
    refine wpAnyH_take (i := 6) (oi := { dst := some 55, op := Op.load 60 (Operand.tmp 13), type := 60, pos := "memory.go:128", after := #[], guard := none }) (v := ?d15_7xv6) rfl (by kernel_rfl) (by kernel_rfl) (by kernel_rfl) (fun _ _ _ h => h) (Or.inl ⟨by rfl, ?d15_7xy6⟩) (by assumption) ?d15_7xr6
    case d15_7xy6 => (intro w hSw; (try dsimp only at hSw); go_simp; try with_reducible rfl)
    (try simp only [Act.put])
    (try simp only [List.setIfInBounds_toArray])
    (try simp only [List.set_cons_succ])
    (try simp only [List.set_cons_zero])
    refine wpAnyH_take (i := 9) (oi := { dst := some 58, op := Op.fieldAddr 70 (Operand.tmp 15) 0, type := 0, pos := "memory.go:128", after := #[{ on := 11, ground := Ground.gcOnly Departure.lateStores }], guard := none }) (v := ?d15_8xv9) rfl (by kernel_rfl) (by kernel_rfl) (by kernel_rfl) (fun _ _ _ h => h) (Or.inl ⟨by rfl, ?d15_8xy9⟩) (by assumption) ?d15_8xr9
    case d15_8xy9 => (intro w hSw; (try dsimp only at hSw); go_simp; try with_reducible rfl)
    (try simp only [Act.put])
    (try simp only [List.setIfInBounds_toArray])
    (try simp only [List.set_cons_succ])
    (try simp only [List.set_cons_zero])
    refine wpAnyH_take (i := 10) (oi := { dst := some 59, op := Op.load 45 (Operand.tmp 58), type := 45, pos := "memory.go:128", after := #[{ on := 9, ground := Ground.data }, { on := 11, ground := Ground.gcOnly Departure.lateStores }], guard := none }) (v := ?d15_9xv10) rfl (by kernel_rfl) (by kernel_rfl) (by kernel_rfl) (fun _ _ _ h => h) (Or.inl ⟨by rfl, ?d15_9xy10⟩) (by assumption) ?d15_9xr10
    case d15_9xy10 => (intro w hSw; (try dsimp only at hSw); go_simp; try with_reducible rfl)
    (try simp only [Act.put])
    (try simp only [List.setIfInBounds_toArray])
    (try simp only [List.set_cons_succ])
    (try simp only [List.set_cons_zero])
    refine wpAnyH_ready (rs := [7]) (by kernel_rfl) (by simp) ?_
    refine AllReadyH.cons (o := { dst := some 56, op := Op.call { callee := Callee.value (Operand.func 53), args := #[Operand.tmp 52, Operand.tmp 54, Operand.tmp 55], argTypes := #[29, 3, 60] }, type := 29, pos := "memory.go:128", after := #[{ on := 3, ground := Ground.data }, { on := 5, ground := Ground.data }, { on := 6, ground := Ground.data }], guard := none }) rfl (fun K hK => ?_) AllReadyH.nil
    go_simp
    go_at_call 53
    (try rw [hwk])
    have hltr10 := R10.out.lt
    have hltr11 := R11.out.lt
    refine (repl_v _ _ k (some bj) _ (MM.out.rowV E2.out) (oneV_cells V) (by rw [List.length_map, E2.out]; omega) (by rw [List.length_map, E2.out]; omega)).mono ?_
    rintro e v15 ⟨bN, hbN, rfl, hr, hb⟩
    have B12' := Lib.hid (B12.out.below (hb))
    have B13' := Lib.hid (B13.out.below (hb))
    have B5' := Lib.hid (B5.out.below (hb))
    have R10' := Lib.hid (R10.out.below (hb))
    have R11' := Lib.hid (R11.out.below (hb))
    have MM' := Lib.hid (MM.out.below (hb))
    have PX' := Lib.hid (PX.out.below (hb))
    have B15' := Lib.hid (B15.out.below (hb))
    have P1' := Lib.hid (P1.out.below (hb))
    have PJ' := Lib.hid (PJ.out.below (hb))
    have BB' := Lib.hid (BB.out.trans ((hb).mono BB.out.size))
    clear B12
    have B12 := B12'
    clear B12'
    clear B13
    have B13 := B13'
    clear B13'
    clear B5
    have B5 := B5'
    clear B5'
    clear R10
    have R10 := R10'
    clear R10'
    clear R11
    have R11 := R11'
    clear R11'
    clear MM
    have MM := MM'
    clear MM'
    clear PX
    have PX := PX'
    clear PX'
    clear B15
    have B15 := B15'
    clear B15'
    clear P1
    have P1 := P1'
    clear P1'
    clear PJ
    have PJ := PJ'
    clear PJ'
    clear BB
    have BB := BB'
    clear BB'
    clear hb
    have RN := Lib.hid (hr)
    clear hr
    rw [show ((V.map fun x => Value.map x.1).set k (.map (some bj))).length = nv by rw [List.length_set, List.length_map, E2.out]] at RN ⊢
    go_simp
    refine hK.out _ _ ?_ (fun hHeld => ?_)
    · exact ⟨B5.out.cells2.1.1, B5.out.cells2.1.2, B13.out.cells1.1, B15.out.cell 0, B15.out.cell 1, B15.out.cell 2, B15.out.cell 3, B15.out.cell 4⟩
    clear hK K
    (try simp only [Act.put])
    (try simp only [List.setIfInBounds_toArray])
    (try simp only [List.set_cons_succ])
    (try simp only [List.set_cons_zero])
    refine wpAnyH_take (i := 8) (oi := { dst := some 57, op := Op.build 31 #[(0, Operand.tmp 50), (1, Operand.tmp 56)], type := 31, pos := "memory.go:128", after := #[{ on := 1, ground := Ground.data }, { on := 7, ground := Ground.data }], guard := none }) (v := ?d16_10xv8) rfl (by kernel_rfl) (by kernel_rfl) (by kernel_rfl) (fun _ _ _ h => h) (Or.inl ⟨by rfl, ?d16_10xy8⟩) (by assumption) ?d16_10xr8
    case d16_10xy8 => (intro w hSw; (try dsimp only at hSw); go_simp; try with_reducible rfl)
    (try simp only [Act.put])
    (try simp only [List.setIfInBounds_toArray])
    (try simp only [List.set_cons_succ])
    (try simp only [List.set_cons_zero])
    refine wpAnyH_ready (rs := [11]) (by kernel_rfl) (by simp) ?_
    refine AllReadyH.cons (o := { dst := none, op := Op.store 31 (Operand.tmp 10) (Operand.tmp 57), type := 0, pos := "memory.go:128", after := #[{ on := 8, ground := Ground.data }, { on := 7, ground := Ground.chain }, { on := 0, ground := Ground.phase }, { on := 1, ground := Ground.phase }, { on := 2, ground := Ground.phase }, { on := 3, ground := Ground.phase }, { on := 4, ground := Ground.phase }, { on := 5, ground := Ground.phase }, { on := 6, ground := Ground.phase }, { on := 7, ground := Ground.phase }, { on := 8, ground := Ground.phase }, { on := 9, ground := Ground.textOnly Departure.lateStores }, { on := 10, ground := Ground.textOnly Departure.lateStores }], guard := none }) rfl (fun K hK => ?_) AllReadyH.nil
    obtain ⟨⟨m0, m1⟩, g0, g1⟩ := R10.out.cells2
    go_simp
    clear m0 g0 m1 g1
    have B12' := Lib.hid (B12.out.only (by omega) (((Only.refl b10 v15).set 0 (.slice (some ⟨bP, 0, none⟩) np np)).set 1 (.slice (some ⟨bN, 0, none⟩) nv nv)))
    have B13' := Lib.hid (B13.out.only (by omega) (((Only.refl b10 v15).set 0 (.slice (some ⟨bP, 0, none⟩) np np)).set 1 (.slice (some ⟨bN, 0, none⟩) nv nv)))
    have B5' := Lib.hid (B5.out.only (by omega) (((Only.refl b10 v15).set 0 (.slice (some ⟨bP, 0, none⟩) np np)).set 1 (.slice (some ⟨bN, 0, none⟩) nv nv)))
    have R10' := Lib.hid (((R10.out).set 0 (.slice (some ⟨bP, 0, none⟩) np np)).set 1 (.slice (some ⟨bN, 0, none⟩) nv nv))
    have R11' := Lib.hid (R11.out.only (by omega) (((Only.refl b10 v15).set 0 (.slice (some ⟨bP, 0, none⟩) np np)).set 1 (.slice (some ⟨bN, 0, none⟩) nv nv)))
    have MM' := Lib.hid (MM.out.only R10.out (by omega) (((Only.refl b10 v15).set 0 (.slice (some ⟨bP, 0, none⟩) np np)).set 1 (.slice (some ⟨bN, 0, none⟩) nv nv)))
    have PX' := Lib.hid (PX.out.only R10.out (((Only.refl b10 v15).set 0 (.slice (some ⟨bP, 0, none⟩) np np)).set 1 (.slice (some ⟨bN, 0, none⟩) nv nv)))
    have B15' := Lib.hid (B15.out.only (by omega) (((Only.refl b10 v15).set 0 (.slice (some ⟨bP, 0, none⟩) np np)).set 1 (.slice (some ⟨bN, 0, none⟩) nv nv)))
    have P1' := Lib.hid (P1.out.only R10.out (((Only.refl b10 v15).set 0 (.slice (some ⟨bP, 0, none⟩) np np)).set 1 (.slice (some ⟨bN, 0, none⟩) nv nv)))
    have PJ' := Lib.hid (PJ.out.only R10.out (((Only.refl b10 v15).set 0 (.slice (some ⟨bP, 0, none⟩) np np)).set 1 (.slice (some ⟨bN, 0, none⟩) nv nv)))
    have RN' := Lib.hid (RN.out.only (by omega) (((Only.refl b10 v15).set 0 (.slice (some ⟨bP, 0, none⟩) np np)).set 1 (.slice (some ⟨bN, 0, none⟩) nv nv)))
    have BB' := Lib.hid (((BB.out).put b10 (by omega) 0 (.slice (some ⟨bP, 0, none⟩) np np)).put b10 (by omega) 1 (.slice (some ⟨bN, 0, none⟩) nv nv))
    clear B12
    have B12 := B12'
    clear B12'
    clear B13
    have B13 := B13'
    clear B13'
    clear B5
    have B5 := B5'
    clear B5'
    clear R10
    have R10 := R10'
    clear R10'
    clear R11
    have R11 := R11'
    clear R11'
    clear MM
    have MM := MM'
    clear MM'
    clear PX
    have PX := PX'
    clear PX'
    clear B15
    have B15 := B15'
    clear B15'
    clear P1
    have P1 := P1'
    clear P1'
    clear PJ
    have PJ := PJ'
    clear PJ'
    clear RN
    have RN := RN'
    clear RN'
    clear BB
    have BB := BB'
    clear BB'
    generalize (World.setCell (World.setCell v15 ⟨b10, 0, none⟩ (.slice (some ⟨bP, 0, none⟩) np np)) ⟨b10, 1, none⟩ (.slice (some ⟨bN, 0, none⟩) nv nv)) = v16 at *
    refine hK.out _ _ ?_ (fun hHeld => ?_)
    · exact ⟨B5.out.cells2.1.1, B5.out.cells2.1.2, B13.out.cells1.1, B15.out.cell 0, B15.out.cell 1, B15.out.cell 2, B15.out.cell 3, B15.out.cell 4⟩
    clear hK K
    (try simp only [Act.put])
    (try simp only [List.setIfInBounds_toArray])
    (try simp only [List.set_cons_succ])
    (try simp only [List.set_cons_zero])
    refine wpAnyH_ready (rs := [12]) (by kernel_rfl) (by simp) ?_
    refine AllReadyH.cons (o := { dst := none, op := Op.store 45 (Operand.tmp 11) (Operand.tmp 59), type := 0, pos := "memory.go:128", after := #[{ on := 10, ground := Ground.data }, { on := 11, ground := Ground.chain }, { on := 0, ground := Ground.phase }, { on := 1, ground := Ground.phase }, { on := 2, ground := Ground.phase }, { on := 3, ground := Ground.phase }, { on := 4, ground := Ground.phase }, { on := 5, ground := Ground.phase }, { on := 6, ground := Ground.phase }, { on := 7, ground := Ground.phase }, { on := 8, ground := Ground.phase }, { on := 9, ground := Ground.phase }, { on := 10, ground := Ground.phase }, { on := 11, ground := Ground.phase }], guard := none }) rfl (fun K hK => ?_) AllReadyH.nil
    obtain ⟨⟨m0, m1, m2⟩, g0, g1, g2⟩ := R11.out.cells3
    go_simp
    clear m0 g0 m1 g1 m2 g2
    have B12' := Lib.hid (B12.out.only (by omega) ((((Only.refl b11 v16).set 0 (.int .i64 xa)).set 1 (.int .u32 xb)).set 2 (.int .u32 xc)))
    have B13' := Lib.hid (B13.out.only (by omega) ((((Only.refl b11 v16).set 0 (.int .i64 xa)).set 1 (.int .u32 xb)).set 2 (.int .u32 xc)))
    have B5' := Lib.hid (B5.out.only (by omega) ((((Only.refl b11 v16).set 0 (.int .i64 xa)).set 1 (.int .u32 xb)).set 2 (.int .u32 xc)))
    have R10' := Lib.hid (R10.out.only (by omega) ((((Only.refl b11 v16).set 0 (.int .i64 xa)).set 1 (.int .u32 xb)).set 2 (.int .u32 xc)))
    have R11' := Lib.hid ((((R11.out).set 0 (.int .i64 xa)).set 1 (.int .u32 xb)).set 2 (.int .u32 xc))
    have MM' := Lib.hid (MM.out.only R11.out (by omega) ((((Only.refl b11 v16).set 0 (.int .i64 xa)).set 1 (.int .u32 xb)).set 2 (.int .u32 xc)))
    have PX' := Lib.hid (PX.out.only R11.out ((((Only.refl b11 v16).set 0 (.int .i64 xa)).set 1 (.int .u32 xb)).set 2 (.int .u32 xc)))
    have B15' := Lib.hid (B15.out.only (by omega) ((((Only.refl b11 v16).set 0 (.int .i64 xa)).set 1 (.int .u32 xb)).set 2 (.int .u32 xc)))
    have P1' := Lib.hid (P1.out.only R11.out ((((Only.refl b11 v16).set 0 (.int .i64 xa)).set 1 (.int .u32 xb)).set 2 (.int .u32 xc)))
    have PJ' := Lib.hid (PJ.out.only R11.out ((((Only.refl b11 v16).set 0 (.int .i64 xa)).set 1 (.int .u32 xb)).set 2 (.int .u32 xc)))
    have RN' := Lib.hid (RN.out.only (by omega) ((((Only.refl b11 v16).set 0 (.int .i64 xa)).set 1 (.int .u32 xb)).set 2 (.int .u32 xc)))
    have BB' := Lib.hid ((((BB.out).put b11 (by omega) 0 (.int .i64 xa)).put b11 (by omega) 1 (.int .u32 xb)).put b11 (by omega) 2 (.int .u32 xc))
    clear B12
    have B12 := B12'
    clear B12'
    clear B13
    have B13 := B13'
    clear B13'
    clear B5
    have B5 := B5'
    clear B5'
    clear R10
    have R10 := R10'
    clear R10'
    clear R11
    have R11 := R11'
    clear R11'
    clear MM
    have MM := MM'
    clear MM'
    clear PX
    have PX := PX'
    clear PX'
    clear B15
    have B15 := B15'
    clear B15'
    clear P1
    have P1 := P1'
    clear P1'
    clear PJ
    have PJ := PJ'
    clear PJ'
    clear RN
    have RN := RN'
    clear RN'
    clear BB
    have BB := BB'
    clear BB'
    generalize (World.setCell (World.setCell (World.setCell v16 ⟨b11, 0, none⟩ (.int .i64 xa)) ⟨b11, 1, none⟩ (.int .u32 xb)) ⟨b11, 2, none⟩ (.int .u32 xc)) = v17 at *
    refine hK.out _ _ ?_ (fun hHeld => ?_)
    · exact ⟨B5.out.cells2.1.1, B5.out.cells2.1.2, B13.out.cells1.1, B15.out.cell 0, B15.out.cell 1, B15.out.cell 2, B15.out.cell 3, B15.out.cell 4⟩
    clear hK K
    (try simp only [Act.put])
    (try simp only [List.setIfInBounds_toArray])
    (try simp only [List.set_cons_succ])
    (try simp only [List.set_cons_zero])
    refine wpAnyH_done (by kernel_rfl) ?_ _
    obtain ⟨⟨m0, m1⟩, -⟩ := R10.out.cells2
    obtain ⟨⟨k0, k1, k2⟩, -⟩ := R11.out.cells3
    have F1 := RN.out
    have F3 := PJ.out
    have F2 := BB.out
    go_wp2
    refine bodyPost_ret (v := .tuple #[.agg #[.slice (some ⟨bP, 0, none⟩) np np, .slice (some ⟨bN, 0, none⟩) nv nv], .agg #[.int .i64 xa, .int .u32 xb, .int .u32 xc]]) (by simp [results, Try.f39, go_sem, m0, m1, k0, k1, k2]) rfl ?_
    exact ⟨bN, some bj, rfl, by omega, F1, F3, F2⟩

set_option maxRecDepth 100000 in
set_option maxHeartbeats 6400000 in
theorem read_acq (z : Int) (z0 : -9223372036854775808 ≤ z) (z1 : z < 9223372036854775808) (bP bV np nv B k p i hn : Nat) (P : List PL) (V : List VL) (ha : Option Addr) (q : List MP) (vp : Option Nat) (vm : List (Int × Int)) (xa xb xc xd : Int) (xm : List (Int × Int)) (xp : Option Nat) (w : World)
    (h : MO B bP bV P V w) (e1 : P.length = np) (e2 : V.length = nv) (l1 : np ≤ 4096) (l2 : nv ≤ 8) (hp : P[p]? = some ((.slice ha hn hn), q)) (hv : V[k]? = some (vp, vm)) (hq : q.length = hn) (hql : hn ≤ 1000)
    (hx : q[i]? = some (⟨xa, xb, xc, xd, xm⟩, xp)) (hi : (i : Int) = chooseL hn (atL vm p) z) :
    Calls Try.prog 39 #[.agg #[.slice (some ⟨bP, 0, none⟩) np np, .slice (some ⟨bV, 0, none⟩) nv nv], .int .i64 ((k : Int) + 1), .int .i64 p, (.func (Fn.func 41) #[.agg #[.int .i64 z]] #[]), .bool true] w fun e w' => ∃ bN vp', e = .returned (.tuple #[.agg #[.slice (some ⟨bP, 0, none⟩) np np, .slice (some ⟨bN, 0, none⟩) nv nv], .agg #[.int .i64 xa, .int .u32 xb, .int .u32 xc]]) ∧
      w.heap.size ≤ bN ∧ RW w' (.slice (some ⟨bN, 0, none⟩) nv nv) ((V.map fun x => Value.map x.1).set k (.map vp')) ∧ VW w' vp' (joinL (withL vm p i) xm) ∧ Below w.heap.size w w' := by
  have hk : k < nv := by rw [← e2]; exact (List.getElem?_eq_some_iff.1 hv).1
  have hpn : p < np := by rw [← e1]; exact (List.getElem?_eq_some_iff.1 hp).1
  have hih : i < hn := by rw [← hq]; exact (List.getElem?_eq_some_iff.1 hx).1
  have hvo := (h.atV hv).1
  have hbd := atL_bd hvo p
  have HP := Lib.hid hp
  have HV := Lib.hid hv
  have HX := Lib.hid hx
  have HQ := Lib.hid hq
  have HI := Lib.hid hi
  have E1 := Lib.hid e1
  have E2 := Lib.hid e2
  have HVO := Lib.hid hvo
  have hwk : IntKind.i64.wrap ((k : Int)) = k := IntWalk.i64_in _ (by omega)
  have B5 := Lib.hid (Box.alloc (Box.alloc (Box.new w #[.slice (some ⟨bP, 0, none⟩) np np, .slice (some ⟨bV, 0, none⟩) nv nv] 31 rfl) (.cells #[.slice none 0 0, .slice none 0 0] 31)) (.cells #[.int .i64 0, .int .u32 0, .int .u32 0] 45))
  have R10 := Lib.hid (Box.alloc (Box.new (w.alloc (.cells #[.slice (some ⟨bP, 0, none⟩) np np, .slice (some ⟨bV, 0, none⟩) nv nv] 31)) #[.slice none 0 0, .slice none 0 0] 31 (n := w.heap.size + 1) (by simp)) (.cells #[.int .i64 0, .int .u32 0, .int .u32 0] 45))
  have R11 := Lib.hid (Box.new ((w.alloc (.cells #[.slice (some ⟨bP, 0, none⟩) np np, .slice (some ⟨bV, 0, none⟩) nv nv] 31)).alloc (.cells #[.slice none 0 0, .slice none 0 0] 31)) #[.int .i64 0, .int .u32 0, .int .u32 0] 45 (n := w.heap.size + 1 + 1) (by simp))
  have BB := Lib.hid (b3 w (.cells #[.slice (some ⟨bP, 0, none⟩) np np, .slice (some ⟨bV, 0, none⟩) nv nv] 31) (.cells #[.slice none 0 0, .slice none 0 0] 31) (.cells #[.int .i64 0, .int .u32 0, .int .u32 0] 45))
  have MM := Lib.hid (h.below (b3 w (.cells #[.slice (some ⟨bP, 0, none⟩) np np, .slice (some ⟨bV, 0, none⟩) nv nv] 31) (.cells #[.slice none 0 0, .slice none 0 0] 31) (.cells #[.int .i64 0, .int .u32 0, .int .u32 0] 45)))
  have hB := h.le
  clear h hp hv hx hq hi e1 e2 hvo
  go_enter Try.func39, Try.ntmps39
  go_wp2_with fail
  generalize ((w.alloc (.cells #[.slice (some ⟨bP, 0, none⟩) np np, .slice (some ⟨bV, 0, none⟩) nv nv] 31)).alloc (.cells #[.slice none 0 0, .slice none 0 0] 31)).alloc (.cells #[.int .i64 0, .int .u32 0, .int .u32 0] 45) = W0 at *
  obtain ⟨b11, hb11⟩ : ∃ br, w.heap.size + 1 + 1 = br := ⟨_, rfl⟩
  obtain ⟨b10, hb10⟩ : ∃ br, w.heap.size + 1 = br := ⟨_, rfl⟩
  obtain ⟨b5, hb5⟩ : ∃ bp, w.heap.size = bp := ⟨_, rfl⟩
  have hbq := hb5
  rw [hb11] at R11 ⊢
  rw [hb10] at R10 hb11 ⊢
  rw [hb5] at B5 hb10 ⊢
  go_cut [12, 13] (fun s12 s13 wx => ∃ b12 b13, s12 = .pointer (some ⟨b12, 0, none⟩) ∧ s13 = .pointer (some ⟨b13, 0, none⟩) ∧ b12 ≠ b13 ∧ b5 < b12 ∧ b10 < b13 ∧ b11 < b13 ∧ b10 < b12 ∧ b11 < b12 ∧ B ≤ b13 ∧ B ≤ b12 ∧ b5 < b13 ∧ Box wx b12 #[.slice ha hn hn] 65 ∧ Box wx b13 #[.map vp] 60 ∧ Box wx b5 #[.slice (some ⟨bP, 0, none⟩) np np, .slice (some ⟨bV, 0, none⟩) nv nv] 31 ∧ Box wx b10 #[.slice none 0 0, .slice none 0 0] 31 ∧ Box wx b11 #[.int .i64 0, .int .u32 0, .int .u32 0] 45 ∧ MO B bP bV P V wx ∧ Below w.heap.size w wx)
  case first =>
    have B5' := Lib.hid (B5.out.below ((Below.refl _ _).drew))
    have R10' := Lib.hid (R10.out.below ((Below.refl _ _).drew))
    have R11' := Lib.hid (R11.out.below ((Below.refl _ _).drew))
    have MM' := Lib.hid (MM.out.below ((Below.refl _ _).drew))
    have BB' := Lib.hid (BB.out.trans (((Below.refl _ _).drew).mono BB.out.size))
    clear B5
    have B5 := B5'
    clear B5'
    clear R10
    have R10 := R10'
    clear R10'
    clear R11
    have R11 := R11'
    clear R11'
    clear MM
    have MM := MM'
    clear MM'
    clear BB
    have BB := BB'
    clear BB'
    refine wp_region_held_drew (S := fun w' => w'.cell? ⟨b5, 0, none⟩ = some (.slice (some ⟨bP, 0, none⟩) np np) ∧ w'.cell? ⟨b5, 1, none⟩ = some (.slice (some ⟨bV, 0, none⟩) nv nv) ∧ w'.cell? ⟨bP, p, none⟩ = some (.slice ha hn hn) ∧ w'.cell? ⟨bV, k, none⟩ = some (.map vp)) (by kernel_rfl) ⟨B5.out.cells2.1.1, B5.out.cells2.1.2, MM.out.cellP HP.out, MM.out.cellV HV.out⟩ (fun hHeld => ?_)
    generalize World.drew W0 = V0 at *
    refine wpAnyH_take (i := 0) (oi := { dst := some 17, op := Op.fieldAddr 31 (Operand.tmp 5) 0, type := 0, pos := "memory.go:121", after := #[], guard := none }) (v := ?d1_1xv0) rfl (by kernel_rfl) (by kernel_rfl) (by kernel_rfl) (fun _ _ _ h => h) (Or.inl ⟨by rfl, ?d1_1xy0⟩) (by assumption) ?d1_1xr0
    case d1_1xy0 => (intro w hSw; (try dsimp only at hSw); go_simp; try with_reducible rfl)
    (try simp only [Act.put])
    (try simp only [List.setIfInBounds_toArray])
    (try simp only [List.set_cons_succ])
    (try simp only [List.set_cons_zero])
    refine wpAnyH_take (i := 1) (oi := { dst := some 18, op := Op.load 28 (Operand.tmp 17), type := 28, pos := "memory.go:121", after := #[{ on := 0, ground := Ground.data }], guard := none }) (v := ?d1_2xv1) rfl (by kernel_rfl) (by kernel_rfl) (by kernel_rfl) (fun _ _ _ h => h) (Or.inl ⟨by rfl, ?d1_2xy1⟩) (by assumption) ?d1_2xr1
    case d1_2xy1 => (intro w hSw; (try dsimp only at hSw); go_simp; try with_reducible rfl)
    (try simp only [Act.put])
    (try simp only [List.setIfInBounds_toArray])
    (try simp only [List.set_cons_succ])
    (try simp only [List.set_cons_zero])
    refine wpAnyH_take (i := 2) (oi := { dst := some 19, op := Op.move (Operand.tmp 2), type := 42, pos := "memory.go:121", after := #[], guard := none }) (v := ?d1_3xv2) rfl (by kernel_rfl) (by kernel_rfl) (by kernel_rfl) (fun _ _ _ h => h) (Or.inl ⟨by rfl, ?d1_3xy2⟩) (by assumption) ?d1_3xr2
    case d1_3xy2 => (intro w hSw; (try dsimp only at hSw); go_simp; try with_reducible rfl)
    (try simp only [Act.put])
    (try simp only [List.setIfInBounds_toArray])
    (try simp only [List.set_cons_succ])
    (try simp only [List.set_cons_zero])
    refine wpAnyH_take (i := 3) (oi := { dst := some 20, op := Op.indexAddr 28 (Operand.tmp 18) (Operand.tmp 19), type := 0, pos := "memory.go:121", after := #[{ on := 1, ground := Ground.data }, { on := 2, ground := Ground.data }], guard := none }) (v := ?d1_4xv3) rfl (by kernel_rfl) (by kernel_rfl) (by kernel_rfl) (fun _ _ _ h => h) (Or.inl ⟨by rfl, ?d1_4xy3⟩) (by assumption) ?d1_4xr3
    case d1_4xy3 => (intro w hSw; (try dsimp only at hSw); go_simp; try with_reducible rfl)
    (try simp only [Act.put])
    (try simp only [List.setIfInBounds_toArray])
    (try simp only [List.set_cons_succ])
    (try simp only [List.set_cons_zero])
    refine wpAnyH_take (i := 4) (oi := { dst := some 21, op := Op.load 65 (Operand.tmp 20), type := 65, pos := "memory.go:121", after := #[{ on := 3, ground := Ground.data }], guard := none }) (v := ?d1_5xv4) rfl (by kernel_rfl) (by kernel_rfl) (by kernel_rfl) (fun _ _ _ h => h) (Or.inl ⟨by rfl, ?d1_5xy4⟩) (by assumption) ?d1_5xr4
    case d1_5xy4 => (intro w hSw; (try dsimp only at hSw); go_simp; try with_reducible rfl)
    (try simp only [Act.put])
    (try simp only [List.setIfInBounds_toArray])
    (try simp only [List.set_cons_succ])
    (try simp only [List.set_cons_zero])
    refine wpAnyH_take (i := 5) (oi := { dst := some 22, op := Op.fieldAddr 31 (Operand.tmp 5) 1, type := 0, pos := "memory.go:121", after := #[{ on := 13, ground := Ground.gcOnly Departure.lateStores }], guard := none }) (v := ?d1_6xv5) rfl (by kernel_rfl) (by kernel_rfl) (by kernel_rfl) (fun _ _ _ h => h) (Or.inl ⟨by rfl, ?d1_6xy5⟩) (by assumption) ?d1_6xr5
    case d1_6xy5 => (intro w hSw; (try dsimp only at hSw); go_simp; try with_reducible rfl)
    (try simp only [Act.put])
    (try simp only [List.setIfInBounds_toArray])
    (try simp only [List.set_cons_succ])
    (try simp only [List.set_cons_zero])
    refine wpAnyH_take (i := 6) (oi := { dst := some 23, op := Op.load 29 (Operand.tmp 22), type := 29, pos := "memory.go:121", after := #[{ on := 5, ground := Ground.data }, { on := 13, ground := Ground.gcOnly Departure.lateStores }], guard := none }) (v := ?d1_7xv6) rfl (by kernel_rfl) (by kernel_rfl) (by kernel_rfl) (fun _ _ _ h => h) (Or.inl ⟨by rfl, ?d1_7xy6⟩) (by assumption) ?d1_7xr6
    case d1_7xy6 => (intro w hSw; (try dsimp only at hSw); go_simp; try with_reducible rfl)
    (try simp only [Act.put])
    (try simp only [List.setIfInBounds_toArray])
    (try simp only [List.set_cons_succ])
    (try simp only [List.set_cons_zero])
    refine wpAnyH_take (i := 7) (oi := { dst := some 24, op := Op.move (Operand.tmp 1), type := 3, pos := "memory.go:121", after := #[{ on := 13, ground := Ground.gcOnly Departure.lateStores }], guard := none }) (v := ?d1_8xv7) rfl (by kernel_rfl) (by kernel_rfl) (by kernel_rfl) (fun _ _ _ h => h) (Or.inl ⟨by rfl, ?d1_8xy7⟩) (by assumption) ?d1_8xr7
    case d1_8xy7 => (intro w hSw; (try dsimp only at hSw); go_simp; try with_reducible rfl)
    (try simp only [Act.put])
    (try simp only [List.setIfInBounds_toArray])
    (try simp only [List.set_cons_succ])
    (try simp only [List.set_cons_zero])
    refine wpAnyH_take (i := 8) (oi := { dst := some 25, op := Op.binOp BinOp.sub 3 (Operand.tmp 24) (Operand.const (Value.int IntKind.i64 1)) 3, type := 3, pos := "memory.go:121", after := #[{ on := 7, ground := Ground.data }, { on := 13, ground := Ground.gcOnly Departure.lateStores }], guard := none }) (v := ?d1_9xv8) rfl (by kernel_rfl) (by kernel_rfl) (by kernel_rfl) (fun _ _ _ h => h) (Or.inl ⟨by rfl, ?d1_9xy8⟩) (by assumption) ?d1_9xr8
    case d1_9xy8 => (intro w hSw; (try dsimp only at hSw); go_simp; try with_reducible rfl)
    (try simp only [Act.put])
    (try simp only [List.setIfInBounds_toArray])
    (try simp only [List.set_cons_succ])
    (try simp only [List.set_cons_zero])
    refine wpAnyH_take (i := 9) (oi := { dst := some 26, op := Op.indexAddr 29 (Operand.tmp 23) (Operand.tmp 25), type := 0, pos := "memory.go:121", after := #[{ on := 6, ground := Ground.data }, { on := 8, ground := Ground.data }, { on := 13, ground := Ground.gcOnly Departure.lateStores }], guard := none }) (v := ?d1_10xv9) rfl (by kernel_rfl) (by kernel_rfl) (by kernel_rfl) (fun _ _ _ h => h) (Or.inl ⟨by rfl, ?d1_10xy9⟩) (by assumption) ?d1_10xr9
    case d1_10xy9 => (intro w hSw; (try dsimp only at hSw); go_simp; try with_reducible rfl)
    (try simp only [Act.put])
    (try simp only [List.setIfInBounds_toArray])
    (try simp only [List.set_cons_succ])
    (try simp only [List.set_cons_zero])
    refine wpAnyH_take (i := 10) (oi := { dst := some 27, op := Op.load 60 (Operand.tmp 26), type := 60, pos := "memory.go:121", after := #[{ on := 9, ground := Ground.data }, { on := 13, ground := Ground.gcOnly Departure.lateStores }], guard := none }) (v := ?d1_11xv10) rfl (by kernel_rfl) (by kernel_rfl) (by kernel_rfl) (fun _ _ _ h => h) (Or.inl ⟨by rfl, ?d1_11xy10⟩) (by assumption) ?d1_11xr10
    case d1_11xy10 => (intro w hSw; (try dsimp only at hSw); go_simp; try with_reducible rfl)
    (try simp only [Act.put])
    (try simp only [List.setIfInBounds_toArray])
    (try simp only [List.set_cons_succ])
    (try simp only [List.set_cons_zero])
    refine wpAnyH_ready (rs := [11, 12]) (by kernel_rfl) (by simp) ?_
    refine AllReadyH.cons (o := { dst := some 12, op := Op.alloc 65, type := 0, pos := "memory.go:121", after := #[], guard := none }) rfl (fun K hK => ?_) ?_
    · skip
      go_simp
      have hlt_b12 := BB.out.size
      have hlt_b12_B5 := B5.out.lt
      have hlt_b12_R10 := R10.out.lt
      have hlt_b12_R11 := R11.out.lt
      have B5' := Lib.hid (B5.out.below (below_new V0 (.cells #[.slice none 0 0] 65)))
      have R10' := Lib.hid (R10.out.below (below_new V0 (.cells #[.slice none 0 0] 65)))
      have R11' := Lib.hid (R11.out.below (below_new V0 (.cells #[.slice none 0 0] 65)))
      have MM' := Lib.hid (MM.out.below (below_new V0 (.cells #[.slice none 0 0] 65)))
      have BB' := Lib.hid (BB.out.trans ((below_new V0 (.cells #[.slice none 0 0] 65)).mono BB.out.size))
      clear B5
      have B5 := B5'
      clear B5'
      clear R10
      have R10 := R10'
      clear R10'
      clear R11
      have R11 := R11'
      clear R11'
      clear MM
      have MM := MM'
      clear MM'
      clear BB
      have BB := BB'
      clear BB'
      have B12 := Lib.hid (Box.new V0 #[.slice none 0 0] 65 rfl)
      generalize World.alloc V0 (.cells #[.slice none 0 0] 65) = v1 at *
      generalize World.heap V0 = hp_b12 at *
      generalize hp_b12.size = b12 at *
      refine hK.out _ _ ?_ (fun hHeld => ?_)
      · exact ⟨B5.out.cells2.1.1, B5.out.cells2.1.2, MM.out.cellP HP.out, MM.out.cellV HV.out⟩
      clear hK K
      (try simp only [Act.put])
      (try simp only [List.setIfInBounds_toArray])
      (try simp only [List.set_cons_succ])
      (try simp only [List.set_cons_zero])
      refine wpAnyH_ready (rs := [12]) (by kernel_rfl) (by simp) ?_
      refine AllReadyH.cons (o := { dst := some 13, op := Op.alloc 60, type := 0, pos := "memory.go:121", after := #[], guard := none }) rfl (fun K hK => ?_) AllReadyH.nil
      go_simp
      have hlt_b13 := BB.out.size
      have hlt_b13_B5 := B5.out.lt
      have hlt_b13_R10 := R10.out.lt
      have hlt_b13_R11 := R11.out.lt
      have hlt_b13_B12 := B12.out.lt
      have B5' := Lib.hid (B5.out.below (below_new v1 (.cells #[.map none] 60)))
      have R10' := Lib.hid (R10.out.below (below_new v1 (.cells #[.map none] 60)))
      have R11' := Lib.hid (R11.out.below (below_new v1 (.cells #[.map none] 60)))
      have MM' := Lib.hid (MM.out.below (below_new v1 (.cells #[.map none] 60)))
      have B12' := Lib.hid (B12.out.below (below_new v1 (.cells #[.map none] 60)))
      have BB' := Lib.hid (BB.out.trans ((below_new v1 (.cells #[.map none] 60)).mono BB.out.size))
      clear B5
      have B5 := B5'
      clear B5'
      clear R10
      have R10 := R10'
      clear R10'
      clear R11
      have R11 := R11'
      clear R11'
      clear MM
      have MM := MM'
      clear MM'
      clear B12
      have B12 := B12'
      clear B12'
      clear BB
      have BB := BB'
      clear BB'
      have B13 := Lib.hid (Box.new v1 #[.map none] 60 rfl)
      generalize World.alloc v1 (.cells #[.map none] 60) = v2 at *
      generalize World.heap v1 = hp_b13 at *
      generalize hp_b13.size = b13 at *
      refine hK.out _ _ ?_ (fun hHeld => ?_)
      · exact ⟨B5.out.cells2.1.1, B5.out.cells2.1.2, MM.out.cellP HP.out, MM.out.cellV HV.out⟩
      clear hK K
      (try simp only [Act.put])
      (try simp only [List.setIfInBounds_toArray])
      (try simp only [List.set_cons_succ])
      (try simp only [List.set_cons_zero])
      refine wpAnyH_ready (rs := [13]) (by kernel_rfl) (by simp) ?_
      refine AllReadyH.cons (o := { dst := none, op := Op.store 65 (Operand.tmp 12) (Operand.tmp 21), type := 0, pos := "memory.go:121", after := #[{ on := 11, ground := Ground.data }, { on := 4, ground := Ground.data }, { on := 0, ground := Ground.phase }, { on := 1, ground := Ground.phase }, { on := 2, ground := Ground.phase }, { on := 3, ground := Ground.phase }, { on := 4, ground := Ground.phase }, { on := 5, ground := Ground.textOnly Departure.lateStores }, { on := 6, ground := Ground.textOnly Departure.lateStores }, { on := 7, ground := Ground.textOnly Departure.lateStores }, { on := 8, ground := Ground.textOnly Departure.lateStores }, { on := 9, ground := Ground.textOnly Departure.lateStores }, { on := 10, ground := Ground.textOnly Departure.lateStores }, { on := 11, ground := Ground.phase }, { on := 12, ground := Ground.phase }], guard := none }) rfl (fun K hK => ?_) AllReadyH.nil
      obtain ⟨m0, g0⟩ := B12.out.cells1
      go_simp
      clear m0 g0
      have B5' := Lib.hid (B5.out.only (by omega) ((Only.refl b12 v2).set 0 (.slice ha hn hn)))
      have R10' := Lib.hid (R10.out.only (by omega) ((Only.refl b12 v2).set 0 (.slice ha hn hn)))
      have R11' := Lib.hid (R11.out.only (by omega) ((Only.refl b12 v2).set 0 (.slice ha hn hn)))
      have MM' := Lib.hid (MM.out.only B12.out (by omega) ((Only.refl b12 v2).set 0 (.slice ha hn hn)))
      have B12' := Lib.hid ((B12.out).set 0 (.slice ha hn hn))
      have B13' := Lib.hid (B13.out.only (by omega) ((Only.refl b12 v2).set 0 (.slice ha hn hn)))
      have BB' := Lib.hid ((BB.out).put b12 (by omega) 0 (.slice ha hn hn))
      clear B5
      have B5 := B5'
      clear B5'
      clear R10
      have R10 := R10'
      clear R10'
      clear R11
      have R11 := R11'
      clear R11'
      clear MM
      have MM := MM'
      clear MM'
      clear B12
      have B12 := B12'
      clear B12'
      clear B13
      have B13 := B13'
      clear B13'
      clear BB
      have BB := BB'
      clear BB'
      generalize (World.setCell v2 ⟨b12, 0, none⟩ (.slice ha hn hn)) = v3 at *
      refine hK.out _ _ ?_ (fun hHeld => ?_)
      · exact ⟨B5.out.cells2.1.1, B5.out.cells2.1.2, MM.out.cellP HP.out, MM.out.cellV HV.out⟩
      clear hK K
      (try simp only [Act.put])
      (try simp only [List.setIfInBounds_toArray])
      (try simp only [List.set_cons_succ])
      (try simp only [List.set_cons_zero])
      refine wpAnyH_ready (rs := [14]) (by kernel_rfl) (by simp) ?_
      refine AllReadyH.cons (o := { dst := none, op := Op.store 60 (Operand.tmp 13) (Operand.tmp 27), type := 0, pos := "memory.go:121", after := #[{ on := 12, ground := Ground.data }, { on := 10, ground := Ground.data }, { on := 13, ground := Ground.chain }, { on := 0, ground := Ground.phase }, { on := 1, ground := Ground.phase }, { on := 2, ground := Ground.phase }, { on := 3, ground := Ground.phase }, { on := 4, ground := Ground.phase }, { on := 5, ground := Ground.phase }, { on := 6, ground := Ground.phase }, { on := 7, ground := Ground.phase }, { on := 8, ground := Ground.phase }, { on := 9, ground := Ground.phase }, { on := 10, ground := Ground.phase }, { on := 11, ground := Ground.phase }, { on := 12, ground := Ground.phase }, { on := 13, ground := Ground.phase }], guard := none }) rfl (fun K hK => ?_) AllReadyH.nil
      obtain ⟨m0, g0⟩ := B13.out.cells1
      go_simp
      clear m0 g0
      have B5' := Lib.hid (B5.out.only (by omega) ((Only.refl b13 v3).set 0 (.map vp)))
      have R10' := Lib.hid (R10.out.only (by omega) ((Only.refl b13 v3).set 0 (.map vp)))
      have R11' := Lib.hid (R11.out.only (by omega) ((Only.refl b13 v3).set 0 (.map vp)))
      have MM' := Lib.hid (MM.out.only B13.out (by omega) ((Only.refl b13 v3).set 0 (.map vp)))
      have B12' := Lib.hid (B12.out.only (by omega) ((Only.refl b13 v3).set 0 (.map vp)))
      have B13' := Lib.hid ((B13.out).set 0 (.map vp))
      have BB' := Lib.hid ((BB.out).put b13 (by omega) 0 (.map vp))
      clear B5
      have B5 := B5'
      clear B5'
      clear R10
      have R10 := R10'
      clear R10'
      clear R11
      have R11 := R11'
      clear R11'
      clear MM
      have MM := MM'
      clear MM'
      clear B12
      have B12 := B12'
      clear B12'
      clear B13
      have B13 := B13'
      clear B13'
      clear BB
      have BB := BB'
      clear BB'
      generalize (World.setCell v3 ⟨b13, 0, none⟩ (.map vp)) = v4 at *
      refine hK.out _ _ ?_ (fun hHeld => ?_)
      · exact ⟨B5.out.cells2.1.1, B5.out.cells2.1.2, MM.out.cellP HP.out, MM.out.cellV HV.out⟩
      clear hK K
      (try simp only [Act.put])
      (try simp only [List.setIfInBounds_toArray])
      (try simp only [List.set_cons_succ])
      (try simp only [List.set_cons_zero])
      refine wpAnyH_done (by kernel_rfl) ?_ _
      go_wp2
      go_meet
      case rel => exact ⟨b12, b13, rfl, rfl, by omega, by omega, by omega, by omega, by omega, by omega, by omega, by omega, by omega, B12.out, B13.out, B5.out, R10.out, R11.out, MM.out, BB.out⟩
    refine AllReadyH.cons (o := { dst := some 13, op := Op.alloc 60, type := 0, pos := "memory.go:121", after := #[], guard := none }) rfl (fun K hK => ?_) AllReadyH.nil
    go_simp
    have hlt_b13 := BB.out.size
    have hlt_b13_B5 := B5.out.lt
    have hlt_b13_R10 := R10.out.lt
    have hlt_b13_R11 := R11.out.lt
    have B5' := Lib.hid (B5.out.below (below_new V0 (.cells #[.map none] 60)))
    have R10' := Lib.hid (R10.out.below (below_new V0 (.cells #[.map none] 60)))
    have R11' := Lib.hid (R11.out.below (below_new V0 (.cells #[.map none] 60)))
    have MM' := Lib.hid (MM.out.below (below_new V0 (.cells #[.map none] 60)))
    have BB' := Lib.hid (BB.out.trans ((below_new V0 (.cells #[.map none] 60)).mono BB.out.size))
    clear B5
    have B5 := B5'
    clear B5'
    clear R10
    have R10 := R10'
    clear R10'
    clear R11
    have R11 := R11'
    clear R11'
    clear MM
    have MM := MM'
    clear MM'
    clear BB
    have BB := BB'
    clear BB'
    have B13 := Lib.hid (Box.new V0 #[.map none] 60 rfl)
    generalize World.alloc V0 (.cells #[.map none] 60) = v5 at *
    generalize World.heap V0 = hp_b13 at *
    generalize hp_b13.size = b13 at *
    refine hK.out _ _ ?_ (fun hHeld => ?_)
    · exact ⟨B5.out.cells2.1.1, B5.out.cells2.1.2, MM.out.cellP HP.out, MM.out.cellV HV.out⟩
    clear hK K
    (try simp only [Act.put])
    (try simp only [List.setIfInBounds_toArray])
    (try simp only [List.set_cons_succ])
    (try simp only [List.set_cons_zero])
    refine wpAnyH_ready (rs := [11]) (by kernel_rfl) (by simp) ?_
    refine AllReadyH.cons (o := { dst := some 12, op := Op.alloc 65, type := 0, pos := "memory.go:121", after := #[], guard := none }) rfl (fun K hK => ?_) AllReadyH.nil
    go_simp
    have hlt_b12 := BB.out.size
    have hlt_b12_B5 := B5.out.lt
    have hlt_b12_R10 := R10.out.lt
    have hlt_b12_R11 := R11.out.lt
    have hlt_b12_B13 := B13.out.lt
    have B5' := Lib.hid (B5.out.below (below_new v5 (.cells #[.slice none 0 0] 65)))
    have R10' := Lib.hid (R10.out.below (below_new v5 (.cells #[.slice none 0 0] 65)))
    have R11' := Lib.hid (R11.out.below (below_new v5 (.cells #[.slice none 0 0] 65)))
    have MM' := Lib.hid (MM.out.below (below_new v5 (.cells #[.slice none 0 0] 65)))
    have B13' := Lib.hid (B13.out.below (below_new v5 (.cells #[.slice none 0 0] 65)))
    have BB' := Lib.hid (BB.out.trans ((below_new v5 (.cells #[.slice none 0 0] 65)).mono BB.out.size))
    clear B5
    have B5 := B5'
    clear B5'
    clear R10
    have R10 := R10'
    clear R10'
    clear R11
    have R11 := R11'
    clear R11'
    clear MM
    have MM := MM'
    clear MM'
    clear B13
    have B13 := B13'
    clear B13'
    clear BB
    have BB := BB'
    clear BB'
    have B12 := Lib.hid (Box.new v5 #[.slice none 0 0] 65 rfl)
    generalize World.alloc v5 (.cells #[.slice none 0 0] 65) = v6 at *
    generalize World.heap v5 = hp_b12 at *
    generalize hp_b12.size = b12 at *
    refine hK.out _ _ ?_ (fun hHeld => ?_)
    · exact ⟨B5.out.cells2.1.1, B5.out.cells2.1.2, MM.out.cellP HP.out, MM.out.cellV HV.out⟩
    clear hK K
    (try simp only [Act.put])
    (try simp only [List.setIfInBounds_toArray])
    (try simp only [List.set_cons_succ])
    (try simp only [List.set_cons_zero])
    refine wpAnyH_ready (rs := [13]) (by kernel_rfl) (by simp) ?_
    refine AllReadyH.cons (o := { dst := none, op := Op.store 65 (Operand.tmp 12) (Operand.tmp 21), type := 0, pos := "memory.go:121", after := #[{ on := 11, ground := Ground.data }, { on := 4, ground := Ground.data }, { on := 0, ground := Ground.phase }, { on := 1, ground := Ground.phase }, { on := 2, ground := Ground.phase }, { on := 3, ground := Ground.phase }, { on := 4, ground := Ground.phase }, { on := 5, ground := Ground.textOnly Departure.lateStores }, { on := 6, ground := Ground.textOnly Departure.lateStores }, { on := 7, ground := Ground.textOnly Departure.lateStores }, { on := 8, ground := Ground.textOnly Departure.lateStores }, { on := 9, ground := Ground.textOnly Departure.lateStores }, { on := 10, ground := Ground.textOnly Departure.lateStores }, { on := 11, ground := Ground.phase }, { on := 12, ground := Ground.phase }], guard := none }) rfl (fun K hK => ?_) AllReadyH.nil
    obtain ⟨m0, g0⟩ := B12.out.cells1
    go_simp
    clear m0 g0
    have B5' := Lib.hid (B5.out.only (by omega) ((Only.refl b12 v6).set 0 (.slice ha hn hn)))
    have R10' := Lib.hid (R10.out.only (by omega) ((Only.refl b12 v6).set 0 (.slice ha hn hn)))
    have R11' := Lib.hid (R11.out.only (by omega) ((Only.refl b12 v6).set 0 (.slice ha hn hn)))
    have MM' := Lib.hid (MM.out.only B12.out (by omega) ((Only.refl b12 v6).set 0 (.slice ha hn hn)))
    have B13' := Lib.hid (B13.out.only (by omega) ((Only.refl b12 v6).set 0 (.slice ha hn hn)))
    have B12' := Lib.hid ((B12.out).set 0 (.slice ha hn hn))
    have BB' := Lib.hid ((BB.out).put b12 (by omega) 0 (.slice ha hn hn))
    clear B5
    have B5 := B5'
    clear B5'
    clear R10
    have R10 := R10'
    clear R10'
    clear R11
    have R11 := R11'
    clear R11'
    clear MM
    have MM := MM'
    clear MM'
    clear B13
    have B13 := B13'
    clear B13'
    clear B12
    have B12 := B12'
    clear B12'
    clear BB
    have BB := BB'
    clear BB'
    generalize (World.setCell v6 ⟨b12, 0, none⟩ (.slice ha hn hn)) = v7 at *
    refine hK.out _ _ ?_ (fun hHeld => ?_)
    · exact ⟨B5.out.cells2.1.1, B5.out.cells2.1.2, MM.out.cellP HP.out, MM.out.cellV HV.out⟩
    clear hK K
    (try simp only [Act.put])
    (try simp only [List.setIfInBounds_toArray])
    (try simp only [List.set_cons_succ])
    (try simp only [List.set_cons_zero])
    refine wpAnyH_ready (rs := [14]) (by kernel_rfl) (by simp) ?_
    refine AllReadyH.cons (o := { dst := none, op := Op.store 60 (Operand.tmp 13) (Operand.tmp 27), type := 0, pos := "memory.go:121", after := #[{ on := 12, ground := Ground.data }, { on := 10, ground := Ground.data }, { on := 13, ground := Ground.chain }, { on := 0, ground := Ground.phase }, { on := 1, ground := Ground.phase }, { on := 2, ground := Ground.phase }, { on := 3, ground := Ground.phase }, { on := 4, ground := Ground.phase }, { on := 5, ground := Ground.phase }, { on := 6, ground := Ground.phase }, { on := 7, ground := Ground.phase }, { on := 8, ground := Ground.phase }, { on := 9, ground := Ground.phase }, { on := 10, ground := Ground.phase }, { on := 11, ground := Ground.phase }, { on := 12, ground := Ground.phase }, { on := 13, ground := Ground.phase }], guard := none }) rfl (fun K hK => ?_) AllReadyH.nil
    obtain ⟨m0, g0⟩ := B13.out.cells1
    go_simp
    clear m0 g0
    have B5' := Lib.hid (B5.out.only (by omega) ((Only.refl b13 v7).set 0 (.map vp)))
    have R10' := Lib.hid (R10.out.only (by omega) ((Only.refl b13 v7).set 0 (.map vp)))
    have R11' := Lib.hid (R11.out.only (by omega) ((Only.refl b13 v7).set 0 (.map vp)))
    have MM' := Lib.hid (MM.out.only B13.out (by omega) ((Only.refl b13 v7).set 0 (.map vp)))
    have B13' := Lib.hid ((B13.out).set 0 (.map vp))
    have B12' := Lib.hid (B12.out.only (by omega) ((Only.refl b13 v7).set 0 (.map vp)))
    have BB' := Lib.hid ((BB.out).put b13 (by omega) 0 (.map vp))
    clear B5
    have B5 := B5'
    clear B5'
    clear R10
    have R10 := R10'
    clear R10'
    clear R11
    have R11 := R11'
    clear R11'
    clear MM
    have MM := MM'
    clear MM'
    clear B13
    have B13 := B13'
    clear B13'
    clear B12
    have B12 := B12'
    clear B12'
    clear BB
    have BB := BB'
    clear BB'
    generalize (World.setCell v7 ⟨b13, 0, none⟩ (.map vp)) = v8 at *
    refine hK.out _ _ ?_ (fun hHeld => ?_)
    · exact ⟨B5.out.cells2.1.1, B5.out.cells2.1.2, MM.out.cellP HP.out, MM.out.cellV HV.out⟩
    clear hK K
    (try simp only [Act.put])
    (try simp only [List.setIfInBounds_toArray])
    (try simp only [List.set_cons_succ])
    (try simp only [List.set_cons_zero])
    refine wpAnyH_done (by kernel_rfl) ?_ _
    go_wp2
    go_meet
    case rel => exact ⟨b12, b13, rfl, rfl, by omega, by omega, by omega, by omega, by omega, by omega, by omega, by omega, by omega, B12.out, B13.out, B5.out, R10.out, R11.out, MM.out, BB.out⟩
  case rest =>
    obtain ⟨b12, b13, rfl, rfl, n1, n2, n3, n4, n5, n6, n7, n8, n9, B12', B13', B5', R10', R11', MM', BB'⟩ := hcut
    clear B5 R10 R11 MM BB
    have B12 := Lib.hid B12'
    clear B12'
    have B13 := Lib.hid B13'
    clear B13'
    have B5 := Lib.hid B5'
    clear B5'
    have R10 := Lib.hid R10'
    clear R10'
    have R11 := Lib.hid R11'
    clear R11'
    have MM := Lib.hid MM'
    clear MM'
    have BB := Lib.hid BB'
    clear BB'
    go_upto_region 2 with fail
    have B12' := Lib.hid (B12.out.below ((Below.refl _ _).drew))
    have B13' := Lib.hid (B13.out.below ((Below.refl _ _).drew))
    have B5' := Lib.hid (B5.out.below ((Below.refl _ _).drew))
    have R10' := Lib.hid (R10.out.below ((Below.refl _ _).drew))
    have R11' := Lib.hid (R11.out.below ((Below.refl _ _).drew))
    have MM' := Lib.hid (MM.out.below ((Below.refl _ _).drew))
    have BB' := Lib.hid (BB.out.trans (((Below.refl _ _).drew).mono BB.out.size))
    clear B12
    have B12 := B12'
    clear B12'
    clear B13
    have B13 := B13'
    clear B13'
    clear B5
    have B5 := B5'
    clear B5'
    clear R10
    have R10 := R10'
    clear R10'
    clear R11
    have R11 := R11'
    clear R11'
    clear MM
    have MM := MM'
    clear MM'
    clear BB
    have BB := BB'
    clear BB'
    refine wp_region_held_drew (S := fun w' => w'.cell? ⟨b12, 0, none⟩ = some (.slice ha hn hn) ∧ w'.cell? ⟨b13, 0, none⟩ = some (.map vp)) (by kernel_rfl) ⟨B12.out.cells1.1, B13.out.cells1.1⟩ (fun hHeld => ?_)
    generalize World.drew wc = V9 at *
    refine wpAnyH_take (i := 0) (oi := { dst := some 28, op := Op.move (Operand.tmp 3), type := 108, pos := "memory.go:122", after := #[], guard := none }) (v := ?d10_1xv0) rfl (by kernel_rfl) (by kernel_rfl) (by kernel_rfl) (fun _ _ _ h => h) (Or.inl ⟨by rfl, ?d10_1xy0⟩) (by assumption) ?d10_1xr0
    case d10_1xy0 => (intro w hSw; (try dsimp only at hSw); go_simp; try with_reducible rfl)
    (try simp only [Act.put])
    (try simp only [List.setIfInBounds_toArray])
    (try simp only [List.set_cons_succ])
    (try simp only [List.set_cons_zero])
    refine wpAnyH_take (i := 1) (oi := { dst := some 29, op := Op.load 65 (Operand.tmp 12), type := 65, pos := "memory.go:122", after := #[], guard := none }) (v := ?d10_2xv1) rfl (by kernel_rfl) (by kernel_rfl) (by kernel_rfl) (fun _ _ _ h => h) (Or.inl ⟨by rfl, ?d10_2xy1⟩) (by assumption) ?d10_2xr1
    case d10_2xy1 => (intro w hSw; (try dsimp only at hSw); go_simp; try with_reducible rfl)
    (try simp only [Act.put])
    (try simp only [List.setIfInBounds_toArray])
    (try simp only [List.set_cons_succ])
    (try simp only [List.set_cons_zero])
    refine wpAnyH_take (i := 2) (oi := { dst := some 30, op := Op.load 60 (Operand.tmp 13), type := 60, pos := "memory.go:122", after := #[], guard := none }) (v := ?d10_3xv2) rfl (by kernel_rfl) (by kernel_rfl) (by kernel_rfl) (fun _ _ _ h => h) (Or.inl ⟨by rfl, ?d10_3xy2⟩) (by assumption) ?d10_3xr2
    case d10_3xy2 => (intro w hSw; (try dsimp only at hSw); go_simp; try with_reducible rfl)
    (try simp only [Act.put])
    (try simp only [List.setIfInBounds_toArray])
    (try simp only [List.set_cons_succ])
    (try simp only [List.set_cons_zero])
    refine wpAnyH_take (i := 3) (oi := { dst := some 31, op := Op.move (Operand.tmp 2), type := 42, pos := "memory.go:122", after := #[], guard := none }) (v := ?d10_4xv3) rfl (by kernel_rfl) (by kernel_rfl) (by kernel_rfl) (fun _ _ _ h => h) (Or.inl ⟨by rfl, ?d10_4xy3⟩) (by assumption) ?d10_4xr3
    case d10_4xy3 => (intro w hSw; (try dsimp only at hSw); go_simp; try with_reducible rfl)
    (try simp only [Act.put])
    (try simp only [List.setIfInBounds_toArray])
    (try simp only [List.set_cons_succ])
    (try simp only [List.set_cons_zero])
    refine wpAnyH_ready (rs := [4]) (by kernel_rfl) (by simp) ?_
    refine AllReadyH.cons (o := { dst := some 32, op := Op.call { callee := Callee.value (Operand.func 19), args := #[Operand.tmp 30, Operand.tmp 31], argTypes := #[60, 42] }, type := 3, pos := "memory.go:122", after := #[{ on := 2, ground := Ground.data }, { on := 3, ground := Ground.data }], guard := none }) rfl (fun K hK => ?_) AllReadyH.nil
    go_simp
    go_at_call 19
    refine (at_b vp vm p _ (by omega) (by omega) (MM.out.atV HV.out)).mono ?_
    rintro e v10 ⟨rfl, hb⟩
    have B12' := Lib.hid (B12.out.below (hb))
    have B13' := Lib.hid (B13.out.below (hb))
    have B5' := Lib.hid (B5.out.below (hb))
    have R10' := Lib.hid (R10.out.below (hb))
    have R11' := Lib.hid (R11.out.below (hb))
    have MM' := Lib.hid (MM.out.below (hb))
    have BB' := Lib.hid (BB.out.trans ((hb).mono BB.out.size))
    clear B12
    have B12 := B12'
    clear B12'
    clear B13
    have B13 := B13'
    clear B13'
    clear B5
    have B5 := B5'
    clear B5'
    clear R10
    have R10 := R10'
    clear R10'
    clear R11
    have R11 := R11'
    clear R11'
    clear MM
    have MM := MM'
    clear MM'
    clear BB
    have BB := BB'
    clear BB'
    clear hb
    go_simp
    refine hK.out _ _ ?_ (fun hHeld => ?_)
    · exact ⟨B12.out.cells1.1, B13.out.cells1.1⟩
    clear hK K
    (try simp only [Act.put])
    (try simp only [List.setIfInBounds_toArray])
    (try simp only [List.set_cons_succ])
    (try simp only [List.set_cons_zero])
    refine wpAnyH_ready (rs := [5]) (by kernel_rfl) (by simp) ?_
    refine AllReadyH.cons (o := { dst := some 33, op := Op.call { callee := Callee.value (Operand.tmp 28), args := #[Operand.tmp 29, Operand.tmp 32], argTypes := #[65, 3] }, type := 3, pos := "memory.go:122", after := #[{ on := 0, ground := Ground.data }, { on := 1, ground := Ground.data }, { on := 4, ground := Ground.data }, { on := 4, ground := Ground.chain }], guard := none }) rfl (fun K hK => ?_) AllReadyH.nil
    go_simp
    go_at_call 41
    refine (chosen_any z ha hn hn (atL vm p) _ (by omega) (by omega) (by omega) z0 z1).mono ?_
    rintro e v11 ⟨rfl, hb⟩
    have B12' := Lib.hid (B12.out.below (hb))
    have B13' := Lib.hid (B13.out.below (hb))
    have B5' := Lib.hid (B5.out.below (hb))
    have R10' := Lib.hid (R10.out.below (hb))
    have R11' := Lib.hid (R11.out.below (hb))
    have MM' := Lib.hid (MM.out.below (hb))
    have BB' := Lib.hid (BB.out.trans ((hb).mono BB.out.size))
    clear B12
    have B12 := B12'
    clear B12'
    clear B13
    have B13 := B13'
    clear B13'
    clear B5
    have B5 := B5'
    clear B5'
    clear R10
    have R10 := R10'
    clear R10'
    clear R11
    have R11 := R11'
    clear R11'
    clear MM
    have MM := MM'
    clear MM'
    clear BB
    have BB := BB'
    clear BB'
    clear hb
    rw [← HI.out]
    go_simp
    refine hK.out _ _ ?_ (fun hHeld => ?_)
    · exact ⟨B12.out.cells1.1, B13.out.cells1.1⟩
    clear hK K
    (try simp only [Act.put])
    (try simp only [List.setIfInBounds_toArray])
    (try simp only [List.set_cons_succ])
    (try simp only [List.set_cons_zero])
    refine wpAnyH_ready (rs := [6]) (by kernel_rfl) (by simp) ?_
    refine AllReadyH.cons (o := { dst := some 14, op := Op.assign (Operand.tmp 33), type := 3, pos := "memory.go:122", after := #[{ on := 5, ground := Ground.data }, { on := 5, ground := Ground.chain }, { on := 0, ground := Ground.phase }, { on := 1, ground := Ground.phase }, { on := 2, ground := Ground.phase }, { on := 3, ground := Ground.phase }, { on := 4, ground := Ground.phase }, { on := 5, ground := Ground.phase }], guard := none }) rfl (fun K hK => ?_) AllReadyH.nil
    go_simp
    refine hK.out _ _ ?_ (fun hHeld => ?_)
    · exact ⟨B12.out.cells1.1, B13.out.cells1.1⟩
    clear hK K
    (try simp only [Act.put])
    (try simp only [List.setIfInBounds_toArray])
    (try simp only [List.set_cons_succ])
    (try simp only [List.set_cons_zero])
    refine wpAnyH_done (by kernel_rfl) ?_ _
    go_wp2_with fail
    refine (hat_in _ q i _ _ (MM.out.atP HP.out) HX.out (by rw [HQ.out]; omega)).mono ?_
    rintro e a0 ⟨rfl, hb⟩
    have B12' := Lib.hid (B12.out.below (hb))
    have B13' := Lib.hid (B13.out.below (hb))
    have B5' := Lib.hid (B5.out.below (hb))
    have R10' := Lib.hid (R10.out.below (hb))
    have R11' := Lib.hid (R11.out.below (hb))
    have MM' := Lib.hid (MM.out.below (hb))
    have BB' := Lib.hid (BB.out.trans ((hb).mono BB.out.size))
    clear B12
    have B12 := B12'
    clear B12'
    clear B13
    have B13 := B13'
    clear B13'
    clear B5
    have B5 := B5'
    clear B5'
    clear R10
    have R10 := R10'
    clear R10'
    clear R11
    have R11 := R11'
    clear R11'
    clear MM
    have MM := MM'
    clear MM'
    clear BB
    have BB := BB'
    clear BB'
    clear hb
    simp only [msgV]
    have PX := Lib.hid ((MM.out.atP HP.out).1 _ (List.mem_of_getElem? HX.out))
    simp only at PX
    go_upto_region 4 with fail
    have hlt_b15 := BB.out.size
    have hlt_b15_B12 := B12.out.lt
    have hlt_b15_B13 := B13.out.lt
    have hlt_b15_B5 := B5.out.lt
    have hlt_b15_R10 := R10.out.lt
    have hlt_b15_R11 := R11.out.lt
    have B12' := Lib.hid (B12.out.below (below_new a0 (.cells #[.int .i64 xa, .int .u32 xb, .int .u32 xc, .int .i64 xd, .map xp] 70)))
    have B13' := Lib.hid (B13.out.below (below_new a0 (.cells #[.int .i64 xa, .int .u32 xb, .int .u32 xc, .int .i64 xd, .map xp] 70)))
    have B5' := Lib.hid (B5.out.below (below_new a0 (.cells #[.int .i64 xa, .int .u32 xb, .int .u32 xc, .int .i64 xd, .map xp] 70)))
    have R10' := Lib.hid (R10.out.below (below_new a0 (.cells #[.int .i64 xa, .int .u32 xb, .int .u32 xc, .int .i64 xd, .map xp] 70)))
    have R11' := Lib.hid (R11.out.below (below_new a0 (.cells #[.int .i64 xa, .int .u32 xb, .int .u32 xc, .int .i64 xd, .map xp] 70)))
    have MM' := Lib.hid (MM.out.below (below_new a0 (.cells #[.int .i64 xa, .int .u32 xb, .int .u32 xc, .int .i64 xd, .map xp] 70)))
    have PX' := Lib.hid (PX.out.below (below_new a0 (.cells #[.int .i64 xa, .int .u32 xb, .int .u32 xc, .int .i64 xd, .map xp] 70)))
    have BB' := Lib.hid (BB.out.trans ((below_new a0 (.cells #[.int .i64 xa, .int .u32 xb, .int .u32 xc, .int .i64 xd, .map xp] 70)).mono BB.out.size))
    clear B12
    have B12 := B12'
    clear B12'
    clear B13
    have B13 := B13'
    clear B13'
    clear B5
    have B5 := B5'
    clear B5'
    clear R10
    have R10 := R10'
    clear R10'
    clear R11
    have R11 := R11'
    clear R11'
    clear MM
    have MM := MM'
    clear MM'
    clear PX
    have PX := PX'
    clear PX'
    clear BB
    have BB := BB'
    clear BB'
    have B15 := Lib.hid (Box.new a0 #[.int .i64 xa, .int .u32 xb, .int .u32 xc, .int .i64 xd, .map xp] 70 rfl)
    have hsz_b15 : (World.alloc a0 (.cells #[.int .i64 xa, .int .u32 xb, .int .u32 xc, .int .i64 xd, .map xp] 70)).heap.size = (World.heap a0).size + 1 := by simp
    generalize World.alloc a0 (.cells #[.int .i64 xa, .int .u32 xb, .int .u32 xc, .int .i64 xd, .map xp] 70) = a1 at *
    generalize World.heap a0 = hp_b15 at *
    generalize hp_b15.size = b15 at *
    have kc0 := B13.out.cells1.1
    go_wp2_with fail
    clear kc0
    have hlt13 := B13.out.lt
    refine (with_any vp vm p i _ (by omega) (by omega) (by omega) (by omega) (MM.out.atV HV.out)).mono ?_
    rintro e a2 ⟨bw, hbw, rfl, hv1, hb⟩
    have B12' := Lib.hid (B12.out.below (hb))
    have B13' := Lib.hid (B13.out.below (hb))
    have B5' := Lib.hid (B5.out.below (hb))
    have R10' := Lib.hid (R10.out.below (hb))
    have R11' := Lib.hid (R11.out.below (hb))
    have MM' := Lib.hid (MM.out.below (hb))
    have PX' := Lib.hid (PX.out.below (hb))
    have B15' := Lib.hid (B15.out.below (hb))
    have BB' := Lib.hid (BB.out.trans ((hb).mono BB.out.size))
    clear B12
    have B12 := B12'
    clear B12'
    clear B13
    have B13 := B13'
    clear B13'
    clear B5
    have B5 := B5'
    clear B5'
    clear R10
    have R10 := R10'
    clear R10'
    clear R11
    have R11 := R11'
    clear R11'
    clear MM
    have MM := MM'
    clear MM'
    clear PX
    have PX := PX'
    clear PX'
    clear B15
    have B15 := B15'
    clear B15'
    clear BB
    have BB := BB'
    clear BB'
    clear hb
    have P1 := Lib.hid (hv1)
    clear hv1
    obtain ⟨m0, g0⟩ := B13.out.cells1
    go_upto_region 5 with fail
    clear m0 g0
    have B12' := Lib.hid (B12.out.only (by omega) ((Only.refl b13 a2).set 0 (.map (some bw))))
    have B13' := Lib.hid ((B13.out).set 0 (.map (some bw)))
    have B5' := Lib.hid (B5.out.only (by omega) ((Only.refl b13 a2).set 0 (.map (some bw))))
    have R10' := Lib.hid (R10.out.only (by omega) ((Only.refl b13 a2).set 0 (.map (some bw))))
    have R11' := Lib.hid (R11.out.only (by omega) ((Only.refl b13 a2).set 0 (.map (some bw))))
    have MM' := Lib.hid (MM.out.only B13.out (by omega) ((Only.refl b13 a2).set 0 (.map (some bw))))
    have PX' := Lib.hid (PX.out.only B13.out ((Only.refl b13 a2).set 0 (.map (some bw))))
    have B15' := Lib.hid (B15.out.only (by omega) ((Only.refl b13 a2).set 0 (.map (some bw))))
    have P1' := Lib.hid (P1.out.only B13.out ((Only.refl b13 a2).set 0 (.map (some bw))))
    have BB' := Lib.hid ((BB.out).put b13 (by omega) 0 (.map (some bw)))
    clear B12
    have B12 := B12'
    clear B12'
    clear B13
    have B13 := B13'
    clear B13'
    clear B5
    have B5 := B5'
    clear B5'
    clear R10
    have R10 := R10'
    clear R10'
    clear R11
    have R11 := R11'
    clear R11'
    clear MM
    have MM := MM'
    clear MM'
    clear PX
    have PX := PX'
    clear PX'
    clear B15
    have B15 := B15'
    clear B15'
    clear P1
    have P1 := P1'
    clear P1'
    clear BB
    have BB := BB'
    clear BB'
    generalize (World.setCell a2 ⟨b13, 0, none⟩ (.map (some bw))) = s12 at *
    obtain ⟨⟨m0, m1, m2, m3, m4⟩, -⟩ := B15.out.cells5
    have m13 := B13.out.cells1.1
    go_wp2_with fail
    clear m0 m1 m2 m3 m4 m13
    refine (join_any (some bw) xp (withL vm p i) xm _ P1.out PX.out).mono ?_
    rintro e a3 ⟨bj, hbj, rfl, hv1, hb⟩
    have B12' := Lib.hid (B12.out.below (hb))
    have B13' := Lib.hid (B13.out.below (hb))
    have B5' := Lib.hid (B5.out.below (hb))
    have R10' := Lib.hid (R10.out.below (hb))
    have R11' := Lib.hid (R11.out.below (hb))
    have MM' := Lib.hid (MM.out.below (hb))
    have PX' := Lib.hid (PX.out.below (hb))
    have B15' := Lib.hid (B15.out.below (hb))
    have P1' := Lib.hid (P1.out.below (hb))
    have BB' := Lib.hid (BB.out.trans ((hb).mono BB.out.size))
    clear B12
    have B12 := B12'
    clear B12'
    clear B13
    have B13 := B13'
    clear B13'
    clear B5
    have B5 := B5'
    clear B5'
    clear R10
    have R10 := R10'
    clear R10'
    clear R11
    have R11 := R11'
    clear R11'
    clear MM
    have MM := MM'
    clear MM'
    clear PX
    have PX := PX'
    clear PX'
    clear B15
    have B15 := B15'
    clear B15'
    clear P1
    have P1 := P1'
    clear P1'
    clear BB
    have BB := BB'
    clear BB'
    clear hb
    have PJ := Lib.hid (hv1)
    clear hv1
    obtain ⟨m0, g0⟩ := B13.out.cells1
    go_upto_region 7 with fail
    clear m0 g0
    have B12' := Lib.hid (B12.out.only (by omega) ((Only.refl b13 a3).set 0 (.map (some bj))))
    have B13' := Lib.hid ((B13.out).set 0 (.map (some bj)))
    have B5' := Lib.hid (B5.out.only (by omega) ((Only.refl b13 a3).set 0 (.map (some bj))))
    have R10' := Lib.hid (R10.out.only (by omega) ((Only.refl b13 a3).set 0 (.map (some bj))))
    have R11' := Lib.hid (R11.out.only (by omega) ((Only.refl b13 a3).set 0 (.map (some bj))))
    have MM' := Lib.hid (MM.out.only B13.out (by omega) ((Only.refl b13 a3).set 0 (.map (some bj))))
    have PX' := Lib.hid (PX.out.only B13.out ((Only.refl b13 a3).set 0 (.map (some bj))))
    have B15' := Lib.hid (B15.out.only (by omega) ((Only.refl b13 a3).set 0 (.map (some bj))))
    have P1' := Lib.hid (P1.out.only B13.out ((Only.refl b13 a3).set 0 (.map (some bj))))
    have PJ' := Lib.hid (PJ.out.only B13.out ((Only.refl b13 a3).set 0 (.map (some bj))))
    have BB' := Lib.hid ((BB.out).put b13 (by omega) 0 (.map (some bj)))
    clear B12
    have B12 := B12'
    clear B12'
    clear B13
    have B13 := B13'
    clear B13'
    clear B5
    have B5 := B5'
    clear B5'
    clear R10
    have R10 := R10'
    clear R10'
    clear R11
    have R11 := R11'
    clear R11'
    clear MM
    have MM := MM'
    clear MM'
    clear PX
    have PX := PX'
    clear PX'
    clear B15
    have B15 := B15'
    clear B15'
    clear P1
    have P1 := P1'
    clear P1'
    clear PJ
    have PJ := PJ'
    clear PJ'
    clear BB
    have BB := BB'
    clear BB'
    generalize (World.setCell a3 ⟨b13, 0, none⟩ (.map (some bj))) = s13 at *
    have B12' := Lib.hid (B12.out.below ((Below.refl _ _).drew))
    have B13' := Lib.hid (B13.out.below ((Below.refl _ _).drew))
    have B5' := Lib.hid (B5.out.below ((Below.refl _ _).drew))
    have R10' := Lib.hid (R10.out.below ((Below.refl _ _).drew))
    have R11' := Lib.hid (R11.out.below ((Below.refl _ _).drew))
    have MM' := Lib.hid (MM.out.below ((Below.refl _ _).drew))
    have PX' := Lib.hid (PX.out.below ((Below.refl _ _).drew))
    have B15' := Lib.hid (B15.out.below ((Below.refl _ _).drew))
    have P1' := Lib.hid (P1.out.below ((Below.refl _ _).drew))
    have PJ' := Lib.hid (PJ.out.below ((Below.refl _ _).drew))
    have BB' := Lib.hid (BB.out.trans (((Below.refl _ _).drew).mono BB.out.size))
    clear B12
    have B12 := B12'
    clear B12'
    clear B13
    have B13 := B13'
    clear B13'
    clear B5
    have B5 := B5'
    clear B5'
    clear R10
    have R10 := R10'
    clear R10'
    clear R11
    have R11 := R11'
    clear R11'
    clear MM
    have MM := MM'
    clear MM'
    clear PX
    have PX := PX'
    clear PX'
    clear B15
    have B15 := B15'
    clear B15'
    clear P1
    have P1 := P1'
    clear P1'
    clear PJ
    have PJ := PJ'
    clear PJ'
    clear BB
    have BB := BB'
    clear BB'
    refine wp_region_held_drew (S := fun w' => w'.cell? ⟨b5, 0, none⟩ = some (.slice (some ⟨bP, 0, none⟩) np np) ∧ w'.cell? ⟨b5, 1, none⟩ = some (.slice (some ⟨bV, 0, none⟩) nv nv) ∧ w'.cell? ⟨b13, 0, none⟩ = some (.map (some bj)) ∧ w'.cell? ⟨b15, 0, none⟩ = some (.int .i64 xa) ∧ w'.cell? ⟨b15, 1, none⟩ = some (.int .u32 xb) ∧ w'.cell? ⟨b15, 2, none⟩ = some (.int .u32 xc) ∧ w'.cell? ⟨b15, 3, none⟩ = some (.int .i64 xd) ∧ w'.cell? ⟨b15, 4, none⟩ = some (.map xp)) (by kernel_rfl) ⟨B5.out.cells2.1.1, B5.out.cells2.1.2, B13.out.cells1.1, B15.out.cell 0, B15.out.cell 1, B15.out.cell 2, B15.out.cell 3, B15.out.cell 4⟩ (fun hHeld => ?_)
    generalize World.drew s13 = V14 at *
    refine wpAnyH_take (i := 0) (oi := { dst := some 49, op := Op.fieldAddr 31 (Operand.tmp 5) 0, type := 0, pos := "memory.go:128", after := #[], guard := none }) (v := ?d15_1xv0) rfl (by kernel_rfl) (by kernel_rfl) (by kernel_rfl) (fun _ _ _ h => h) (Or.inl ⟨by rfl, ?d15_1xy0⟩) (by assumption) ?d15_1xr0
    case d15_1xy0 => (intro w hSw; (try dsimp only at hSw); go_simp; try with_reducible rfl)
    (try simp only [Act.put])
    (try simp only [List.setIfInBounds_toArray])
    (try simp only [List.set_cons_succ])
    (try simp only [List.set_cons_zero])
    refine wpAnyH_take (i := 1) (oi := { dst := some 50, op := Op.load 28 (Operand.tmp 49), type := 28, pos := "memory.go:128", after := #[{ on := 0, ground := Ground.data }], guard := none }) (v := ?d15_2xv1) rfl (by kernel_rfl) (by kernel_rfl) (by kernel_rfl) (fun _ _ _ h => h) (Or.inl ⟨by rfl, ?d15_2xy1⟩) (by assumption) ?d15_2xr1
    case d15_2xy1 => (intro w hSw; (try dsimp only at hSw); go_simp; try with_reducible rfl)
    (try simp only [Act.put])
    (try simp only [List.setIfInBounds_toArray])
    (try simp only [List.set_cons_succ])
    (try simp only [List.set_cons_zero])
    refine wpAnyH_take (i := 2) (oi := { dst := some 51, op := Op.fieldAddr 31 (Operand.tmp 5) 1, type := 0, pos := "memory.go:128", after := #[], guard := none }) (v := ?d15_3xv2) rfl (by kernel_rfl) (by kernel_rfl) (by kernel_rfl) (fun _ _ _ h => h) (Or.inl ⟨by rfl, ?d15_3xy2⟩) (by assumption) ?d15_3xr2
    case d15_3xy2 => (intro w hSw; (try dsimp only at hSw); go_simp; try with_reducible rfl)
    (try simp only [Act.put])
    (try simp only [List.setIfInBounds_toArray])
    (try simp only [List.set_cons_succ])
    (try simp only [List.set_cons_zero])
    refine wpAnyH_take (i := 3) (oi := { dst := some 52, op := Op.load 29 (Operand.tmp 51), type := 29, pos := "memory.go:128", after := #[{ on := 2, ground := Ground.data }], guard := none }) (v := ?d15_4xv3) rfl (by kernel_rfl) (by kernel_rfl) (by kernel_rfl) (fun _ _ _ h => h) (Or.inl ⟨by rfl, ?d15_4xy3⟩) (by assumption) ?d15_4xr3
    case d15_4xy3 => (intro w hSw; (try dsimp only at hSw); go_simp; try with_reducible rfl)
    (try simp only [Act.put])
    (try simp only [List.setIfInBounds_toArray])
    (try simp only [List.set_cons_succ])
    (try simp only [List.set_cons_zero])
    refine wpAnyH_take (i := 4) (oi := { dst := some 53, op := Op.move (Operand.tmp 1), type := 3, pos := "memory.go:128", after := #[], guard := none }) (v := ?d15_5xv4) rfl (by kernel_rfl) (by kernel_rfl) (by kernel_rfl) (fun _ _ _ h => h) (Or.inl ⟨by rfl, ?d15_5xy4⟩) (by assumption) ?d15_5xr4
    case d15_5xy4 => (intro w hSw; (try dsimp only at hSw); go_simp; try with_reducible rfl)
    (try simp only [Act.put])
    (try simp only [List.setIfInBounds_toArray])
    (try simp only [List.set_cons_succ])
    (try simp only [List.set_cons_zero])
    refine wpAnyH_take (i := 5) (oi := { dst := some 54, op := Op.binOp BinOp.sub 3 (Operand.tmp 53) (Operand.const (Value.int IntKind.i64 1)) 3, type := 3, pos := "memory.go:128", after := #[{ on := 4, ground := Ground.data }], guard := none }) (v := ?d15_6xv5) rfl (by kernel_rfl) (by kernel_rfl) (by kernel_rfl) (fun _ _ _ h => h) (Or.inl ⟨by rfl, ?d15_6xy5⟩) (by assumption) ?d15_6xr5
    case d15_6xy5 => (intro w hSw; (try dsimp only at hSw); go_simp; try with_reducible rfl)
    (try simp only [Act.put])
    (try simp only [List.setIfInBounds_toArray])
    (try simp only [List.set_cons_succ])
    (try simp only [List.set_cons_zero])
    refine wpAnyH_take (i := 6) (oi := { dst := some 55, op := Op.load 60 (Operand.tmp 13), type := 60, pos := "memory.go:128", after := #[], guard := none }) (v := ?d15_7xv6) rfl (by kernel_rfl) (by kernel_rfl) (by kernel_rfl) (fun _ _ _ h => h) (Or.inl ⟨by rfl, ?d15_7xy6⟩) (by assumption) ?d15_7xr6
    case d15_7xy6 => (intro w hSw; (try dsimp only at hSw); go_simp; try with_reducible rfl)
    (try simp only [Act.put])
    (try simp only [List.setIfInBounds_toArray])
    (try simp only [List.set_cons_succ])
    (try simp only [List.set_cons_zero])
    refine wpAnyH_take (i := 9) (oi := { dst := some 58, op := Op.fieldAddr 70 (Operand.tmp 15) 0, type := 0, pos := "memory.go:128", after := #[{ on := 11, ground := Ground.gcOnly Departure.lateStores }], guard := none }) (v := ?d15_8xv9) rfl (by kernel_rfl) (by kernel_rfl) (by kernel_rfl) (fun _ _ _ h => h) (Or.inl ⟨by rfl, ?d15_8xy9⟩) (by assumption) ?d15_8xr9
    case d15_8xy9 => (intro w hSw; (try dsimp only at hSw); go_simp; try with_reducible rfl)
    (try simp only [Act.put])
    (try simp only [List.setIfInBounds_toArray])
    (try simp only [List.set_cons_succ])
    (try simp only [List.set_cons_zero])
    refine wpAnyH_take (i := 10) (oi := { dst := some 59, op := Op.load 45 (Operand.tmp 58), type := 45, pos := "memory.go:128", after := #[{ on := 9, ground := Ground.data }, { on := 11, ground := Ground.gcOnly Departure.lateStores }], guard := none }) (v := ?d15_9xv10) rfl (by kernel_rfl) (by kernel_rfl) (by kernel_rfl) (fun _ _ _ h => h) (Or.inl ⟨by rfl, ?d15_9xy10⟩) (by assumption) ?d15_9xr10
    case d15_9xy10 => (intro w hSw; (try dsimp only at hSw); go_simp; try with_reducible rfl)
    (try simp only [Act.put])
    (try simp only [List.setIfInBounds_toArray])
    (try simp only [List.set_cons_succ])
    (try simp only [List.set_cons_zero])
    refine wpAnyH_ready (rs := [7]) (by kernel_rfl) (by simp) ?_
    refine AllReadyH.cons (o := { dst := some 56, op := Op.call { callee := Callee.value (Operand.func 53), args := #[Operand.tmp 52, Operand.tmp 54, Operand.tmp 55], argTypes := #[29, 3, 60] }, type := 29, pos := "memory.go:128", after := #[{ on := 3, ground := Ground.data }, { on := 5, ground := Ground.data }, { on := 6, ground := Ground.data }], guard := none }) rfl (fun K hK => ?_) AllReadyH.nil
    go_simp
    go_at_call 53
    (try rw [hwk])
    have hltr10 := R10.out.lt
    have hltr11 := R11.out.lt
    refine (repl_v _ _ k (some bj) _ (MM.out.rowV E2.out) (oneV_cells V) (by rw [List.length_map, E2.out]; omega) (by rw [List.length_map, E2.out]; omega)).mono ?_
    rintro e v15 ⟨bN, hbN, rfl, hr, hb⟩
    have B12' := Lib.hid (B12.out.below (hb))
    have B13' := Lib.hid (B13.out.below (hb))
    have B5' := Lib.hid (B5.out.below (hb))
    have R10' := Lib.hid (R10.out.below (hb))
    have R11' := Lib.hid (R11.out.below (hb))
    have MM' := Lib.hid (MM.out.below (hb))
    have PX' := Lib.hid (PX.out.below (hb))
    have B15' := Lib.hid (B15.out.below (hb))
    have P1' := Lib.hid (P1.out.below (hb))
    have PJ' := Lib.hid (PJ.out.below (hb))
    have BB' := Lib.hid (BB.out.trans ((hb).mono BB.out.size))
    clear B12
    have B12 := B12'
    clear B12'
    clear B13
    have B13 := B13'
    clear B13'
    clear B5
    have B5 := B5'
    clear B5'
    clear R10
    have R10 := R10'
    clear R10'
    clear R11
    have R11 := R11'
    clear R11'
    clear MM
    have MM := MM'
    clear MM'
    clear PX
    have PX := PX'
    clear PX'
    clear B15
    have B15 := B15'
    clear B15'
    clear P1
    have P1 := P1'
    clear P1'
    clear PJ
    have PJ := PJ'
    clear PJ'
    clear BB
    have BB := BB'
    clear BB'
    clear hb
    have RN := Lib.hid (hr)
    clear hr
    rw [show ((V.map fun x => Value.map x.1).set k (.map (some bj))).length = nv by rw [List.length_set, List.length_map, E2.out]] at RN ⊢
    go_simp
    refine hK.out _ _ ?_ (fun hHeld => ?_)
    · exact ⟨B5.out.cells2.1.1, B5.out.cells2.1.2, B13.out.cells1.1, B15.out.cell 0, B15.out.cell 1, B15.out.cell 2, B15.out.cell 3, B15.out.cell 4⟩
    clear hK K
    (try simp only [Act.put])
    (try simp only [List.setIfInBounds_toArray])
    (try simp only [List.set_cons_succ])
    (try simp only [List.set_cons_zero])
    refine wpAnyH_take (i := 8) (oi := { dst := some 57, op := Op.build 31 #[(0, Operand.tmp 50), (1, Operand.tmp 56)], type := 31, pos := "memory.go:128", after := #[{ on := 1, ground := Ground.data }, { on := 7, ground := Ground.data }], guard := none }) (v := ?d16_10xv8) rfl (by kernel_rfl) (by kernel_rfl) (by kernel_rfl) (fun _ _ _ h => h) (Or.inl ⟨by rfl, ?d16_10xy8⟩) (by assumption) ?d16_10xr8
    case d16_10xy8 => (intro w hSw; (try dsimp only at hSw); go_simp; try with_reducible rfl)
    (try simp only [Act.put])
    (try simp only [List.setIfInBounds_toArray])
    (try simp only [List.set_cons_succ])
    (try simp only [List.set_cons_zero])
    refine wpAnyH_ready (rs := [11]) (by kernel_rfl) (by simp) ?_
    refine AllReadyH.cons (o := { dst := none, op := Op.store 31 (Operand.tmp 10) (Operand.tmp 57), type := 0, pos := "memory.go:128", after := #[{ on := 8, ground := Ground.data }, { on := 7, ground := Ground.chain }, { on := 0, ground := Ground.phase }, { on := 1, ground := Ground.phase }, { on := 2, ground := Ground.phase }, { on := 3, ground := Ground.phase }, { on := 4, ground := Ground.phase }, { on := 5, ground := Ground.phase }, { on := 6, ground := Ground.phase }, { on := 7, ground := Ground.phase }, { on := 8, ground := Ground.phase }, { on := 9, ground := Ground.textOnly Departure.lateStores }, { on := 10, ground := Ground.textOnly Departure.lateStores }], guard := none }) rfl (fun K hK => ?_) AllReadyH.nil
    obtain ⟨⟨m0, m1⟩, g0, g1⟩ := R10.out.cells2
    go_simp
    clear m0 g0 m1 g1
    have B12' := Lib.hid (B12.out.only (by omega) (((Only.refl b10 v15).set 0 (.slice (some ⟨bP, 0, none⟩) np np)).set 1 (.slice (some ⟨bN, 0, none⟩) nv nv)))
    have B13' := Lib.hid (B13.out.only (by omega) (((Only.refl b10 v15).set 0 (.slice (some ⟨bP, 0, none⟩) np np)).set 1 (.slice (some ⟨bN, 0, none⟩) nv nv)))
    have B5' := Lib.hid (B5.out.only (by omega) (((Only.refl b10 v15).set 0 (.slice (some ⟨bP, 0, none⟩) np np)).set 1 (.slice (some ⟨bN, 0, none⟩) nv nv)))
    have R10' := Lib.hid (((R10.out).set 0 (.slice (some ⟨bP, 0, none⟩) np np)).set 1 (.slice (some ⟨bN, 0, none⟩) nv nv))
    have R11' := Lib.hid (R11.out.only (by omega) (((Only.refl b10 v15).set 0 (.slice (some ⟨bP, 0, none⟩) np np)).set 1 (.slice (some ⟨bN, 0, none⟩) nv nv)))
    have MM' := Lib.hid (MM.out.only R10.out (by omega) (((Only.refl b10 v15).set 0 (.slice (some ⟨bP, 0, none⟩) np np)).set 1 (.slice (some ⟨bN, 0, none⟩) nv nv)))
    have PX' := Lib.hid (PX.out.only R10.out (((Only.refl b10 v15).set 0 (.slice (some ⟨bP, 0, none⟩) np np)).set 1 (.slice (some ⟨bN, 0, none⟩) nv nv)))
    have B15' := Lib.hid (B15.out.only (by omega) (((Only.refl b10 v15).set 0 (.slice (some ⟨bP, 0, none⟩) np np)).set 1 (.slice (some ⟨bN, 0, none⟩) nv nv)))
    have P1' := Lib.hid (P1.out.only R10.out (((Only.refl b10 v15).set 0 (.slice (some ⟨bP, 0, none⟩) np np)).set 1 (.slice (some ⟨bN, 0, none⟩) nv nv)))
    have PJ' := Lib.hid (PJ.out.only R10.out (((Only.refl b10 v15).set 0 (.slice (some ⟨bP, 0, none⟩) np np)).set 1 (.slice (some ⟨bN, 0, none⟩) nv nv)))
    have RN' := Lib.hid (RN.out.only (by omega) (((Only.refl b10 v15).set 0 (.slice (some ⟨bP, 0, none⟩) np np)).set 1 (.slice (some ⟨bN, 0, none⟩) nv nv)))
    have BB' := Lib.hid (((BB.out).put b10 (by omega) 0 (.slice (some ⟨bP, 0, none⟩) np np)).put b10 (by omega) 1 (.slice (some ⟨bN, 0, none⟩) nv nv))
    clear B12
    have B12 := B12'
    clear B12'
    clear B13
    have B13 := B13'
    clear B13'
    clear B5
    have B5 := B5'
    clear B5'
    clear R10
    have R10 := R10'
    clear R10'
    clear R11
    have R11 := R11'
    clear R11'
    clear MM
    have MM := MM'
    clear MM'
    clear PX
    have PX := PX'
    clear PX'
    clear B15
    have B15 := B15'
    clear B15'
    clear P1
    have P1 := P1'
    clear P1'
    clear PJ
    have PJ := PJ'
    clear PJ'
    clear RN
    have RN := RN'
    clear RN'
    clear BB
    have BB := BB'
    clear BB'
    generalize (World.setCell (World.setCell v15 ⟨b10, 0, none⟩ (.slice (some ⟨bP, 0, none⟩) np np)) ⟨b10, 1, none⟩ (.slice (some ⟨bN, 0, none⟩) nv nv)) = v16 at *
    refine hK.out _ _ ?_ (fun hHeld => ?_)
    · exact ⟨B5.out.cells2.1.1, B5.out.cells2.1.2, B13.out.cells1.1, B15.out.cell 0, B15.out.cell 1, B15.out.cell 2, B15.out.cell 3, B15.out.cell 4⟩
    clear hK K
    (try simp only [Act.put])
    (try simp only [List.setIfInBounds_toArray])
    (try simp only [List.set_cons_succ])
    (try simp only [List.set_cons_zero])
    refine wpAnyH_ready (rs := [12]) (by kernel_rfl) (by simp) ?_
    refine AllReadyH.cons (o := { dst := none, op := Op.store 45 (Operand.tmp 11) (Operand.tmp 59), type := 0, pos := "memory.go:128", after := #[{ on := 10, ground := Ground.data }, { on := 11, ground := Ground.chain }, { on := 0, ground := Ground.phase }, { on := 1, ground := Ground.phase }, { on := 2, ground := Ground.phase }, { on := 3, ground := Ground.phase }, { on := 4, ground := Ground.phase }, { on := 5, ground := Ground.phase }, { on := 6, ground := Ground.phase }, { on := 7, ground := Ground.phase }, { on := 8, ground := Ground.phase }, { on := 9, ground := Ground.phase }, { on := 10, ground := Ground.phase }, { on := 11, ground := Ground.phase }], guard := none }) rfl (fun K hK => ?_) AllReadyH.nil
    obtain ⟨⟨m0, m1, m2⟩, g0, g1, g2⟩ := R11.out.cells3
    go_simp
    clear m0 g0 m1 g1 m2 g2
    have B12' := Lib.hid (B12.out.only (by omega) ((((Only.refl b11 v16).set 0 (.int .i64 xa)).set 1 (.int .u32 xb)).set 2 (.int .u32 xc)))
    have B13' := Lib.hid (B13.out.only (by omega) ((((Only.refl b11 v16).set 0 (.int .i64 xa)).set 1 (.int .u32 xb)).set 2 (.int .u32 xc)))
    have B5' := Lib.hid (B5.out.only (by omega) ((((Only.refl b11 v16).set 0 (.int .i64 xa)).set 1 (.int .u32 xb)).set 2 (.int .u32 xc)))
    have R10' := Lib.hid (R10.out.only (by omega) ((((Only.refl b11 v16).set 0 (.int .i64 xa)).set 1 (.int .u32 xb)).set 2 (.int .u32 xc)))
    have R11' := Lib.hid ((((R11.out).set 0 (.int .i64 xa)).set 1 (.int .u32 xb)).set 2 (.int .u32 xc))
    have MM' := Lib.hid (MM.out.only R11.out (by omega) ((((Only.refl b11 v16).set 0 (.int .i64 xa)).set 1 (.int .u32 xb)).set 2 (.int .u32 xc)))
    have PX' := Lib.hid (PX.out.only R11.out ((((Only.refl b11 v16).set 0 (.int .i64 xa)).set 1 (.int .u32 xb)).set 2 (.int .u32 xc)))
    have B15' := Lib.hid (B15.out.only (by omega) ((((Only.refl b11 v16).set 0 (.int .i64 xa)).set 1 (.int .u32 xb)).set 2 (.int .u32 xc)))
    have P1' := Lib.hid (P1.out.only R11.out ((((Only.refl b11 v16).set 0 (.int .i64 xa)).set 1 (.int .u32 xb)).set 2 (.int .u32 xc)))
    have PJ' := Lib.hid (PJ.out.only R11.out ((((Only.refl b11 v16).set 0 (.int .i64 xa)).set 1 (.int .u32 xb)).set 2 (.int .u32 xc)))
    have RN' := Lib.hid (RN.out.only (by omega) ((((Only.refl b11 v16).set 0 (.int .i64 xa)).set 1 (.int .u32 xb)).set 2 (.int .u32 xc)))
    have BB' := Lib.hid ((((BB.out).put b11 (by omega) 0 (.int .i64 xa)).put b11 (by omega) 1 (.int .u32 xb)).put b11 (by omega) 2 (.int .u32 xc))
    clear B12
    have B12 := B12'
    clear B12'
    clear B13
    have B13 := B13'
    clear B13'
    clear B5
    have B5 := B5'
    clear B5'
    clear R10
    have R10 := R10'
    clear R10'
    clear R11
    have R11 := R11'
    clear R11'
    clear MM
    have MM := MM'
    clear MM'
    clear PX
    have PX := PX'
    clear PX'
    clear B15
    have B15 := B15'
    clear B15'
    clear P1
    have P1 := P1'
    clear P1'
    clear PJ
    have PJ := PJ'
    clear PJ'
    clear RN
    have RN := RN'
    clear RN'
    clear BB
    have BB := BB'
    clear BB'
    generalize (World.setCell (World.setCell (World.setCell v16 ⟨b11, 0, none⟩ (.int .i64 xa)) ⟨b11, 1, none⟩ (.int .u32 xb)) ⟨b11, 2, none⟩ (.int .u32 xc)) = v17 at *
    refine hK.out _ _ ?_ (fun hHeld => ?_)
    · exact ⟨B5.out.cells2.1.1, B5.out.cells2.1.2, B13.out.cells1.1, B15.out.cell 0, B15.out.cell 1, B15.out.cell 2, B15.out.cell 3, B15.out.cell 4⟩
    clear hK K
    (try simp only [Act.put])
    (try simp only [List.setIfInBounds_toArray])
    (try simp only [List.set_cons_succ])
    (try simp only [List.set_cons_zero])
    refine wpAnyH_done (by kernel_rfl) ?_ _
    obtain ⟨⟨m0, m1⟩, -⟩ := R10.out.cells2
    obtain ⟨⟨k0, k1, k2⟩, -⟩ := R11.out.cells3
    have F1 := RN.out
    have F3 := PJ.out
    have F2 := BB.out
    go_wp2
    refine bodyPost_ret (v := .tuple #[.agg #[.slice (some ⟨bP, 0, none⟩) np np, .slice (some ⟨bN, 0, none⟩) nv nv], .agg #[.int .i64 xa, .int .u32 xb, .int .u32 xc]]) (by simp [results, Try.f39, go_sem, m0, m1, k0, k1, k2]) rfl ?_
    exact ⟨bN, some bj, rfl, by omega, F1, F3, F2⟩

set_option maxRecDepth 100000 in
set_option maxHeartbeats 6400000 in
theorem read_plain (z : Int) (z0 : -9223372036854775808 ≤ z) (z1 : z < 9223372036854775808) (bP bV np nv B k p i hn : Nat) (P : List PL) (V : List VL) (ha : Option Addr) (q : List MP) (vp : Option Nat) (vm : List (Int × Int)) (xa xb xc xd : Int) (xm : List (Int × Int)) (xp : Option Nat) (w : World)
    (h : MO B bP bV P V w) (e1 : P.length = np) (e2 : V.length = nv) (l1 : np ≤ 4096) (l2 : nv ≤ 8) (hp : P[p]? = some ((.slice ha hn hn), q)) (hv : V[k]? = some (vp, vm)) (hq : q.length = hn) (hql : hn ≤ 1000)
    (hx : q[i]? = some (⟨xa, xb, xc, xd, xm⟩, xp)) (hi : (i : Int) = chooseL hn (atL vm p) z) :
    Calls Try.prog 39 #[.agg #[.slice (some ⟨bP, 0, none⟩) np np, .slice (some ⟨bV, 0, none⟩) nv nv], .int .i64 ((k : Int) + 1), .int .i64 p, (.func (Fn.func 41) #[.agg #[.int .i64 z]] #[]), .bool false] w fun e w' => ∃ bN vp', e = .returned (.tuple #[.agg #[.slice (some ⟨bP, 0, none⟩) np np, .slice (some ⟨bN, 0, none⟩) nv nv], .agg #[.int .i64 xa, .int .u32 xb, .int .u32 xc]]) ∧
      w.heap.size ≤ bN ∧ RW w' (.slice (some ⟨bN, 0, none⟩) nv nv) ((V.map fun x => Value.map x.1).set k (.map vp')) ∧ VW w' vp' (withL vm p i) ∧ Below w.heap.size w w' := by
  have hk : k < nv := by rw [← e2]; exact (List.getElem?_eq_some_iff.1 hv).1
  have hpn : p < np := by rw [← e1]; exact (List.getElem?_eq_some_iff.1 hp).1
  have hih : i < hn := by rw [← hq]; exact (List.getElem?_eq_some_iff.1 hx).1
  have hvo := (h.atV hv).1
  have hbd := atL_bd hvo p
  have HP := Lib.hid hp
  have HV := Lib.hid hv
  have HX := Lib.hid hx
  have HQ := Lib.hid hq
  have HI := Lib.hid hi
  have E1 := Lib.hid e1
  have E2 := Lib.hid e2
  have HVO := Lib.hid hvo
  have hwk : IntKind.i64.wrap ((k : Int)) = k := IntWalk.i64_in _ (by omega)
  have B5 := Lib.hid (Box.alloc (Box.alloc (Box.new w #[.slice (some ⟨bP, 0, none⟩) np np, .slice (some ⟨bV, 0, none⟩) nv nv] 31 rfl) (.cells #[.slice none 0 0, .slice none 0 0] 31)) (.cells #[.int .i64 0, .int .u32 0, .int .u32 0] 45))
  have R10 := Lib.hid (Box.alloc (Box.new (w.alloc (.cells #[.slice (some ⟨bP, 0, none⟩) np np, .slice (some ⟨bV, 0, none⟩) nv nv] 31)) #[.slice none 0 0, .slice none 0 0] 31 (n := w.heap.size + 1) (by simp)) (.cells #[.int .i64 0, .int .u32 0, .int .u32 0] 45))
  have R11 := Lib.hid (Box.new ((w.alloc (.cells #[.slice (some ⟨bP, 0, none⟩) np np, .slice (some ⟨bV, 0, none⟩) nv nv] 31)).alloc (.cells #[.slice none 0 0, .slice none 0 0] 31)) #[.int .i64 0, .int .u32 0, .int .u32 0] 45 (n := w.heap.size + 1 + 1) (by simp))
  have BB := Lib.hid (b3 w (.cells #[.slice (some ⟨bP, 0, none⟩) np np, .slice (some ⟨bV, 0, none⟩) nv nv] 31) (.cells #[.slice none 0 0, .slice none 0 0] 31) (.cells #[.int .i64 0, .int .u32 0, .int .u32 0] 45))
  have MM := Lib.hid (h.below (b3 w (.cells #[.slice (some ⟨bP, 0, none⟩) np np, .slice (some ⟨bV, 0, none⟩) nv nv] 31) (.cells #[.slice none 0 0, .slice none 0 0] 31) (.cells #[.int .i64 0, .int .u32 0, .int .u32 0] 45)))
  have hB := h.le
  clear h hp hv hx hq hi e1 e2 hvo
  go_enter Try.func39, Try.ntmps39
  go_wp2_with fail
  generalize ((w.alloc (.cells #[.slice (some ⟨bP, 0, none⟩) np np, .slice (some ⟨bV, 0, none⟩) nv nv] 31)).alloc (.cells #[.slice none 0 0, .slice none 0 0] 31)).alloc (.cells #[.int .i64 0, .int .u32 0, .int .u32 0] 45) = W0 at *
  obtain ⟨b11, hb11⟩ : ∃ br, w.heap.size + 1 + 1 = br := ⟨_, rfl⟩
  obtain ⟨b10, hb10⟩ : ∃ br, w.heap.size + 1 = br := ⟨_, rfl⟩
  obtain ⟨b5, hb5⟩ : ∃ bp, w.heap.size = bp := ⟨_, rfl⟩
  have hbq := hb5
  rw [hb11] at R11 ⊢
  rw [hb10] at R10 hb11 ⊢
  rw [hb5] at B5 hb10 ⊢
  go_cut [12, 13] (fun s12 s13 wx => ∃ b12 b13, s12 = .pointer (some ⟨b12, 0, none⟩) ∧ s13 = .pointer (some ⟨b13, 0, none⟩) ∧ b12 ≠ b13 ∧ b5 < b12 ∧ b10 < b13 ∧ b11 < b13 ∧ b10 < b12 ∧ b11 < b12 ∧ B ≤ b13 ∧ B ≤ b12 ∧ b5 < b13 ∧ Box wx b12 #[.slice ha hn hn] 65 ∧ Box wx b13 #[.map vp] 60 ∧ Box wx b5 #[.slice (some ⟨bP, 0, none⟩) np np, .slice (some ⟨bV, 0, none⟩) nv nv] 31 ∧ Box wx b10 #[.slice none 0 0, .slice none 0 0] 31 ∧ Box wx b11 #[.int .i64 0, .int .u32 0, .int .u32 0] 45 ∧ MO B bP bV P V wx ∧ Below w.heap.size w wx)
  case first =>
    have B5' := Lib.hid (B5.out.below ((Below.refl _ _).drew))
    have R10' := Lib.hid (R10.out.below ((Below.refl _ _).drew))
    have R11' := Lib.hid (R11.out.below ((Below.refl _ _).drew))
    have MM' := Lib.hid (MM.out.below ((Below.refl _ _).drew))
    have BB' := Lib.hid (BB.out.trans (((Below.refl _ _).drew).mono BB.out.size))
    clear B5
    have B5 := B5'
    clear B5'
    clear R10
    have R10 := R10'
    clear R10'
    clear R11
    have R11 := R11'
    clear R11'
    clear MM
    have MM := MM'
    clear MM'
    clear BB
    have BB := BB'
    clear BB'
    refine wp_region_held_drew (S := fun w' => w'.cell? ⟨b5, 0, none⟩ = some (.slice (some ⟨bP, 0, none⟩) np np) ∧ w'.cell? ⟨b5, 1, none⟩ = some (.slice (some ⟨bV, 0, none⟩) nv nv) ∧ w'.cell? ⟨bP, p, none⟩ = some (.slice ha hn hn) ∧ w'.cell? ⟨bV, k, none⟩ = some (.map vp)) (by kernel_rfl) ⟨B5.out.cells2.1.1, B5.out.cells2.1.2, MM.out.cellP HP.out, MM.out.cellV HV.out⟩ (fun hHeld => ?_)
    generalize World.drew W0 = V0 at *
    refine wpAnyH_take (i := 0) (oi := { dst := some 17, op := Op.fieldAddr 31 (Operand.tmp 5) 0, type := 0, pos := "memory.go:121", after := #[], guard := none }) (v := ?d1_1xv0) rfl (by kernel_rfl) (by kernel_rfl) (by kernel_rfl) (fun _ _ _ h => h) (Or.inl ⟨by rfl, ?d1_1xy0⟩) (by assumption) ?d1_1xr0
    case d1_1xy0 => (intro w hSw; (try dsimp only at hSw); go_simp; try with_reducible rfl)
    (try simp only [Act.put])
    (try simp only [List.setIfInBounds_toArray])
    (try simp only [List.set_cons_succ])
    (try simp only [List.set_cons_zero])
    refine wpAnyH_take (i := 1) (oi := { dst := some 18, op := Op.load 28 (Operand.tmp 17), type := 28, pos := "memory.go:121", after := #[{ on := 0, ground := Ground.data }], guard := none }) (v := ?d1_2xv1) rfl (by kernel_rfl) (by kernel_rfl) (by kernel_rfl) (fun _ _ _ h => h) (Or.inl ⟨by rfl, ?d1_2xy1⟩) (by assumption) ?d1_2xr1
    case d1_2xy1 => (intro w hSw; (try dsimp only at hSw); go_simp; try with_reducible rfl)
    (try simp only [Act.put])
    (try simp only [List.setIfInBounds_toArray])
    (try simp only [List.set_cons_succ])
    (try simp only [List.set_cons_zero])
    refine wpAnyH_take (i := 2) (oi := { dst := some 19, op := Op.move (Operand.tmp 2), type := 42, pos := "memory.go:121", after := #[], guard := none }) (v := ?d1_3xv2) rfl (by kernel_rfl) (by kernel_rfl) (by kernel_rfl) (fun _ _ _ h => h) (Or.inl ⟨by rfl, ?d1_3xy2⟩) (by assumption) ?d1_3xr2
    case d1_3xy2 => (intro w hSw; (try dsimp only at hSw); go_simp; try with_reducible rfl)
    (try simp only [Act.put])
    (try simp only [List.setIfInBounds_toArray])
    (try simp only [List.set_cons_succ])
    (try simp only [List.set_cons_zero])
    refine wpAnyH_take (i := 3) (oi := { dst := some 20, op := Op.indexAddr 28 (Operand.tmp 18) (Operand.tmp 19), type := 0, pos := "memory.go:121", after := #[{ on := 1, ground := Ground.data }, { on := 2, ground := Ground.data }], guard := none }) (v := ?d1_4xv3) rfl (by kernel_rfl) (by kernel_rfl) (by kernel_rfl) (fun _ _ _ h => h) (Or.inl ⟨by rfl, ?d1_4xy3⟩) (by assumption) ?d1_4xr3
    case d1_4xy3 => (intro w hSw; (try dsimp only at hSw); go_simp; try with_reducible rfl)
    (try simp only [Act.put])
    (try simp only [List.setIfInBounds_toArray])
    (try simp only [List.set_cons_succ])
    (try simp only [List.set_cons_zero])
    refine wpAnyH_take (i := 4) (oi := { dst := some 21, op := Op.load 65 (Operand.tmp 20), type := 65, pos := "memory.go:121", after := #[{ on := 3, ground := Ground.data }], guard := none }) (v := ?d1_5xv4) rfl (by kernel_rfl) (by kernel_rfl) (by kernel_rfl) (fun _ _ _ h => h) (Or.inl ⟨by rfl, ?d1_5xy4⟩) (by assumption) ?d1_5xr4
    case d1_5xy4 => (intro w hSw; (try dsimp only at hSw); go_simp; try with_reducible rfl)
    (try simp only [Act.put])
    (try simp only [List.setIfInBounds_toArray])
    (try simp only [List.set_cons_succ])
    (try simp only [List.set_cons_zero])
    refine wpAnyH_take (i := 5) (oi := { dst := some 22, op := Op.fieldAddr 31 (Operand.tmp 5) 1, type := 0, pos := "memory.go:121", after := #[{ on := 13, ground := Ground.gcOnly Departure.lateStores }], guard := none }) (v := ?d1_6xv5) rfl (by kernel_rfl) (by kernel_rfl) (by kernel_rfl) (fun _ _ _ h => h) (Or.inl ⟨by rfl, ?d1_6xy5⟩) (by assumption) ?d1_6xr5
    case d1_6xy5 => (intro w hSw; (try dsimp only at hSw); go_simp; try with_reducible rfl)
    (try simp only [Act.put])
    (try simp only [List.setIfInBounds_toArray])
    (try simp only [List.set_cons_succ])
    (try simp only [List.set_cons_zero])
    refine wpAnyH_take (i := 6) (oi := { dst := some 23, op := Op.load 29 (Operand.tmp 22), type := 29, pos := "memory.go:121", after := #[{ on := 5, ground := Ground.data }, { on := 13, ground := Ground.gcOnly Departure.lateStores }], guard := none }) (v := ?d1_7xv6) rfl (by kernel_rfl) (by kernel_rfl) (by kernel_rfl) (fun _ _ _ h => h) (Or.inl ⟨by rfl, ?d1_7xy6⟩) (by assumption) ?d1_7xr6
    case d1_7xy6 => (intro w hSw; (try dsimp only at hSw); go_simp; try with_reducible rfl)
    (try simp only [Act.put])
    (try simp only [List.setIfInBounds_toArray])
    (try simp only [List.set_cons_succ])
    (try simp only [List.set_cons_zero])
    refine wpAnyH_take (i := 7) (oi := { dst := some 24, op := Op.move (Operand.tmp 1), type := 3, pos := "memory.go:121", after := #[{ on := 13, ground := Ground.gcOnly Departure.lateStores }], guard := none }) (v := ?d1_8xv7) rfl (by kernel_rfl) (by kernel_rfl) (by kernel_rfl) (fun _ _ _ h => h) (Or.inl ⟨by rfl, ?d1_8xy7⟩) (by assumption) ?d1_8xr7
    case d1_8xy7 => (intro w hSw; (try dsimp only at hSw); go_simp; try with_reducible rfl)
    (try simp only [Act.put])
    (try simp only [List.setIfInBounds_toArray])
    (try simp only [List.set_cons_succ])
    (try simp only [List.set_cons_zero])
    refine wpAnyH_take (i := 8) (oi := { dst := some 25, op := Op.binOp BinOp.sub 3 (Operand.tmp 24) (Operand.const (Value.int IntKind.i64 1)) 3, type := 3, pos := "memory.go:121", after := #[{ on := 7, ground := Ground.data }, { on := 13, ground := Ground.gcOnly Departure.lateStores }], guard := none }) (v := ?d1_9xv8) rfl (by kernel_rfl) (by kernel_rfl) (by kernel_rfl) (fun _ _ _ h => h) (Or.inl ⟨by rfl, ?d1_9xy8⟩) (by assumption) ?d1_9xr8
    case d1_9xy8 => (intro w hSw; (try dsimp only at hSw); go_simp; try with_reducible rfl)
    (try simp only [Act.put])
    (try simp only [List.setIfInBounds_toArray])
    (try simp only [List.set_cons_succ])
    (try simp only [List.set_cons_zero])
    refine wpAnyH_take (i := 9) (oi := { dst := some 26, op := Op.indexAddr 29 (Operand.tmp 23) (Operand.tmp 25), type := 0, pos := "memory.go:121", after := #[{ on := 6, ground := Ground.data }, { on := 8, ground := Ground.data }, { on := 13, ground := Ground.gcOnly Departure.lateStores }], guard := none }) (v := ?d1_10xv9) rfl (by kernel_rfl) (by kernel_rfl) (by kernel_rfl) (fun _ _ _ h => h) (Or.inl ⟨by rfl, ?d1_10xy9⟩) (by assumption) ?d1_10xr9
    case d1_10xy9 => (intro w hSw; (try dsimp only at hSw); go_simp; try with_reducible rfl)
    (try simp only [Act.put])
    (try simp only [List.setIfInBounds_toArray])
    (try simp only [List.set_cons_succ])
    (try simp only [List.set_cons_zero])
    refine wpAnyH_take (i := 10) (oi := { dst := some 27, op := Op.load 60 (Operand.tmp 26), type := 60, pos := "memory.go:121", after := #[{ on := 9, ground := Ground.data }, { on := 13, ground := Ground.gcOnly Departure.lateStores }], guard := none }) (v := ?d1_11xv10) rfl (by kernel_rfl) (by kernel_rfl) (by kernel_rfl) (fun _ _ _ h => h) (Or.inl ⟨by rfl, ?d1_11xy10⟩) (by assumption) ?d1_11xr10
    case d1_11xy10 => (intro w hSw; (try dsimp only at hSw); go_simp; try with_reducible rfl)
    (try simp only [Act.put])
    (try simp only [List.setIfInBounds_toArray])
    (try simp only [List.set_cons_succ])
    (try simp only [List.set_cons_zero])
    refine wpAnyH_ready (rs := [11, 12]) (by kernel_rfl) (by simp) ?_
    refine AllReadyH.cons (o := { dst := some 12, op := Op.alloc 65, type := 0, pos := "memory.go:121", after := #[], guard := none }) rfl (fun K hK => ?_) ?_
    · skip
      go_simp
      have hlt_b12 := BB.out.size
      have hlt_b12_B5 := B5.out.lt
      have hlt_b12_R10 := R10.out.lt
      have hlt_b12_R11 := R11.out.lt
      have B5' := Lib.hid (B5.out.below (below_new V0 (.cells #[.slice none 0 0] 65)))
      have R10' := Lib.hid (R10.out.below (below_new V0 (.cells #[.slice none 0 0] 65)))
      have R11' := Lib.hid (R11.out.below (below_new V0 (.cells #[.slice none 0 0] 65)))
      have MM' := Lib.hid (MM.out.below (below_new V0 (.cells #[.slice none 0 0] 65)))
      have BB' := Lib.hid (BB.out.trans ((below_new V0 (.cells #[.slice none 0 0] 65)).mono BB.out.size))
      clear B5
      have B5 := B5'
      clear B5'
      clear R10
      have R10 := R10'
      clear R10'
      clear R11
      have R11 := R11'
      clear R11'
      clear MM
      have MM := MM'
      clear MM'
      clear BB
      have BB := BB'
      clear BB'
      have B12 := Lib.hid (Box.new V0 #[.slice none 0 0] 65 rfl)
      generalize World.alloc V0 (.cells #[.slice none 0 0] 65) = v1 at *
      generalize World.heap V0 = hp_b12 at *
      generalize hp_b12.size = b12 at *
      refine hK.out _ _ ?_ (fun hHeld => ?_)
      · exact ⟨B5.out.cells2.1.1, B5.out.cells2.1.2, MM.out.cellP HP.out, MM.out.cellV HV.out⟩
      clear hK K
      (try simp only [Act.put])
      (try simp only [List.setIfInBounds_toArray])
      (try simp only [List.set_cons_succ])
      (try simp only [List.set_cons_zero])
      refine wpAnyH_ready (rs := [12]) (by kernel_rfl) (by simp) ?_
      refine AllReadyH.cons (o := { dst := some 13, op := Op.alloc 60, type := 0, pos := "memory.go:121", after := #[], guard := none }) rfl (fun K hK => ?_) AllReadyH.nil
      go_simp
      have hlt_b13 := BB.out.size
      have hlt_b13_B5 := B5.out.lt
      have hlt_b13_R10 := R10.out.lt
      have hlt_b13_R11 := R11.out.lt
      have hlt_b13_B12 := B12.out.lt
      have B5' := Lib.hid (B5.out.below (below_new v1 (.cells #[.map none] 60)))
      have R10' := Lib.hid (R10.out.below (below_new v1 (.cells #[.map none] 60)))
      have R11' := Lib.hid (R11.out.below (below_new v1 (.cells #[.map none] 60)))
      have MM' := Lib.hid (MM.out.below (below_new v1 (.cells #[.map none] 60)))
      have B12' := Lib.hid (B12.out.below (below_new v1 (.cells #[.map none] 60)))
      have BB' := Lib.hid (BB.out.trans ((below_new v1 (.cells #[.map none] 60)).mono BB.out.size))
      clear B5
      have B5 := B5'
      clear B5'
      clear R10
      have R10 := R10'
      clear R10'
      clear R11
      have R11 := R11'
      clear R11'
      clear MM
      have MM := MM'
      clear MM'
      clear B12
      have B12 := B12'
      clear B12'
      clear BB
      have BB := BB'
      clear BB'
      have B13 := Lib.hid (Box.new v1 #[.map none] 60 rfl)
      generalize World.alloc v1 (.cells #[.map none] 60) = v2 at *
      generalize World.heap v1 = hp_b13 at *
      generalize hp_b13.size = b13 at *
      refine hK.out _ _ ?_ (fun hHeld => ?_)
      · exact ⟨B5.out.cells2.1.1, B5.out.cells2.1.2, MM.out.cellP HP.out, MM.out.cellV HV.out⟩
      clear hK K
      (try simp only [Act.put])
      (try simp only [List.setIfInBounds_toArray])
      (try simp only [List.set_cons_succ])
      (try simp only [List.set_cons_zero])
      refine wpAnyH_ready (rs := [13]) (by kernel_rfl) (by simp) ?_
      refine AllReadyH.cons (o := { dst := none, op := Op.store 65 (Operand.tmp 12) (Operand.tmp 21), type := 0, pos := "memory.go:121", after := #[{ on := 11, ground := Ground.data }, { on := 4, ground := Ground.data }, { on := 0, ground := Ground.phase }, { on := 1, ground := Ground.phase }, { on := 2, ground := Ground.phase }, { on := 3, ground := Ground.phase }, { on := 4, ground := Ground.phase }, { on := 5, ground := Ground.textOnly Departure.lateStores }, { on := 6, ground := Ground.textOnly Departure.lateStores }, { on := 7, ground := Ground.textOnly Departure.lateStores }, { on := 8, ground := Ground.textOnly Departure.lateStores }, { on := 9, ground := Ground.textOnly Departure.lateStores }, { on := 10, ground := Ground.textOnly Departure.lateStores }, { on := 11, ground := Ground.phase }, { on := 12, ground := Ground.phase }], guard := none }) rfl (fun K hK => ?_) AllReadyH.nil
      obtain ⟨m0, g0⟩ := B12.out.cells1
      go_simp
      clear m0 g0
      have B5' := Lib.hid (B5.out.only (by omega) ((Only.refl b12 v2).set 0 (.slice ha hn hn)))
      have R10' := Lib.hid (R10.out.only (by omega) ((Only.refl b12 v2).set 0 (.slice ha hn hn)))
      have R11' := Lib.hid (R11.out.only (by omega) ((Only.refl b12 v2).set 0 (.slice ha hn hn)))
      have MM' := Lib.hid (MM.out.only B12.out (by omega) ((Only.refl b12 v2).set 0 (.slice ha hn hn)))
      have B12' := Lib.hid ((B12.out).set 0 (.slice ha hn hn))
      have B13' := Lib.hid (B13.out.only (by omega) ((Only.refl b12 v2).set 0 (.slice ha hn hn)))
      have BB' := Lib.hid ((BB.out).put b12 (by omega) 0 (.slice ha hn hn))
      clear B5
      have B5 := B5'
      clear B5'
      clear R10
      have R10 := R10'
      clear R10'
      clear R11
      have R11 := R11'
      clear R11'
      clear MM
      have MM := MM'
      clear MM'
      clear B12
      have B12 := B12'
      clear B12'
      clear B13
      have B13 := B13'
      clear B13'
      clear BB
      have BB := BB'
      clear BB'
      generalize (World.setCell v2 ⟨b12, 0, none⟩ (.slice ha hn hn)) = v3 at *
      refine hK.out _ _ ?_ (fun hHeld => ?_)
      · exact ⟨B5.out.cells2.1.1, B5.out.cells2.1.2, MM.out.cellP HP.out, MM.out.cellV HV.out⟩
      clear hK K
      (try simp only [Act.put])
      (try simp only [List.setIfInBounds_toArray])
      (try simp only [List.set_cons_succ])
      (try simp only [List.set_cons_zero])
      refine wpAnyH_ready (rs := [14]) (by kernel_rfl) (by simp) ?_
      refine AllReadyH.cons (o := { dst := none, op := Op.store 60 (Operand.tmp 13) (Operand.tmp 27), type := 0, pos := "memory.go:121", after := #[{ on := 12, ground := Ground.data }, { on := 10, ground := Ground.data }, { on := 13, ground := Ground.chain }, { on := 0, ground := Ground.phase }, { on := 1, ground := Ground.phase }, { on := 2, ground := Ground.phase }, { on := 3, ground := Ground.phase }, { on := 4, ground := Ground.phase }, { on := 5, ground := Ground.phase }, { on := 6, ground := Ground.phase }, { on := 7, ground := Ground.phase }, { on := 8, ground := Ground.phase }, { on := 9, ground := Ground.phase }, { on := 10, ground := Ground.phase }, { on := 11, ground := Ground.phase }, { on := 12, ground := Ground.phase }, { on := 13, ground := Ground.phase }], guard := none }) rfl (fun K hK => ?_) AllReadyH.nil
      obtain ⟨m0, g0⟩ := B13.out.cells1
      go_simp
      clear m0 g0
      have B5' := Lib.hid (B5.out.only (by omega) ((Only.refl b13 v3).set 0 (.map vp)))
      have R10' := Lib.hid (R10.out.only (by omega) ((Only.refl b13 v3).set 0 (.map vp)))
      have R11' := Lib.hid (R11.out.only (by omega) ((Only.refl b13 v3).set 0 (.map vp)))
      have MM' := Lib.hid (MM.out.only B13.out (by omega) ((Only.refl b13 v3).set 0 (.map vp)))
      have B12' := Lib.hid (B12.out.only (by omega) ((Only.refl b13 v3).set 0 (.map vp)))
      have B13' := Lib.hid ((B13.out).set 0 (.map vp))
      have BB' := Lib.hid ((BB.out).put b13 (by omega) 0 (.map vp))
      clear B5
      have B5 := B5'
      clear B5'
      clear R10
      have R10 := R10'
      clear R10'
      clear R11
      have R11 := R11'
      clear R11'
      clear MM
      have MM := MM'
      clear MM'
      clear B12
      have B12 := B12'
      clear B12'
      clear B13
      have B13 := B13'
      clear B13'
      clear BB
      have BB := BB'
      clear BB'
      generalize (World.setCell v3 ⟨b13, 0, none⟩ (.map vp)) = v4 at *
      refine hK.out _ _ ?_ (fun hHeld => ?_)
      · exact ⟨B5.out.cells2.1.1, B5.out.cells2.1.2, MM.out.cellP HP.out, MM.out.cellV HV.out⟩
      clear hK K
      (try simp only [Act.put])
      (try simp only [List.setIfInBounds_toArray])
      (try simp only [List.set_cons_succ])
      (try simp only [List.set_cons_zero])
      refine wpAnyH_done (by kernel_rfl) ?_ _
      go_wp2
      go_meet
      case rel => exact ⟨b12, b13, rfl, rfl, by omega, by omega, by omega, by omega, by omega, by omega, by omega, by omega, by omega, B12.out, B13.out, B5.out, R10.out, R11.out, MM.out, BB.out⟩
    refine AllReadyH.cons (o := { dst := some 13, op := Op.alloc 60, type := 0, pos := "memory.go:121", after := #[], guard := none }) rfl (fun K hK => ?_) AllReadyH.nil
    go_simp
    have hlt_b13 := BB.out.size
    have hlt_b13_B5 := B5.out.lt
    have hlt_b13_R10 := R10.out.lt
    have hlt_b13_R11 := R11.out.lt
    have B5' := Lib.hid (B5.out.below (below_new V0 (.cells #[.map none] 60)))
    have R10' := Lib.hid (R10.out.below (below_new V0 (.cells #[.map none] 60)))
    have R11' := Lib.hid (R11.out.below (below_new V0 (.cells #[.map none] 60)))
    have MM' := Lib.hid (MM.out.below (below_new V0 (.cells #[.map none] 60)))
    have BB' := Lib.hid (BB.out.trans ((below_new V0 (.cells #[.map none] 60)).mono BB.out.size))
    clear B5
    have B5 := B5'
    clear B5'
    clear R10
    have R10 := R10'
    clear R10'
    clear R11
    have R11 := R11'
    clear R11'
    clear MM
    have MM := MM'
    clear MM'
    clear BB
    have BB := BB'
    clear BB'
    have B13 := Lib.hid (Box.new V0 #[.map none] 60 rfl)
    generalize World.alloc V0 (.cells #[.map none] 60) = v5 at *
    generalize World.heap V0 = hp_b13 at *
    generalize hp_b13.size = b13 at *
    refine hK.out _ _ ?_ (fun hHeld => ?_)
    · exact ⟨B5.out.cells2.1.1, B5.out.cells2.1.2, MM.out.cellP HP.out, MM.out.cellV HV.out⟩
    clear hK K
    (try simp only [Act.put])
    (try simp only [List.setIfInBounds_toArray])
    (try simp only [List.set_cons_succ])
    (try simp only [List.set_cons_zero])
    refine wpAnyH_ready (rs := [11]) (by kernel_rfl) (by simp) ?_
    refine AllReadyH.cons (o := { dst := some 12, op := Op.alloc 65, type := 0, pos := "memory.go:121", after := #[], guard := none }) rfl (fun K hK => ?_) AllReadyH.nil
    go_simp
    have hlt_b12 := BB.out.size
    have hlt_b12_B5 := B5.out.lt
    have hlt_b12_R10 := R10.out.lt
    have hlt_b12_R11 := R11.out.lt
    have hlt_b12_B13 := B13.out.lt
    have B5' := Lib.hid (B5.out.below (below_new v5 (.cells #[.slice none 0 0] 65)))
    have R10' := Lib.hid (R10.out.below (below_new v5 (.cells #[.slice none 0 0] 65)))
    have R11' := Lib.hid (R11.out.below (below_new v5 (.cells #[.slice none 0 0] 65)))
    have MM' := Lib.hid (MM.out.below (below_new v5 (.cells #[.slice none 0 0] 65)))
    have B13' := Lib.hid (B13.out.below (below_new v5 (.cells #[.slice none 0 0] 65)))
    have BB' := Lib.hid (BB.out.trans ((below_new v5 (.cells #[.slice none 0 0] 65)).mono BB.out.size))
    clear B5
    have B5 := B5'
    clear B5'
    clear R10
    have R10 := R10'
    clear R10'
    clear R11
    have R11 := R11'
    clear R11'
    clear MM
    have MM := MM'
    clear MM'
    clear B13
    have B13 := B13'
    clear B13'
    clear BB
    have BB := BB'
    clear BB'
    have B12 := Lib.hid (Box.new v5 #[.slice none 0 0] 65 rfl)
    generalize World.alloc v5 (.cells #[.slice none 0 0] 65) = v6 at *
    generalize World.heap v5 = hp_b12 at *
    generalize hp_b12.size = b12 at *
    refine hK.out _ _ ?_ (fun hHeld => ?_)
    · exact ⟨B5.out.cells2.1.1, B5.out.cells2.1.2, MM.out.cellP HP.out, MM.out.cellV HV.out⟩
    clear hK K
    (try simp only [Act.put])
    (try simp only [List.setIfInBounds_toArray])
    (try simp only [List.set_cons_succ])
    (try simp only [List.set_cons_zero])
    refine wpAnyH_ready (rs := [13]) (by kernel_rfl) (by simp) ?_
    refine AllReadyH.cons (o := { dst := none, op := Op.store 65 (Operand.tmp 12) (Operand.tmp 21), type := 0, pos := "memory.go:121", after := #[{ on := 11, ground := Ground.data }, { on := 4, ground := Ground.data }, { on := 0, ground := Ground.phase }, { on := 1, ground := Ground.phase }, { on := 2, ground := Ground.phase }, { on := 3, ground := Ground.phase }, { on := 4, ground := Ground.phase }, { on := 5, ground := Ground.textOnly Departure.lateStores }, { on := 6, ground := Ground.textOnly Departure.lateStores }, { on := 7, ground := Ground.textOnly Departure.lateStores }, { on := 8, ground := Ground.textOnly Departure.lateStores }, { on := 9, ground := Ground.textOnly Departure.lateStores }, { on := 10, ground := Ground.textOnly Departure.lateStores }, { on := 11, ground := Ground.phase }, { on := 12, ground := Ground.phase }], guard := none }) rfl (fun K hK => ?_) AllReadyH.nil
    obtain ⟨m0, g0⟩ := B12.out.cells1
    go_simp
    clear m0 g0
    have B5' := Lib.hid (B5.out.only (by omega) ((Only.refl b12 v6).set 0 (.slice ha hn hn)))
    have R10' := Lib.hid (R10.out.only (by omega) ((Only.refl b12 v6).set 0 (.slice ha hn hn)))
    have R11' := Lib.hid (R11.out.only (by omega) ((Only.refl b12 v6).set 0 (.slice ha hn hn)))
    have MM' := Lib.hid (MM.out.only B12.out (by omega) ((Only.refl b12 v6).set 0 (.slice ha hn hn)))
    have B13' := Lib.hid (B13.out.only (by omega) ((Only.refl b12 v6).set 0 (.slice ha hn hn)))
    have B12' := Lib.hid ((B12.out).set 0 (.slice ha hn hn))
    have BB' := Lib.hid ((BB.out).put b12 (by omega) 0 (.slice ha hn hn))
    clear B5
    have B5 := B5'
    clear B5'
    clear R10
    have R10 := R10'
    clear R10'
    clear R11
    have R11 := R11'
    clear R11'
    clear MM
    have MM := MM'
    clear MM'
    clear B13
    have B13 := B13'
    clear B13'
    clear B12
    have B12 := B12'
    clear B12'
    clear BB
    have BB := BB'
    clear BB'
    generalize (World.setCell v6 ⟨b12, 0, none⟩ (.slice ha hn hn)) = v7 at *
    refine hK.out _ _ ?_ (fun hHeld => ?_)
    · exact ⟨B5.out.cells2.1.1, B5.out.cells2.1.2, MM.out.cellP HP.out, MM.out.cellV HV.out⟩
    clear hK K
    (try simp only [Act.put])
    (try simp only [List.setIfInBounds_toArray])
    (try simp only [List.set_cons_succ])
    (try simp only [List.set_cons_zero])
    refine wpAnyH_ready (rs := [14]) (by kernel_rfl) (by simp) ?_
    refine AllReadyH.cons (o := { dst := none, op := Op.store 60 (Operand.tmp 13) (Operand.tmp 27), type := 0, pos := "memory.go:121", after := #[{ on := 12, ground := Ground.data }, { on := 10, ground := Ground.data }, { on := 13, ground := Ground.chain }, { on := 0, ground := Ground.phase }, { on := 1, ground := Ground.phase }, { on := 2, ground := Ground.phase }, { on := 3, ground := Ground.phase }, { on := 4, ground := Ground.phase }, { on := 5, ground := Ground.phase }, { on := 6, ground := Ground.phase }, { on := 7, ground := Ground.phase }, { on := 8, ground := Ground.phase }, { on := 9, ground := Ground.phase }, { on := 10, ground := Ground.phase }, { on := 11, ground := Ground.phase }, { on := 12, ground := Ground.phase }, { on := 13, ground := Ground.phase }], guard := none }) rfl (fun K hK => ?_) AllReadyH.nil
    obtain ⟨m0, g0⟩ := B13.out.cells1
    go_simp
    clear m0 g0
    have B5' := Lib.hid (B5.out.only (by omega) ((Only.refl b13 v7).set 0 (.map vp)))
    have R10' := Lib.hid (R10.out.only (by omega) ((Only.refl b13 v7).set 0 (.map vp)))
    have R11' := Lib.hid (R11.out.only (by omega) ((Only.refl b13 v7).set 0 (.map vp)))
    have MM' := Lib.hid (MM.out.only B13.out (by omega) ((Only.refl b13 v7).set 0 (.map vp)))
    have B13' := Lib.hid ((B13.out).set 0 (.map vp))
    have B12' := Lib.hid (B12.out.only (by omega) ((Only.refl b13 v7).set 0 (.map vp)))
    have BB' := Lib.hid ((BB.out).put b13 (by omega) 0 (.map vp))
    clear B5
    have B5 := B5'
    clear B5'
    clear R10
    have R10 := R10'
    clear R10'
    clear R11
    have R11 := R11'
    clear R11'
    clear MM
    have MM := MM'
    clear MM'
    clear B13
    have B13 := B13'
    clear B13'
    clear B12
    have B12 := B12'
    clear B12'
    clear BB
    have BB := BB'
    clear BB'
    generalize (World.setCell v7 ⟨b13, 0, none⟩ (.map vp)) = v8 at *
    refine hK.out _ _ ?_ (fun hHeld => ?_)
    · exact ⟨B5.out.cells2.1.1, B5.out.cells2.1.2, MM.out.cellP HP.out, MM.out.cellV HV.out⟩
    clear hK K
    (try simp only [Act.put])
    (try simp only [List.setIfInBounds_toArray])
    (try simp only [List.set_cons_succ])
    (try simp only [List.set_cons_zero])
    refine wpAnyH_done (by kernel_rfl) ?_ _
    go_wp2
    go_meet
    case rel => exact ⟨b12, b13, rfl, rfl, by omega, by omega, by omega, by omega, by omega, by omega, by omega, by omega, by omega, B12.out, B13.out, B5.out, R10.out, R11.out, MM.out, BB.out⟩
  case rest =>
    obtain ⟨b12, b13, rfl, rfl, n1, n2, n3, n4, n5, n6, n7, n8, n9, B12', B13', B5', R10', R11', MM', BB'⟩ := hcut
    clear B5 R10 R11 MM BB
    have B12 := Lib.hid B12'
    clear B12'
    have B13 := Lib.hid B13'
    clear B13'
    have B5 := Lib.hid B5'
    clear B5'
    have R10 := Lib.hid R10'
    clear R10'
    have R11 := Lib.hid R11'
    clear R11'
    have MM := Lib.hid MM'
    clear MM'
    have BB := Lib.hid BB'
    clear BB'
    go_upto_region 2 with fail
    have B12' := Lib.hid (B12.out.below ((Below.refl _ _).drew))
    have B13' := Lib.hid (B13.out.below ((Below.refl _ _).drew))
    have B5' := Lib.hid (B5.out.below ((Below.refl _ _).drew))
    have R10' := Lib.hid (R10.out.below ((Below.refl _ _).drew))
    have R11' := Lib.hid (R11.out.below ((Below.refl _ _).drew))
    have MM' := Lib.hid (MM.out.below ((Below.refl _ _).drew))
    have BB' := Lib.hid (BB.out.trans (((Below.refl _ _).drew).mono BB.out.size))
    clear B12
    have B12 := B12'
    clear B12'
    clear B13
    have B13 := B13'
    clear B13'
    clear B5
    have B5 := B5'
    clear B5'
    clear R10
    have R10 := R10'
    clear R10'
    clear R11
    have R11 := R11'
    clear R11'
    clear MM
    have MM := MM'
    clear MM'
    clear BB
    have BB := BB'
    clear BB'
    refine wp_region_held_drew (S := fun w' => w'.cell? ⟨b12, 0, none⟩ = some (.slice ha hn hn) ∧ w'.cell? ⟨b13, 0, none⟩ = some (.map vp)) (by kernel_rfl) ⟨B12.out.cells1.1, B13.out.cells1.1⟩ (fun hHeld => ?_)
    generalize World.drew wc = V9 at *
    refine wpAnyH_take (i := 0) (oi := { dst := some 28, op := Op.move (Operand.tmp 3), type := 108, pos := "memory.go:122", after := #[], guard := none }) (v := ?d10_1xv0) rfl (by kernel_rfl) (by kernel_rfl) (by kernel_rfl) (fun _ _ _ h => h) (Or.inl ⟨by rfl, ?d10_1xy0⟩) (by assumption) ?d10_1xr0
    case d10_1xy0 => (intro w hSw; (try dsimp only at hSw); go_simp; try with_reducible rfl)
    (try simp only [Act.put])
    (try simp only [List.setIfInBounds_toArray])
    (try simp only [List.set_cons_succ])
    (try simp only [List.set_cons_zero])
    refine wpAnyH_take (i := 1) (oi := { dst := some 29, op := Op.load 65 (Operand.tmp 12), type := 65, pos := "memory.go:122", after := #[], guard := none }) (v := ?d10_2xv1) rfl (by kernel_rfl) (by kernel_rfl) (by kernel_rfl) (fun _ _ _ h => h) (Or.inl ⟨by rfl, ?d10_2xy1⟩) (by assumption) ?d10_2xr1
    case d10_2xy1 => (intro w hSw; (try dsimp only at hSw); go_simp; try with_reducible rfl)
    (try simp only [Act.put])
    (try simp only [List.setIfInBounds_toArray])
    (try simp only [List.set_cons_succ])
    (try simp only [List.set_cons_zero])
    refine wpAnyH_take (i := 2) (oi := { dst := some 30, op := Op.load 60 (Operand.tmp 13), type := 60, pos := "memory.go:122", after := #[], guard := none }) (v := ?d10_3xv2) rfl (by kernel_rfl) (by kernel_rfl) (by kernel_rfl) (fun _ _ _ h => h) (Or.inl ⟨by rfl, ?d10_3xy2⟩) (by assumption) ?d10_3xr2
    case d10_3xy2 => (intro w hSw; (try dsimp only at hSw); go_simp; try with_reducible rfl)
    (try simp only [Act.put])
    (try simp only [List.setIfInBounds_toArray])
    (try simp only [List.set_cons_succ])
    (try simp only [List.set_cons_zero])
    refine wpAnyH_take (i := 3) (oi := { dst := some 31, op := Op.move (Operand.tmp 2), type := 42, pos := "memory.go:122", after := #[], guard := none }) (v := ?d10_4xv3) rfl (by kernel_rfl) (by kernel_rfl) (by kernel_rfl) (fun _ _ _ h => h) (Or.inl ⟨by rfl, ?d10_4xy3⟩) (by assumption) ?d10_4xr3
    case d10_4xy3 => (intro w hSw; (try dsimp only at hSw); go_simp; try with_reducible rfl)
    (try simp only [Act.put])
    (try simp only [List.setIfInBounds_toArray])
    (try simp only [List.set_cons_succ])
    (try simp only [List.set_cons_zero])
    refine wpAnyH_ready (rs := [4]) (by kernel_rfl) (by simp) ?_
    refine AllReadyH.cons (o := { dst := some 32, op := Op.call { callee := Callee.value (Operand.func 19), args := #[Operand.tmp 30, Operand.tmp 31], argTypes := #[60, 42] }, type := 3, pos := "memory.go:122", after := #[{ on := 2, ground := Ground.data }, { on := 3, ground := Ground.data }], guard := none }) rfl (fun K hK => ?_) AllReadyH.nil
    go_simp
    go_at_call 19
    refine (at_b vp vm p _ (by omega) (by omega) (MM.out.atV HV.out)).mono ?_
    rintro e v10 ⟨rfl, hb⟩
    have B12' := Lib.hid (B12.out.below (hb))
    have B13' := Lib.hid (B13.out.below (hb))
    have B5' := Lib.hid (B5.out.below (hb))
    have R10' := Lib.hid (R10.out.below (hb))
    have R11' := Lib.hid (R11.out.below (hb))
    have MM' := Lib.hid (MM.out.below (hb))
    have BB' := Lib.hid (BB.out.trans ((hb).mono BB.out.size))
    clear B12
    have B12 := B12'
    clear B12'
    clear B13
    have B13 := B13'
    clear B13'
    clear B5
    have B5 := B5'
    clear B5'
    clear R10
    have R10 := R10'
    clear R10'
    clear R11
    have R11 := R11'
    clear R11'
    clear MM
    have MM := MM'
    clear MM'
    clear BB
    have BB := BB'
    clear BB'
    clear hb
    go_simp
    refine hK.out _ _ ?_ (fun hHeld => ?_)
    · exact ⟨B12.out.cells1.1, B13.out.cells1.1⟩
    clear hK K
    (try simp only [Act.put])
    (try simp only [List.setIfInBounds_toArray])
    (try simp only [List.set_cons_succ])
    (try simp only [List.set_cons_zero])
    refine wpAnyH_ready (rs := [5]) (by kernel_rfl) (by simp) ?_
    refine AllReadyH.cons (o := { dst := some 33, op := Op.call { callee := Callee.value (Operand.tmp 28), args := #[Operand.tmp 29, Operand.tmp 32], argTypes := #[65, 3] }, type := 3, pos := "memory.go:122", after := #[{ on := 0, ground := Ground.data }, { on := 1, ground := Ground.data }, { on := 4, ground := Ground.data }, { on := 4, ground := Ground.chain }], guard := none }) rfl (fun K hK => ?_) AllReadyH.nil
    go_simp
    go_at_call 41
    refine (chosen_any z ha hn hn (atL vm p) _ (by omega) (by omega) (by omega) z0 z1).mono ?_
    rintro e v11 ⟨rfl, hb⟩
    have B12' := Lib.hid (B12.out.below (hb))
    have B13' := Lib.hid (B13.out.below (hb))
    have B5' := Lib.hid (B5.out.below (hb))
    have R10' := Lib.hid (R10.out.below (hb))
    have R11' := Lib.hid (R11.out.below (hb))
    have MM' := Lib.hid (MM.out.below (hb))
    have BB' := Lib.hid (BB.out.trans ((hb).mono BB.out.size))
    clear B12
    have B12 := B12'
    clear B12'
    clear B13
    have B13 := B13'
    clear B13'
    clear B5
    have B5 := B5'
    clear B5'
    clear R10
    have R10 := R10'
    clear R10'
    clear R11
    have R11 := R11'
    clear R11'
    clear MM
    have MM := MM'
    clear MM'
    clear BB
    have BB := BB'
    clear BB'
    clear hb
    rw [← HI.out]
    go_simp
    refine hK.out _ _ ?_ (fun hHeld => ?_)
    · exact ⟨B12.out.cells1.1, B13.out.cells1.1⟩
    clear hK K
    (try simp only [Act.put])
    (try simp only [List.setIfInBounds_toArray])
    (try simp only [List.set_cons_succ])
    (try simp only [List.set_cons_zero])
    refine wpAnyH_ready (rs := [6]) (by kernel_rfl) (by simp) ?_
    refine AllReadyH.cons (o := { dst := some 14, op := Op.assign (Operand.tmp 33), type := 3, pos := "memory.go:122", after := #[{ on := 5, ground := Ground.data }, { on := 5, ground := Ground.chain }, { on := 0, ground := Ground.phase }, { on := 1, ground := Ground.phase }, { on := 2, ground := Ground.phase }, { on := 3, ground := Ground.phase }, { on := 4, ground := Ground.phase }, { on := 5, ground := Ground.phase }], guard := none }) rfl (fun K hK => ?_) AllReadyH.nil
    go_simp
    refine hK.out _ _ ?_ (fun hHeld => ?_)
    · exact ⟨B12.out.cells1.1, B13.out.cells1.1⟩
    clear hK K
    (try simp only [Act.put])
    (try simp only [List.setIfInBounds_toArray])
    (try simp only [List.set_cons_succ])
    (try simp only [List.set_cons_zero])
    refine wpAnyH_done (by kernel_rfl) ?_ _
    go_wp2_with fail
    refine (hat_in _ q i _ _ (MM.out.atP HP.out) HX.out (by rw [HQ.out]; omega)).mono ?_
    rintro e a0 ⟨rfl, hb⟩
    have B12' := Lib.hid (B12.out.below (hb))
    have B13' := Lib.hid (B13.out.below (hb))
    have B5' := Lib.hid (B5.out.below (hb))
    have R10' := Lib.hid (R10.out.below (hb))
    have R11' := Lib.hid (R11.out.below (hb))
    have MM' := Lib.hid (MM.out.below (hb))
    have BB' := Lib.hid (BB.out.trans ((hb).mono BB.out.size))
    clear B12
    have B12 := B12'
    clear B12'
    clear B13
    have B13 := B13'
    clear B13'
    clear B5
    have B5 := B5'
    clear B5'
    clear R10
    have R10 := R10'
    clear R10'
    clear R11
    have R11 := R11'
    clear R11'
    clear MM
    have MM := MM'
    clear MM'
    clear BB
    have BB := BB'
    clear BB'
    clear hb
    simp only [msgV]
    have PX := Lib.hid ((MM.out.atP HP.out).1 _ (List.mem_of_getElem? HX.out))
    simp only at PX
    go_upto_region 4 with fail
    have hlt_b15 := BB.out.size
    have hlt_b15_B12 := B12.out.lt
    have hlt_b15_B13 := B13.out.lt
    have hlt_b15_B5 := B5.out.lt
    have hlt_b15_R10 := R10.out.lt
    have hlt_b15_R11 := R11.out.lt
    have B12' := Lib.hid (B12.out.below (below_new a0 (.cells #[.int .i64 xa, .int .u32 xb, .int .u32 xc, .int .i64 xd, .map xp] 70)))
    have B13' := Lib.hid (B13.out.below (below_new a0 (.cells #[.int .i64 xa, .int .u32 xb, .int .u32 xc, .int .i64 xd, .map xp] 70)))
    have B5' := Lib.hid (B5.out.below (below_new a0 (.cells #[.int .i64 xa, .int .u32 xb, .int .u32 xc, .int .i64 xd, .map xp] 70)))
    have R10' := Lib.hid (R10.out.below (below_new a0 (.cells #[.int .i64 xa, .int .u32 xb, .int .u32 xc, .int .i64 xd, .map xp] 70)))
    have R11' := Lib.hid (R11.out.below (below_new a0 (.cells #[.int .i64 xa, .int .u32 xb, .int .u32 xc, .int .i64 xd, .map xp] 70)))
    have MM' := Lib.hid (MM.out.below (below_new a0 (.cells #[.int .i64 xa, .int .u32 xb, .int .u32 xc, .int .i64 xd, .map xp] 70)))
    have PX' := Lib.hid (PX.out.below (below_new a0 (.cells #[.int .i64 xa, .int .u32 xb, .int .u32 xc, .int .i64 xd, .map xp] 70)))
    have BB' := Lib.hid (BB.out.trans ((below_new a0 (.cells #[.int .i64 xa, .int .u32 xb, .int .u32 xc, .int .i64 xd, .map xp] 70)).mono BB.out.size))
    clear B12
    have B12 := B12'
    clear B12'
    clear B13
    have B13 := B13'
    clear B13'
    clear B5
    have B5 := B5'
    clear B5'
    clear R10
    have R10 := R10'
    clear R10'
    clear R11
    have R11 := R11'
    clear R11'
    clear MM
    have MM := MM'
    clear MM'
    clear PX
    have PX := PX'
    clear PX'
    clear BB
    have BB := BB'
    clear BB'
    have B15 := Lib.hid (Box.new a0 #[.int .i64 xa, .int .u32 xb, .int .u32 xc, .int .i64 xd, .map xp] 70 rfl)
    have hsz_b15 : (World.alloc a0 (.cells #[.int .i64 xa, .int .u32 xb, .int .u32 xc, .int .i64 xd, .map xp] 70)).heap.size = (World.heap a0).size + 1 := by simp
    generalize World.alloc a0 (.cells #[.int .i64 xa, .int .u32 xb, .int .u32 xc, .int .i64 xd, .map xp] 70) = a1 at *
    generalize World.heap a0 = hp_b15 at *
    generalize hp_b15.size = b15 at *
    have kc0 := B13.out.cells1.1
    go_wp2_with fail
    clear kc0
    have hlt13 := B13.out.lt
    refine (with_any vp vm p i _ (by omega) (by omega) (by omega) (by omega) (MM.out.atV HV.out)).mono ?_
    rintro e a2 ⟨bw, hbw, rfl, hv1, hb⟩
    have B12' := Lib.hid (B12.out.below (hb))
    have B13' := Lib.hid (B13.out.below (hb))
    have B5' := Lib.hid (B5.out.below (hb))
    have R10' := Lib.hid (R10.out.below (hb))
    have R11' := Lib.hid (R11.out.below (hb))
    have MM' := Lib.hid (MM.out.below (hb))
    have PX' := Lib.hid (PX.out.below (hb))
    have B15' := Lib.hid (B15.out.below (hb))
    have BB' := Lib.hid (BB.out.trans ((hb).mono BB.out.size))
    clear B12
    have B12 := B12'
    clear B12'
    clear B13
    have B13 := B13'
    clear B13'
    clear B5
    have B5 := B5'
    clear B5'
    clear R10
    have R10 := R10'
    clear R10'
    clear R11
    have R11 := R11'
    clear R11'
    clear MM
    have MM := MM'
    clear MM'
    clear PX
    have PX := PX'
    clear PX'
    clear B15
    have B15 := B15'
    clear B15'
    clear BB
    have BB := BB'
    clear BB'
    clear hb
    have P1 := Lib.hid (hv1)
    clear hv1
    obtain ⟨m0, g0⟩ := B13.out.cells1
    go_upto_region 5 with fail
    clear m0 g0
    have B12' := Lib.hid (B12.out.only (by omega) ((Only.refl b13 a2).set 0 (.map (some bw))))
    have B13' := Lib.hid ((B13.out).set 0 (.map (some bw)))
    have B5' := Lib.hid (B5.out.only (by omega) ((Only.refl b13 a2).set 0 (.map (some bw))))
    have R10' := Lib.hid (R10.out.only (by omega) ((Only.refl b13 a2).set 0 (.map (some bw))))
    have R11' := Lib.hid (R11.out.only (by omega) ((Only.refl b13 a2).set 0 (.map (some bw))))
    have MM' := Lib.hid (MM.out.only B13.out (by omega) ((Only.refl b13 a2).set 0 (.map (some bw))))
    have PX' := Lib.hid (PX.out.only B13.out ((Only.refl b13 a2).set 0 (.map (some bw))))
    have B15' := Lib.hid (B15.out.only (by omega) ((Only.refl b13 a2).set 0 (.map (some bw))))
    have P1' := Lib.hid (P1.out.only B13.out ((Only.refl b13 a2).set 0 (.map (some bw))))
    have BB' := Lib.hid ((BB.out).put b13 (by omega) 0 (.map (some bw)))
    clear B12
    have B12 := B12'
    clear B12'
    clear B13
    have B13 := B13'
    clear B13'
    clear B5
    have B5 := B5'
    clear B5'
    clear R10
    have R10 := R10'
    clear R10'
    clear R11
    have R11 := R11'
    clear R11'
    clear MM
    have MM := MM'
    clear MM'
    clear PX
    have PX := PX'
    clear PX'
    clear B15
    have B15 := B15'
    clear B15'
    clear P1
    have P1 := P1'
    clear P1'
    clear BB
    have BB := BB'
    clear BB'
    generalize (World.setCell a2 ⟨b13, 0, none⟩ (.map (some bw))) = s12 at *
    go_upto_region 7 with fail
    have B12' := Lib.hid (B12.out.below ((Below.refl _ _).drew))
    have B13' := Lib.hid (B13.out.below ((Below.refl _ _).drew))
    have B5' := Lib.hid (B5.out.below ((Below.refl _ _).drew))
    have R10' := Lib.hid (R10.out.below ((Below.refl _ _).drew))
    have R11' := Lib.hid (R11.out.below ((Below.refl _ _).drew))
    have MM' := Lib.hid (MM.out.below ((Below.refl _ _).drew))
    have PX' := Lib.hid (PX.out.below ((Below.refl _ _).drew))
    have B15' := Lib.hid (B15.out.below ((Below.refl _ _).drew))
    have P1' := Lib.hid (P1.out.below ((Below.refl _ _).drew))
    have BB' := Lib.hid (BB.out.trans (((Below.refl _ _).drew).mono BB.out.size))
    clear B12
    have B12 := B12'
    clear B12'
    clear B13
    have B13 := B13'
    clear B13'
    clear B5
    have B5 := B5'
    clear B5'
    clear R10
    have R10 := R10'
    clear R10'
    clear R11
    have R11 := R11'
    clear R11'
    clear MM
    have MM := MM'
    clear MM'
    clear PX
    have PX := PX'
    clear PX'
    clear B15
    have B15 := B15'
    clear B15'
    clear P1
    have P1 := P1'
    clear P1'
    clear BB
    have BB := BB'
    clear BB'
    refine wp_region_held_drew (S := fun w' => w'.cell? ⟨b5, 0, none⟩ = some (.slice (some ⟨bP, 0, none⟩) np np) ∧ w'.cell? ⟨b5, 1, none⟩ = some (.slice (some ⟨bV, 0, none⟩) nv nv) ∧ w'.cell? ⟨b13, 0, none⟩ = some (.map (some bw)) ∧ w'.cell? ⟨b15, 0, none⟩ = some (.int .i64 xa) ∧ w'.cell? ⟨b15, 1, none⟩ = some (.int .u32 xb) ∧ w'.cell? ⟨b15, 2, none⟩ = some (.int .u32 xc) ∧ w'.cell? ⟨b15, 3, none⟩ = some (.int .i64 xd) ∧ w'.cell? ⟨b15, 4, none⟩ = some (.map xp)) (by kernel_rfl) ⟨B5.out.cells2.1.1, B5.out.cells2.1.2, B13.out.cells1.1, B15.out.cell 0, B15.out.cell 1, B15.out.cell 2, B15.out.cell 3, B15.out.cell 4⟩ (fun hHeld => ?_)
    generalize World.drew s12 = V13 at *
    refine wpAnyH_take (i := 0) (oi := { dst := some 49, op := Op.fieldAddr 31 (Operand.tmp 5) 0, type := 0, pos := "memory.go:128", after := #[], guard := none }) (v := ?d14_1xv0) rfl (by kernel_rfl) (by kernel_rfl) (by kernel_rfl) (fun _ _ _ h => h) (Or.inl ⟨by rfl, ?d14_1xy0⟩) (by assumption) ?d14_1xr0
    case d14_1xy0 => (intro w hSw; (try dsimp only at hSw); go_simp; try with_reducible rfl)
    (try simp only [Act.put])
    (try simp only [List.setIfInBounds_toArray])
    (try simp only [List.set_cons_succ])
    (try simp only [List.set_cons_zero])
    refine wpAnyH_take (i := 1) (oi := { dst := some 50, op := Op.load 28 (Operand.tmp 49), type := 28, pos := "memory.go:128", after := #[{ on := 0, ground := Ground.data }], guard := none }) (v := ?d14_2xv1) rfl (by kernel_rfl) (by kernel_rfl) (by kernel_rfl) (fun _ _ _ h => h) (Or.inl ⟨by rfl, ?d14_2xy1⟩) (by assumption) ?d14_2xr1
    case d14_2xy1 => (intro w hSw; (try dsimp only at hSw); go_simp; try with_reducible rfl)
    (try simp only [Act.put])
    (try simp only [List.setIfInBounds_toArray])
    (try simp only [List.set_cons_succ])
    (try simp only [List.set_cons_zero])
    refine wpAnyH_take (i := 2) (oi := { dst := some 51, op := Op.fieldAddr 31 (Operand.tmp 5) 1, type := 0, pos := "memory.go:128", after := #[], guard := none }) (v := ?d14_3xv2) rfl (by kernel_rfl) (by kernel_rfl) (by kernel_rfl) (fun _ _ _ h => h) (Or.inl ⟨by rfl, ?d14_3xy2⟩) (by assumption) ?d14_3xr2
    case d14_3xy2 => (intro w hSw; (try dsimp only at hSw); go_simp; try with_reducible rfl)
    (try simp only [Act.put])
    (try simp only [List.setIfInBounds_toArray])
    (try simp only [List.set_cons_succ])
    (try simp only [List.set_cons_zero])
    refine wpAnyH_take (i := 3) (oi := { dst := some 52, op := Op.load 29 (Operand.tmp 51), type := 29, pos := "memory.go:128", after := #[{ on := 2, ground := Ground.data }], guard := none }) (v := ?d14_4xv3) rfl (by kernel_rfl) (by kernel_rfl) (by kernel_rfl) (fun _ _ _ h => h) (Or.inl ⟨by rfl, ?d14_4xy3⟩) (by assumption) ?d14_4xr3
    case d14_4xy3 => (intro w hSw; (try dsimp only at hSw); go_simp; try with_reducible rfl)
    (try simp only [Act.put])
    (try simp only [List.setIfInBounds_toArray])
    (try simp only [List.set_cons_succ])
    (try simp only [List.set_cons_zero])
    refine wpAnyH_take (i := 4) (oi := { dst := some 53, op := Op.move (Operand.tmp 1), type := 3, pos := "memory.go:128", after := #[], guard := none }) (v := ?d14_5xv4) rfl (by kernel_rfl) (by kernel_rfl) (by kernel_rfl) (fun _ _ _ h => h) (Or.inl ⟨by rfl, ?d14_5xy4⟩) (by assumption) ?d14_5xr4
    case d14_5xy4 => (intro w hSw; (try dsimp only at hSw); go_simp; try with_reducible rfl)
    (try simp only [Act.put])
    (try simp only [List.setIfInBounds_toArray])
    (try simp only [List.set_cons_succ])
    (try simp only [List.set_cons_zero])
    refine wpAnyH_take (i := 5) (oi := { dst := some 54, op := Op.binOp BinOp.sub 3 (Operand.tmp 53) (Operand.const (Value.int IntKind.i64 1)) 3, type := 3, pos := "memory.go:128", after := #[{ on := 4, ground := Ground.data }], guard := none }) (v := ?d14_6xv5) rfl (by kernel_rfl) (by kernel_rfl) (by kernel_rfl) (fun _ _ _ h => h) (Or.inl ⟨by rfl, ?d14_6xy5⟩) (by assumption) ?d14_6xr5
    case d14_6xy5 => (intro w hSw; (try dsimp only at hSw); go_simp; try with_reducible rfl)
    (try simp only [Act.put])
    (try simp only [List.setIfInBounds_toArray])
    (try simp only [List.set_cons_succ])
    (try simp only [List.set_cons_zero])
    refine wpAnyH_take (i := 6) (oi := { dst := some 55, op := Op.load 60 (Operand.tmp 13), type := 60, pos := "memory.go:128", after := #[], guard := none }) (v := ?d14_7xv6) rfl (by kernel_rfl) (by kernel_rfl) (by kernel_rfl) (fun _ _ _ h => h) (Or.inl ⟨by rfl, ?d14_7xy6⟩) (by assumption) ?d14_7xr6
    case d14_7xy6 => (intro w hSw; (try dsimp only at hSw); go_simp; try with_reducible rfl)
    (try simp only [Act.put])
    (try simp only [List.setIfInBounds_toArray])
    (try simp only [List.set_cons_succ])
    (try simp only [List.set_cons_zero])
    refine wpAnyH_take (i := 9) (oi := { dst := some 58, op := Op.fieldAddr 70 (Operand.tmp 15) 0, type := 0, pos := "memory.go:128", after := #[{ on := 11, ground := Ground.gcOnly Departure.lateStores }], guard := none }) (v := ?d14_8xv9) rfl (by kernel_rfl) (by kernel_rfl) (by kernel_rfl) (fun _ _ _ h => h) (Or.inl ⟨by rfl, ?d14_8xy9⟩) (by assumption) ?d14_8xr9
    case d14_8xy9 => (intro w hSw; (try dsimp only at hSw); go_simp; try with_reducible rfl)
    (try simp only [Act.put])
    (try simp only [List.setIfInBounds_toArray])
    (try simp only [List.set_cons_succ])
    (try simp only [List.set_cons_zero])
    refine wpAnyH_take (i := 10) (oi := { dst := some 59, op := Op.load 45 (Operand.tmp 58), type := 45, pos := "memory.go:128", after := #[{ on := 9, ground := Ground.data }, { on := 11, ground := Ground.gcOnly Departure.lateStores }], guard := none }) (v := ?d14_9xv10) rfl (by kernel_rfl) (by kernel_rfl) (by kernel_rfl) (fun _ _ _ h => h) (Or.inl ⟨by rfl, ?d14_9xy10⟩) (by assumption) ?d14_9xr10
    case d14_9xy10 => (intro w hSw; (try dsimp only at hSw); go_simp; try with_reducible rfl)
    (try simp only [Act.put])
    (try simp only [List.setIfInBounds_toArray])
    (try simp only [List.set_cons_succ])
    (try simp only [List.set_cons_zero])
    refine wpAnyH_ready (rs := [7]) (by kernel_rfl) (by simp) ?_
    refine AllReadyH.cons (o := { dst := some 56, op := Op.call { callee := Callee.value (Operand.func 53), args := #[Operand.tmp 52, Operand.tmp 54, Operand.tmp 55], argTypes := #[29, 3, 60] }, type := 29, pos := "memory.go:128", after := #[{ on := 3, ground := Ground.data }, { on := 5, ground := Ground.data }, { on := 6, ground := Ground.data }], guard := none }) rfl (fun K hK => ?_) AllReadyH.nil
    go_simp
    go_at_call 53
    (try rw [hwk])
    have hltr10 := R10.out.lt
    have hltr11 := R11.out.lt
    refine (repl_v _ _ k (some bw) _ (MM.out.rowV E2.out) (oneV_cells V) (by rw [List.length_map, E2.out]; omega) (by rw [List.length_map, E2.out]; omega)).mono ?_
    rintro e v14 ⟨bN, hbN, rfl, hr, hb⟩
    have B12' := Lib.hid (B12.out.below (hb))
    have B13' := Lib.hid (B13.out.below (hb))
    have B5' := Lib.hid (B5.out.below (hb))
    have R10' := Lib.hid (R10.out.below (hb))
    have R11' := Lib.hid (R11.out.below (hb))
    have MM' := Lib.hid (MM.out.below (hb))
    have PX' := Lib.hid (PX.out.below (hb))
    have B15' := Lib.hid (B15.out.below (hb))
    have P1' := Lib.hid (P1.out.below (hb))
    have BB' := Lib.hid (BB.out.trans ((hb).mono BB.out.size))
    clear B12
    have B12 := B12'
    clear B12'
    clear B13
    have B13 := B13'
    clear B13'
    clear B5
    have B5 := B5'
    clear B5'
    clear R10
    have R10 := R10'
    clear R10'
    clear R11
    have R11 := R11'
    clear R11'
    clear MM
    have MM := MM'
    clear MM'
    clear PX
    have PX := PX'
    clear PX'
    clear B15
    have B15 := B15'
    clear B15'
    clear P1
    have P1 := P1'
    clear P1'
    clear BB
    have BB := BB'
    clear BB'
    clear hb
    have RN := Lib.hid (hr)
    clear hr
    rw [show ((V.map fun x => Value.map x.1).set k (.map (some bw))).length = nv by rw [List.length_set, List.length_map, E2.out]] at RN ⊢
    go_simp
    refine hK.out _ _ ?_ (fun hHeld => ?_)
    · exact ⟨B5.out.cells2.1.1, B5.out.cells2.1.2, B13.out.cells1.1, B15.out.cell 0, B15.out.cell 1, B15.out.cell 2, B15.out.cell 3, B15.out.cell 4⟩
    clear hK K
    (try simp only [Act.put])
    (try simp only [List.setIfInBounds_toArray])
    (try simp only [List.set_cons_succ])
    (try simp only [List.set_cons_zero])
    refine wpAnyH_take (i := 8) (oi := { dst := some 57, op := Op.build 31 #[(0, Operand.tmp 50), (1, Operand.tmp 56)], type := 31, pos := "memory.go:128", after := #[{ on := 1, ground := Ground.data }, { on := 7, ground := Ground.data }], guard := none }) (v := ?d15_10xv8) rfl (by kernel_rfl) (by kernel_rfl) (by kernel_rfl) (fun _ _ _ h => h) (Or.inl ⟨by rfl, ?d15_10xy8⟩) (by assumption) ?d15_10xr8
    case d15_10xy8 => (intro w hSw; (try dsimp only at hSw); go_simp; try with_reducible rfl)
    (try simp only [Act.put])
    (try simp only [List.setIfInBounds_toArray])
    (try simp only [List.set_cons_succ])
    (try simp only [List.set_cons_zero])
    refine wpAnyH_ready (rs := [11]) (by kernel_rfl) (by simp) ?_
    refine AllReadyH.cons (o := { dst := none, op := Op.store 31 (Operand.tmp 10) (Operand.tmp 57), type := 0, pos := "memory.go:128", after := #[{ on := 8, ground := Ground.data }, { on := 7, ground := Ground.chain }, { on := 0, ground := Ground.phase }, { on := 1, ground := Ground.phase }, { on := 2, ground := Ground.phase }, { on := 3, ground := Ground.phase }, { on := 4, ground := Ground.phase }, { on := 5, ground := Ground.phase }, { on := 6, ground := Ground.phase }, { on := 7, ground := Ground.phase }, { on := 8, ground := Ground.phase }, { on := 9, ground := Ground.textOnly Departure.lateStores }, { on := 10, ground := Ground.textOnly Departure.lateStores }], guard := none }) rfl (fun K hK => ?_) AllReadyH.nil
    obtain ⟨⟨m0, m1⟩, g0, g1⟩ := R10.out.cells2
    go_simp
    clear m0 g0 m1 g1
    have B12' := Lib.hid (B12.out.only (by omega) (((Only.refl b10 v14).set 0 (.slice (some ⟨bP, 0, none⟩) np np)).set 1 (.slice (some ⟨bN, 0, none⟩) nv nv)))
    have B13' := Lib.hid (B13.out.only (by omega) (((Only.refl b10 v14).set 0 (.slice (some ⟨bP, 0, none⟩) np np)).set 1 (.slice (some ⟨bN, 0, none⟩) nv nv)))
    have B5' := Lib.hid (B5.out.only (by omega) (((Only.refl b10 v14).set 0 (.slice (some ⟨bP, 0, none⟩) np np)).set 1 (.slice (some ⟨bN, 0, none⟩) nv nv)))
    have R10' := Lib.hid (((R10.out).set 0 (.slice (some ⟨bP, 0, none⟩) np np)).set 1 (.slice (some ⟨bN, 0, none⟩) nv nv))
    have R11' := Lib.hid (R11.out.only (by omega) (((Only.refl b10 v14).set 0 (.slice (some ⟨bP, 0, none⟩) np np)).set 1 (.slice (some ⟨bN, 0, none⟩) nv nv)))
    have MM' := Lib.hid (MM.out.only R10.out (by omega) (((Only.refl b10 v14).set 0 (.slice (some ⟨bP, 0, none⟩) np np)).set 1 (.slice (some ⟨bN, 0, none⟩) nv nv)))
    have PX' := Lib.hid (PX.out.only R10.out (((Only.refl b10 v14).set 0 (.slice (some ⟨bP, 0, none⟩) np np)).set 1 (.slice (some ⟨bN, 0, none⟩) nv nv)))
    have B15' := Lib.hid (B15.out.only (by omega) (((Only.refl b10 v14).set 0 (.slice (some ⟨bP, 0, none⟩) np np)).set 1 (.slice (some ⟨bN, 0, none⟩) nv nv)))
    have P1' := Lib.hid (P1.out.only R10.out (((Only.refl b10 v14).set 0 (.slice (some ⟨bP, 0, none⟩) np np)).set 1 (.slice (some ⟨bN, 0, none⟩) nv nv)))
    have RN' := Lib.hid (RN.out.only (by omega) (((Only.refl b10 v14).set 0 (.slice (some ⟨bP, 0, none⟩) np np)).set 1 (.slice (some ⟨bN, 0, none⟩) nv nv)))
    have BB' := Lib.hid (((BB.out).put b10 (by omega) 0 (.slice (some ⟨bP, 0, none⟩) np np)).put b10 (by omega) 1 (.slice (some ⟨bN, 0, none⟩) nv nv))
    clear B12
    have B12 := B12'
    clear B12'
    clear B13
    have B13 := B13'
    clear B13'
    clear B5
    have B5 := B5'
    clear B5'
    clear R10
    have R10 := R10'
    clear R10'
    clear R11
    have R11 := R11'
    clear R11'
    clear MM
    have MM := MM'
    clear MM'
    clear PX
    have PX := PX'
    clear PX'
    clear B15
    have B15 := B15'
    clear B15'
    clear P1
    have P1 := P1'
    clear P1'
    clear RN
    have RN := RN'
    clear RN'
    clear BB
    have BB := BB'
    clear BB'
    generalize (World.setCell (World.setCell v14 ⟨b10, 0, none⟩ (.slice (some ⟨bP, 0, none⟩) np np)) ⟨b10, 1, none⟩ (.slice (some ⟨bN, 0, none⟩) nv nv)) = v15 at *
    refine hK.out _ _ ?_ (fun hHeld => ?_)
    · exact ⟨B5.out.cells2.1.1, B5.out.cells2.1.2, B13.out.cells1.1, B15.out.cell 0, B15.out.cell 1, B15.out.cell 2, B15.out.cell 3, B15.out.cell 4⟩
    clear hK K
    (try simp only [Act.put])
    (try simp only [List.setIfInBounds_toArray])
    (try simp only [List.set_cons_succ])
    (try simp only [List.set_cons_zero])
    refine wpAnyH_ready (rs := [12]) (by kernel_rfl) (by simp) ?_
    refine AllReadyH.cons (o := { dst := none, op := Op.store 45 (Operand.tmp 11) (Operand.tmp 59), type := 0, pos := "memory.go:128", after := #[{ on := 10, ground := Ground.data }, { on := 11, ground := Ground.chain }, { on := 0, ground := Ground.phase }, { on := 1, ground := Ground.phase }, { on := 2, ground := Ground.phase }, { on := 3, ground := Ground.phase }, { on := 4, ground := Ground.phase }, { on := 5, ground := Ground.phase }, { on := 6, ground := Ground.phase }, { on := 7, ground := Ground.phase }, { on := 8, ground := Ground.phase }, { on := 9, ground := Ground.phase }, { on := 10, ground := Ground.phase }, { on := 11, ground := Ground.phase }], guard := none }) rfl (fun K hK => ?_) AllReadyH.nil
    obtain ⟨⟨m0, m1, m2⟩, g0, g1, g2⟩ := R11.out.cells3
    go_simp
    clear m0 g0 m1 g1 m2 g2
    have B12' := Lib.hid (B12.out.only (by omega) ((((Only.refl b11 v15).set 0 (.int .i64 xa)).set 1 (.int .u32 xb)).set 2 (.int .u32 xc)))
    have B13' := Lib.hid (B13.out.only (by omega) ((((Only.refl b11 v15).set 0 (.int .i64 xa)).set 1 (.int .u32 xb)).set 2 (.int .u32 xc)))
    have B5' := Lib.hid (B5.out.only (by omega) ((((Only.refl b11 v15).set 0 (.int .i64 xa)).set 1 (.int .u32 xb)).set 2 (.int .u32 xc)))
    have R10' := Lib.hid (R10.out.only (by omega) ((((Only.refl b11 v15).set 0 (.int .i64 xa)).set 1 (.int .u32 xb)).set 2 (.int .u32 xc)))
    have R11' := Lib.hid ((((R11.out).set 0 (.int .i64 xa)).set 1 (.int .u32 xb)).set 2 (.int .u32 xc))
    have MM' := Lib.hid (MM.out.only R11.out (by omega) ((((Only.refl b11 v15).set 0 (.int .i64 xa)).set 1 (.int .u32 xb)).set 2 (.int .u32 xc)))
    have PX' := Lib.hid (PX.out.only R11.out ((((Only.refl b11 v15).set 0 (.int .i64 xa)).set 1 (.int .u32 xb)).set 2 (.int .u32 xc)))
    have B15' := Lib.hid (B15.out.only (by omega) ((((Only.refl b11 v15).set 0 (.int .i64 xa)).set 1 (.int .u32 xb)).set 2 (.int .u32 xc)))
    have P1' := Lib.hid (P1.out.only R11.out ((((Only.refl b11 v15).set 0 (.int .i64 xa)).set 1 (.int .u32 xb)).set 2 (.int .u32 xc)))
    have RN' := Lib.hid (RN.out.only (by omega) ((((Only.refl b11 v15).set 0 (.int .i64 xa)).set 1 (.int .u32 xb)).set 2 (.int .u32 xc)))
    have BB' := Lib.hid ((((BB.out).put b11 (by omega) 0 (.int .i64 xa)).put b11 (by omega) 1 (.int .u32 xb)).put b11 (by omega) 2 (.int .u32 xc))
    clear B12
    have B12 := B12'
    clear B12'
    clear B13
    have B13 := B13'
    clear B13'
    clear B5
    have B5 := B5'
    clear B5'
    clear R10
    have R10 := R10'
    clear R10'
    clear R11
    have R11 := R11'
    clear R11'
    clear MM
    have MM := MM'
    clear MM'
    clear PX
    have PX := PX'
    clear PX'
    clear B15
    have B15 := B15'
    clear B15'
    clear P1
    have P1 := P1'
    clear P1'
    clear RN
    have RN := RN'
    clear RN'
    clear BB
    have BB := BB'
    clear BB'
    generalize (World.setCell (World.setCell (World.setCell v15 ⟨b11, 0, none⟩ (.int .i64 xa)) ⟨b11, 1, none⟩ (.int .u32 xb)) ⟨b11, 2, none⟩ (.int .u32 xc)) = v16 at *
    refine hK.out _ _ ?_ (fun hHeld => ?_)
    · exact ⟨B5.out.cells2.1.1, B5.out.cells2.1.2, B13.out.cells1.1, B15.out.cell 0, B15.out.cell 1, B15.out.cell 2, B15.out.cell 3, B15.out.cell 4⟩
    clear hK K
    (try simp only [Act.put])
    (try simp only [List.setIfInBounds_toArray])
    (try simp only [List.set_cons_succ])
    (try simp only [List.set_cons_zero])
    refine wpAnyH_done (by kernel_rfl) ?_ _
    obtain ⟨⟨m0, m1⟩, -⟩ := R10.out.cells2
    obtain ⟨⟨k0, k1, k2⟩, -⟩ := R11.out.cells3
    have F1 := RN.out
    have F3 := P1.out
    have F2 := BB.out
    go_wp2
    refine bodyPost_ret (v := .tuple #[.agg #[.slice (some ⟨bP, 0, none⟩) np np, .slice (some ⟨bN, 0, none⟩) nv nv], .agg #[.int .i64 xa, .int .u32 xb, .int .u32 xc]]) (by simp [results, Try.f39, go_sem, m0, m1, k0, k1, k2]) rfl ?_
    exact ⟨bN, some bw, rfl, by omega, F1, F3, F2⟩
end Go.Proofs.Ytbaljoehgdhhhaa
