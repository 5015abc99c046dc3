/- The contract of write. -/
import Derived.Test.YtbaljoehgdhhhaaRead
namespace Go.Proofs.Ytbaljoehgdhhhaa
open Go.RowKit Go.Shelf Go.Maps

set_option maxRecDepth 100000 in
set_option maxHeartbeats 6400000 in
theorem write_rel (ya yb yc : Int) (bP bV np nv B k p hn : Nat) (P : List PL) (V : List VL) (ha : Option Addr) (q : List MP) (vp : Option Nat) (vm : List (Int × Int)) (w : World)
    (h : MO B bP bV P V w) (e1 : P.length = np) (e2 : V.length = nv) (l1 : np ≤ 4096) (l2 : nv ≤ 8) (hp : P[p]? = some ((.slice ha hn hn), q)) (hv : V[k]? = some (vp, vm)) (hq : q.length = hn) (hql : hn ≤ 1000) :
    Calls Try.prog 38 #[.agg #[.slice (some ⟨bP, 0, none⟩) np np, .slice (some ⟨bV, 0, none⟩) nv nv], .int .i64 ((k : Int) + 1), .int .i64 p, .agg #[.int .i64 ya, .int .u32 yb, .int .u32 yc], .bool true] w fun e w' => ∃ bN bM bh vp' tp, e = .returned (.agg #[.slice (some ⟨bN, 0, none⟩) np np, .slice (some ⟨bM, 0, none⟩) nv nv]) ∧
      (w.heap.size ≤ bN ∧ w.heap.size ≤ bM ∧ w.heap.size ≤ bh) ∧ RW w' (.slice (some ⟨bN, 0, none⟩) np np) ((P.map (·.1)).set p (.slice (some ⟨bh, 0, none⟩) (hn + 1) (hn + 1))) ∧ RW w' (.slice (some ⟨bM, 0, none⟩) nv nv) ((V.map fun x => Value.map x.1).set k (.map vp')) ∧
      HW w' (.slice (some ⟨bh, 0, none⟩) (hn + 1) (hn + 1)) (q ++ [(⟨ya, yb, yc, (k : Int) + 1, withL vm p hn⟩, tp)]) ∧ VW w' vp' (withL vm p hn) ∧ Below w.heap.size w w' := by
  have hk : k < nv := by rw [← e2]; exact (List.getElem?_eq_some_iff.1 hv).1
  have hpn : p < np := by rw [← e1]; exact (List.getElem?_eq_some_iff.1 hp).1
  have HP := Lib.hid hp
  have HV := Lib.hid hv
  have HQ := Lib.hid hq
  have E1 := Lib.hid e1
  have E2 := Lib.hid e2
  have hwk : IntKind.i64.wrap ((k : Int)) = k := IntWalk.i64_in _ (by omega)
  have B5 := Lib.hid (Box.alloc (Box.alloc (Box.new w #[.slice (some ⟨bP, 0, none⟩) np np, .slice (some ⟨bV, 0, none⟩) nv nv] 31 rfl) (.cells #[.int .i64 ya, .int .u32 yb, .int .u32 yc] 45)) (.cells #[.slice none 0 0, .slice none 0 0] 31))
  have B8 := Lib.hid (Box.alloc (Box.new (w.alloc (.cells #[.slice (some ⟨bP, 0, none⟩) np np, .slice (some ⟨bV, 0, none⟩) nv nv] 31)) #[.int .i64 ya, .int .u32 yb, .int .u32 yc] 45 (n := w.heap.size + 1) (by simp)) (.cells #[.slice none 0 0, .slice none 0 0] 31))
  have R10 := Lib.hid (Box.new ((w.alloc (.cells #[.slice (some ⟨bP, 0, none⟩) np np, .slice (some ⟨bV, 0, none⟩) nv nv] 31)).alloc (.cells #[.int .i64 ya, .int .u32 yb, .int .u32 yc] 45)) #[.slice none 0 0, .slice none 0 0] 31 (n := w.heap.size + 1 + 1) (by simp))
  have BB := Lib.hid (b3 w (.cells #[.slice (some ⟨bP, 0, none⟩) np np, .slice (some ⟨bV, 0, none⟩) nv nv] 31) (.cells #[.int .i64 ya, .int .u32 yb, .int .u32 yc] 45) (.cells #[.slice none 0 0, .slice none 0 0] 31))
  have MM := Lib.hid (h.below (b3 w (.cells #[.slice (some ⟨bP, 0, none⟩) np np, .slice (some ⟨bV, 0, none⟩) nv nv] 31) (.cells #[.int .i64 ya, .int .u32 yb, .int .u32 yc] 45) (.cells #[.slice none 0 0, .slice none 0 0] 31)))
  have hB := h.le
  clear h hp hv hq e1 e2
  go_enter Try.func38, Try.ntmps38
  go_upto_region 1 with fail
  generalize ((w.alloc (.cells #[.slice (some ⟨bP, 0, none⟩) np np, .slice (some ⟨bV, 0, none⟩) nv nv] 31)).alloc (.cells #[.int .i64 ya, .int .u32 yb, .int .u32 yc] 45)).alloc (.cells #[.slice none 0 0, .slice none 0 0] 31) = W0 at *
  obtain ⟨b10, hb10⟩ : ∃ br, w.heap.size + 1 + 1 = br := ⟨_, rfl⟩
  obtain ⟨b8, hb8⟩ : ∃ br, w.heap.size + 1 = br := ⟨_, rfl⟩
  obtain ⟨b5, hb5⟩ : ∃ bp, w.heap.size = bp := ⟨_, rfl⟩
  have hbq := hb5
  rw [hb10] at R10 ⊢
  rw [hb8] at B8 hb10 ⊢
  rw [hb5] at B5 hb8 ⊢
  obtain ⟨⟨m0, m1⟩, -⟩ := B5.out.cells2
  have mp := MM.out.cellP HP.out
  go_upto_region 2 with fail
  clear m0 m1 mp
  have hlt_b11 := BB.out.size
  have hlt_b11_B5 := B5.out.lt
  have hlt_b11_B8 := B8.out.lt
  have hlt_b11_R10 := R10.out.lt
  have B5' := Lib.hid (B5.out.below (below_new W0 (.cells #[.slice ha hn hn] 65)))
  have B8' := Lib.hid (B8.out.below (below_new W0 (.cells #[.slice ha hn hn] 65)))
  have R10' := Lib.hid (R10.out.below (below_new W0 (.cells #[.slice ha hn hn] 65)))
  have MM' := Lib.hid (MM.out.below (below_new W0 (.cells #[.slice ha hn hn] 65)))
  have BB' := Lib.hid (BB.out.trans ((below_new W0 (.cells #[.slice ha hn hn] 65)).mono BB.out.size))
  clear B5
  have B5 := B5'
  clear B5'
  clear B8
  have B8 := B8'
  clear B8'
  clear R10
  have R10 := R10'
  clear R10'
  clear MM
  have MM := MM'
  clear MM'
  clear BB
  have BB := BB'
  clear BB'
  have B11 := Lib.hid (Box.new W0 #[.slice ha hn hn] 65 rfl)
  have hsz_b11 : (World.alloc W0 (.cells #[.slice ha hn hn] 65)).heap.size = (World.heap W0).size + 1 := by simp
  generalize World.alloc W0 (.cells #[.slice ha hn hn] 65) = a0 at *
  generalize World.heap W0 = hp_b11 at *
  generalize hp_b11.size = b11 at *
  go_cut [12] (fun s12 wx => ∃ b12 bs, s12 = .pointer (some ⟨b12, 0, none⟩) ∧ b11 < b12 ∧ Box wx b12 #[.map (some bs)] 60 ∧ VW wx (some bs) (withL vm p hn) ∧ Box wx b11 #[.slice ha hn hn] 65 ∧ Box wx b5 #[.slice (some ⟨bP, 0, none⟩) np np, .slice (some ⟨bV, 0, none⟩) nv nv] 31 ∧ Box wx b8 #[.int .i64 ya, .int .u32 yb, .int .u32 yc] 45 ∧ Box wx b10 #[.slice none 0 0, .slice none 0 0] 31 ∧ MO B bP bV P V wx ∧ Below w.heap.size w wx)
  case first =>
    have B5' := Lib.hid (B5.out.below ((Below.refl _ _).drew))
    have B8' := Lib.hid (B8.out.below ((Below.refl _ _).drew))
    have R10' := Lib.hid (R10.out.below ((Below.refl _ _).drew))
    have MM' := Lib.hid (MM.out.below ((Below.refl _ _).drew))
    have B11' := Lib.hid (B11.out.below ((Below.refl _ _).drew))
    have BB' := Lib.hid (BB.out.trans (((Below.refl _ _).drew).mono BB.out.size))
    clear B5
    have B5 := B5'
    clear B5'
    clear B8
    have B8 := B8'
    clear B8'
    clear R10
    have R10 := R10'
    clear R10'
    clear MM
    have MM := MM'
    clear MM'
    clear B11
    have B11 := B11'
    clear B11'
    clear BB
    have BB := BB'
    clear BB'
    refine wp_region_held_drew (S := fun w' => w'.cell? ⟨b5, 1, none⟩ = some (.slice (some ⟨bV, 0, none⟩) nv nv) ∧ w'.cell? ⟨bV, k, none⟩ = some (.map vp) ∧ w'.cell? ⟨b11, 0, none⟩ = some (.slice ha hn hn)) (by kernel_rfl) ⟨B5.out.cells2.1.2, MM.out.cellV HV.out, B11.out.cells1.1⟩ (fun hHeld => ?_)
    generalize World.drew a0 = V0 at *
    refine wpAnyH_take (i := 0) (oi := { dst := some 19, op := Op.fieldAddr 31 (Operand.tmp 5) 1, type := 0, pos := "memory.go:134", after := #[], guard := none }) (v := ?d1_1xv0) rfl (by kernel_rfl) (by kernel_rfl) (by kernel_rfl) (fun _ _ _ h => h) (Or.inl ⟨by rfl, ?d1_1xy0⟩) (by assumption) ?d1_1xr0
    case d1_1xy0 => (intro w hSw; (try dsimp only at hSw); go_simp; try with_reducible rfl)
    (try simp only [Act.put])
    (try simp only [List.setIfInBounds_toArray])
    (try simp only [List.set_cons_succ])
    (try simp only [List.set_cons_zero])
    refine wpAnyH_take (i := 1) (oi := { dst := some 20, op := Op.load 29 (Operand.tmp 19), type := 29, pos := "memory.go:134", after := #[{ on := 0, ground := Ground.data }], guard := none }) (v := ?d1_2xv1) rfl (by kernel_rfl) (by kernel_rfl) (by kernel_rfl) (fun _ _ _ h => h) (Or.inl ⟨by rfl, ?d1_2xy1⟩) (by assumption) ?d1_2xr1
    case d1_2xy1 => (intro w hSw; (try dsimp only at hSw); go_simp; try with_reducible rfl)
    (try simp only [Act.put])
    (try simp only [List.setIfInBounds_toArray])
    (try simp only [List.set_cons_succ])
    (try simp only [List.set_cons_zero])
    refine wpAnyH_take (i := 2) (oi := { dst := some 21, op := Op.move (Operand.tmp 1), type := 3, pos := "memory.go:134", after := #[], guard := none }) (v := ?d1_3xv2) rfl (by kernel_rfl) (by kernel_rfl) (by kernel_rfl) (fun _ _ _ h => h) (Or.inl ⟨by rfl, ?d1_3xy2⟩) (by assumption) ?d1_3xr2
    case d1_3xy2 => (intro w hSw; (try dsimp only at hSw); go_simp; try with_reducible rfl)
    (try simp only [Act.put])
    (try simp only [List.setIfInBounds_toArray])
    (try simp only [List.set_cons_succ])
    (try simp only [List.set_cons_zero])
    refine wpAnyH_take (i := 3) (oi := { dst := some 22, op := Op.binOp BinOp.sub 3 (Operand.tmp 21) (Operand.const (Value.int IntKind.i64 1)) 3, type := 3, pos := "memory.go:134", after := #[{ on := 2, ground := Ground.data }], guard := none }) (v := ?d1_4xv3) rfl (by kernel_rfl) (by kernel_rfl) (by kernel_rfl) (fun _ _ _ h => h) (Or.inl ⟨by rfl, ?d1_4xy3⟩) (by assumption) ?d1_4xr3
    case d1_4xy3 => (intro w hSw; (try dsimp only at hSw); go_simp; try with_reducible rfl)
    (try simp only [Act.put])
    (try simp only [List.setIfInBounds_toArray])
    (try simp only [List.set_cons_succ])
    (try simp only [List.set_cons_zero])
    refine wpAnyH_take (i := 4) (oi := { dst := some 23, op := Op.indexAddr 29 (Operand.tmp 20) (Operand.tmp 22), type := 0, pos := "memory.go:134", after := #[{ on := 1, ground := Ground.data }, { on := 3, ground := Ground.data }], guard := none }) (v := ?d1_5xv4) rfl (by kernel_rfl) (by kernel_rfl) (by kernel_rfl) (fun _ _ _ h => h) (Or.inl ⟨by rfl, ?d1_5xy4⟩) (by assumption) ?d1_5xr4
    case d1_5xy4 => (intro w hSw; (try dsimp only at hSw); go_simp; try with_reducible rfl)
    (try simp only [Act.put])
    (try simp only [List.setIfInBounds_toArray])
    (try simp only [List.set_cons_succ])
    (try simp only [List.set_cons_zero])
    refine wpAnyH_take (i := 5) (oi := { dst := some 24, op := Op.load 60 (Operand.tmp 23), type := 60, pos := "memory.go:134", after := #[{ on := 4, ground := Ground.data }], guard := none }) (v := ?d1_6xv5) rfl (by kernel_rfl) (by kernel_rfl) (by kernel_rfl) (fun _ _ _ h => h) (Or.inl ⟨by rfl, ?d1_6xy5⟩) (by assumption) ?d1_6xr5
    case d1_6xy5 => (intro w hSw; (try dsimp only at hSw); go_simp; try with_reducible rfl)
    (try simp only [Act.put])
    (try simp only [List.setIfInBounds_toArray])
    (try simp only [List.set_cons_succ])
    (try simp only [List.set_cons_zero])
    refine wpAnyH_take (i := 6) (oi := { dst := some 25, op := Op.move (Operand.tmp 2), type := 42, pos := "memory.go:134", after := #[], guard := none }) (v := ?d1_7xv6) rfl (by kernel_rfl) (by kernel_rfl) (by kernel_rfl) (fun _ _ _ h => h) (Or.inl ⟨by rfl, ?d1_7xy6⟩) (by assumption) ?d1_7xr6
    case d1_7xy6 => (intro w hSw; (try dsimp only at hSw); go_simp; try with_reducible rfl)
    (try simp only [Act.put])
    (try simp only [List.setIfInBounds_toArray])
    (try simp only [List.set_cons_succ])
    (try simp only [List.set_cons_zero])
    refine wpAnyH_take (i := 7) (oi := { dst := some 26, op := Op.load 65 (Operand.tmp 11), type := 65, pos := "memory.go:134", after := #[], guard := none }) (v := ?d1_8xv7) rfl (by kernel_rfl) (by kernel_rfl) (by kernel_rfl) (fun _ _ _ h => h) (Or.inl ⟨by rfl, ?d1_8xy7⟩) (by assumption) ?d1_8xr7
    case d1_8xy7 => (intro w hSw; (try dsimp only at hSw); go_simp; try with_reducible rfl)
    (try simp only [Act.put])
    (try simp only [List.setIfInBounds_toArray])
    (try simp only [List.set_cons_succ])
    (try simp only [List.set_cons_zero])
    refine wpAnyH_ready (rs := [8, 10]) (by kernel_rfl) (by simp) ?_
    refine AllReadyH.cons (o := { dst := some 27, op := Op.call { callee := Callee.value (Operand.func 21), args := #[Operand.tmp 26], argTypes := #[65] }, type := 3, pos := "memory.go:134", after := #[{ on := 7, ground := Ground.data }], guard := none }) rfl (fun K hK => ?_) ?_
    · skip
      go_simp
      go_at_call 21
      refine (len_c ha hn hn _).mono ?_
      rintro e v1 ⟨rfl, hb⟩
      have B5' := Lib.hid (B5.out.below (hb))
      have B8' := Lib.hid (B8.out.below (hb))
      have R10' := Lib.hid (R10.out.below (hb))
      have MM' := Lib.hid (MM.out.below (hb))
      have B11' := Lib.hid (B11.out.below (hb))
      have BB' := Lib.hid (BB.out.trans ((hb).mono BB.out.size))
      clear B5
      have B5 := B5'
      clear B5'
      clear B8
      have B8 := B8'
      clear B8'
      clear R10
      have R10 := R10'
      clear R10'
      clear MM
      have MM := MM'
      clear MM'
      clear B11
      have B11 := B11'
      clear B11'
      clear BB
      have BB := BB'
      clear BB'
      clear hb
      go_simp
      refine hK.out _ _ ?_ (fun hHeld => ?_)
      · exact ⟨B5.out.cells2.1.2, MM.out.cellV HV.out, B11.out.cells1.1⟩
      clear hK K
      (try simp only [Act.put])
      (try simp only [List.setIfInBounds_toArray])
      (try simp only [List.set_cons_succ])
      (try simp only [List.set_cons_zero])
      refine wpAnyH_ready (rs := [9, 10]) (by kernel_rfl) (by simp) ?_
      refine AllReadyH.cons (o := { dst := some 28, op := Op.call { callee := Callee.value (Operand.func 50), args := #[Operand.tmp 24, Operand.tmp 25, Operand.tmp 27], argTypes := #[60, 42, 3] }, type := 60, pos := "memory.go:134", after := #[{ on := 5, ground := Ground.data }, { on := 6, ground := Ground.data }, { on := 8, ground := Ground.data }, { on := 8, ground := Ground.chain }], guard := none }) rfl (fun K hK => ?_) ?_
      · skip
        go_simp
        go_at_call 50
        refine (with_any vp vm p hn _ (by omega) (by omega) (by omega) (by omega) (MM.out.atV HV.out)).mono ?_
        rintro e v2 ⟨bs, hbs, rfl, hv1, hb⟩
        have B5' := Lib.hid (B5.out.below (hb))
        have B8' := Lib.hid (B8.out.below (hb))
        have R10' := Lib.hid (R10.out.below (hb))
        have MM' := Lib.hid (MM.out.below (hb))
        have B11' := Lib.hid (B11.out.below (hb))
        have BB' := Lib.hid (BB.out.trans ((hb).mono BB.out.size))
        clear B5
        have B5 := B5'
        clear B5'
        clear B8
        have B8 := B8'
        clear B8'
        clear R10
        have R10 := R10'
        clear R10'
        clear MM
        have MM := MM'
        clear MM'
        clear B11
        have B11 := B11'
        clear B11'
        clear BB
        have BB := BB'
        clear BB'
        clear hb
        have PS := Lib.hid (hv1)
        clear hv1
        go_simp
        refine hK.out _ _ ?_ (fun hHeld => ?_)
        · exact ⟨B5.out.cells2.1.2, MM.out.cellV HV.out, B11.out.cells1.1⟩
        clear hK K
        (try simp only [Act.put])
        (try simp only [List.setIfInBounds_toArray])
        (try simp only [List.set_cons_succ])
        (try simp only [List.set_cons_zero])
        refine wpAnyH_ready (rs := [10]) (by kernel_rfl) (by simp) ?_
        refine AllReadyH.cons (o := { dst := some 12, op := Op.alloc 60, type := 0, pos := "memory.go:134", after := #[], guard := none }) rfl (fun K hK => ?_) AllReadyH.nil
        go_simp
        have hlt_b12 := BB.out.size
        have hlt_b12_B5 := B5.out.lt
        have hlt_b12_B8 := B8.out.lt
        have hlt_b12_R10 := R10.out.lt
        have hlt_b12_B11 := B11.out.lt
        have B5' := Lib.hid (B5.out.below (below_new v2 (.cells #[.map none] 60)))
        have B8' := Lib.hid (B8.out.below (below_new v2 (.cells #[.map none] 60)))
        have R10' := Lib.hid (R10.out.below (below_new v2 (.cells #[.map none] 60)))
        have MM' := Lib.hid (MM.out.below (below_new v2 (.cells #[.map none] 60)))
        have B11' := Lib.hid (B11.out.below (below_new v2 (.cells #[.map none] 60)))
        have PS' := Lib.hid (PS.out.below (below_new v2 (.cells #[.map none] 60)))
        have BB' := Lib.hid (BB.out.trans ((below_new v2 (.cells #[.map none] 60)).mono BB.out.size))
        clear B5
        have B5 := B5'
        clear B5'
        clear B8
        have B8 := B8'
        clear B8'
        clear R10
        have R10 := R10'
        clear R10'
        clear MM
        have MM := MM'
        clear MM'
        clear B11
        have B11 := B11'
        clear B11'
        clear PS
        have PS := PS'
        clear PS'
        clear BB
        have BB := BB'
        clear BB'
        have B12 := Lib.hid (Box.new v2 #[.map none] 60 rfl)
        generalize World.alloc v2 (.cells #[.map none] 60) = v3 at *
        generalize World.heap v2 = hp_b12 at *
        generalize hp_b12.size = b12 at *
        refine hK.out _ _ ?_ (fun hHeld => ?_)
        · exact ⟨B5.out.cells2.1.2, MM.out.cellV HV.out, B11.out.cells1.1⟩
        clear hK K
        (try simp only [Act.put])
        (try simp only [List.setIfInBounds_toArray])
        (try simp only [List.set_cons_succ])
        (try simp only [List.set_cons_zero])
        refine wpAnyH_ready (rs := [11]) (by kernel_rfl) (by simp) ?_
        refine AllReadyH.cons (o := { dst := none, op := Op.store 60 (Operand.tmp 12) (Operand.tmp 28), type := 0, pos := "memory.go:134", after := #[{ on := 10, ground := Ground.data }, { on := 9, ground := Ground.data }, { on := 9, ground := Ground.chain }, { on := 0, ground := Ground.phase }, { on := 1, ground := Ground.phase }, { on := 2, ground := Ground.phase }, { on := 3, ground := Ground.phase }, { on := 4, ground := Ground.phase }, { on := 5, ground := Ground.phase }, { on := 6, ground := Ground.phase }, { on := 7, ground := Ground.phase }, { on := 8, ground := Ground.phase }, { on := 9, ground := Ground.phase }, { on := 10, ground := Ground.phase }], guard := none }) rfl (fun K hK => ?_) AllReadyH.nil
        obtain ⟨m0, g0⟩ := B12.out.cells1
        go_simp
        clear m0 g0
        have B5' := Lib.hid (B5.out.only (by omega) ((Only.refl b12 v3).set 0 (.map (some bs))))
        have B8' := Lib.hid (B8.out.only (by omega) ((Only.refl b12 v3).set 0 (.map (some bs))))
        have R10' := Lib.hid (R10.out.only (by omega) ((Only.refl b12 v3).set 0 (.map (some bs))))
        have MM' := Lib.hid (MM.out.only B12.out (by omega) ((Only.refl b12 v3).set 0 (.map (some bs))))
        have B11' := Lib.hid (B11.out.only (by omega) ((Only.refl b12 v3).set 0 (.map (some bs))))
        have PS' := Lib.hid (PS.out.only B12.out ((Only.refl b12 v3).set 0 (.map (some bs))))
        have B12' := Lib.hid ((B12.out).set 0 (.map (some bs)))
        have BB' := Lib.hid ((BB.out).put b12 (by omega) 0 (.map (some bs)))
        clear B5
        have B5 := B5'
        clear B5'
        clear B8
        have B8 := B8'
        clear B8'
        clear R10
        have R10 := R10'
        clear R10'
        clear MM
        have MM := MM'
        clear MM'
        clear B11
        have B11 := B11'
        clear B11'
        clear PS
        have PS := PS'
        clear PS'
        clear B12
        have B12 := B12'
        clear B12'
        clear BB
        have BB := BB'
        clear BB'
        generalize (World.setCell v3 ⟨b12, 0, none⟩ (.map (some bs))) = v4 at *
        refine hK.out _ _ ?_ (fun hHeld => ?_)
        · exact ⟨B5.out.cells2.1.2, MM.out.cellV HV.out, B11.out.cells1.1⟩
        clear hK K
        (try simp only [Act.put])
        (try simp only [List.setIfInBounds_toArray])
        (try simp only [List.set_cons_succ])
        (try simp only [List.set_cons_zero])
        refine wpAnyH_done (by kernel_rfl) ?_ _
        go_wp2
        go_meet
        case rel => exact ⟨b12, bs, rfl, by omega, B12.out, PS.out, B11.out, B5.out, B8.out, R10.out, MM.out, BB.out⟩
      refine AllReadyH.cons (o := { dst := some 12, op := Op.alloc 60, type := 0, pos := "memory.go:134", after := #[], guard := none }) rfl (fun K hK => ?_) AllReadyH.nil
      go_simp
      have hlt_b12 := BB.out.size
      have hlt_b12_B5 := B5.out.lt
      have hlt_b12_B8 := B8.out.lt
      have hlt_b12_R10 := R10.out.lt
      have hlt_b12_B11 := B11.out.lt
      have B5' := Lib.hid (B5.out.below (below_new v1 (.cells #[.map none] 60)))
      have B8' := Lib.hid (B8.out.below (below_new v1 (.cells #[.map none] 60)))
      have R10' := Lib.hid (R10.out.below (below_new v1 (.cells #[.map none] 60)))
      have MM' := Lib.hid (MM.out.below (below_new v1 (.cells #[.map none] 60)))
      have B11' := Lib.hid (B11.out.below (below_new v1 (.cells #[.map none] 60)))
      have BB' := Lib.hid (BB.out.trans ((below_new v1 (.cells #[.map none] 60)).mono BB.out.size))
      clear B5
      have B5 := B5'
      clear B5'
      clear B8
      have B8 := B8'
      clear B8'
      clear R10
      have R10 := R10'
      clear R10'
      clear MM
      have MM := MM'
      clear MM'
      clear B11
      have B11 := B11'
      clear B11'
      clear BB
      have BB := BB'
      clear BB'
      have B12 := Lib.hid (Box.new v1 #[.map none] 60 rfl)
      generalize World.alloc v1 (.cells #[.map none] 60) = v5 at *
      generalize World.heap v1 = hp_b12 at *
      generalize hp_b12.size = b12 at *
      refine hK.out _ _ ?_ (fun hHeld => ?_)
      · exact ⟨B5.out.cells2.1.2, MM.out.cellV HV.out, B11.out.cells1.1⟩
      clear hK K
      (try simp only [Act.put])
      (try simp only [List.setIfInBounds_toArray])
      (try simp only [List.set_cons_succ])
      (try simp only [List.set_cons_zero])
      refine wpAnyH_ready (rs := [9]) (by kernel_rfl) (by simp) ?_
      refine AllReadyH.cons (o := { dst := some 28, op := Op.call { callee := Callee.value (Operand.func 50), args := #[Operand.tmp 24, Operand.tmp 25, Operand.tmp 27], argTypes := #[60, 42, 3] }, type := 60, pos := "memory.go:134", after := #[{ on := 5, ground := Ground.data }, { on := 6, ground := Ground.data }, { on := 8, ground := Ground.data }, { on := 8, ground := Ground.chain }], guard := none }) rfl (fun K hK => ?_) AllReadyH.nil
      go_simp
      go_at_call 50
      refine (with_any vp vm p hn _ (by omega) (by omega) (by omega) (by omega) (MM.out.atV HV.out)).mono ?_
      rintro e v6 ⟨bs, hbs, rfl, hv1, hb⟩
      have B5' := Lib.hid (B5.out.below (hb))
      have B8' := Lib.hid (B8.out.below (hb))
      have R10' := Lib.hid (R10.out.below (hb))
      have MM' := Lib.hid (MM.out.below (hb))
      have B11' := Lib.hid (B11.out.below (hb))
      have B12' := Lib.hid (B12.out.below (hb))
      have BB' := Lib.hid (BB.out.trans ((hb).mono BB.out.size))
      clear B5
      have B5 := B5'
      clear B5'
      clear B8
      have B8 := B8'
      clear B8'
      clear R10
      have R10 := R10'
      clear R10'
      clear MM
      have MM := MM'
      clear MM'
      clear B11
      have B11 := B11'
      clear B11'
      clear B12
      have B12 := B12'
      clear B12'
      clear BB
      have BB := BB'
      clear BB'
      clear hb
      have PS := Lib.hid (hv1)
      clear hv1
      go_simp
      refine hK.out _ _ ?_ (fun hHeld => ?_)
      · exact ⟨B5.out.cells2.1.2, MM.out.cellV HV.out, B11.out.cells1.1⟩
      clear hK K
      (try simp only [Act.put])
      (try simp only [List.setIfInBounds_toArray])
      (try simp only [List.set_cons_succ])
      (try simp only [List.set_cons_zero])
      refine wpAnyH_ready (rs := [11]) (by kernel_rfl) (by simp) ?_
      refine AllReadyH.cons (o := { dst := none, op := Op.store 60 (Operand.tmp 12) (Operand.tmp 28), type := 0, pos := "memory.go:134", after := #[{ on := 10, ground := Ground.data }, { on := 9, ground := Ground.data }, { on := 9, ground := Ground.chain }, { on := 0, ground := Ground.phase }, { on := 1, ground := Ground.phase }, { on := 2, ground := Ground.phase }, { on := 3, ground := Ground.phase }, { on := 4, ground := Ground.phase }, { on := 5, ground := Ground.phase }, { on := 6, ground := Ground.phase }, { on := 7, ground := Ground.phase }, { on := 8, ground := Ground.phase }, { on := 9, ground := Ground.phase }, { on := 10, ground := Ground.phase }], guard := none }) rfl (fun K hK => ?_) AllReadyH.nil
      obtain ⟨m0, g0⟩ := B12.out.cells1
      go_simp
      clear m0 g0
      have B5' := Lib.hid (B5.out.only (by omega) ((Only.refl b12 v6).set 0 (.map (some bs))))
      have B8' := Lib.hid (B8.out.only (by omega) ((Only.refl b12 v6).set 0 (.map (some bs))))
      have R10' := Lib.hid (R10.out.only (by omega) ((Only.refl b12 v6).set 0 (.map (some bs))))
      have MM' := Lib.hid (MM.out.only B12.out (by omega) ((Only.refl b12 v6).set 0 (.map (some bs))))
      have B11' := Lib.hid (B11.out.only (by omega) ((Only.refl b12 v6).set 0 (.map (some bs))))
      have B12' := Lib.hid ((B12.out).set 0 (.map (some bs)))
      have PS' := Lib.hid (PS.out.only B12.out ((Only.refl b12 v6).set 0 (.map (some bs))))
      have BB' := Lib.hid ((BB.out).put b12 (by omega) 0 (.map (some bs)))
      clear B5
      have B5 := B5'
      clear B5'
      clear B8
      have B8 := B8'
      clear B8'
      clear R10
      have R10 := R10'
      clear R10'
      clear MM
      have MM := MM'
      clear MM'
      clear B11
      have B11 := B11'
      clear B11'
      clear B12
      have B12 := B12'
      clear B12'
      clear PS
      have PS := PS'
      clear PS'
      clear BB
      have BB := BB'
      clear BB'
      generalize (World.setCell v6 ⟨b12, 0, none⟩ (.map (some bs))) = v7 at *
      refine hK.out _ _ ?_ (fun hHeld => ?_)
      · exact ⟨B5.out.cells2.1.2, MM.out.cellV HV.out, B11.out.cells1.1⟩
      clear hK K
      (try simp only [Act.put])
      (try simp only [List.setIfInBounds_toArray])
      (try simp only [List.set_cons_succ])
      (try simp only [List.set_cons_zero])
      refine wpAnyH_done (by kernel_rfl) ?_ _
      go_wp2
      go_meet
      case rel => exact ⟨b12, bs, rfl, by omega, B12.out, PS.out, B11.out, B5.out, B8.out, R10.out, MM.out, BB.out⟩
    refine AllReadyH.cons (o := { dst := some 12, op := Op.alloc 60, type := 0, pos := "memory.go:134", after := #[], guard := none }) rfl (fun K hK => ?_) AllReadyH.nil
    go_simp
    have hlt_b12 := BB.out.size
    have hlt_b12_B5 := B5.out.lt
    have hlt_b12_B8 := B8.out.lt
    have hlt_b12_R10 := R10.out.lt
    have hlt_b12_B11 := B11.out.lt
    have B5' := Lib.hid (B5.out.below (below_new V0 (.cells #[.map none] 60)))
    have B8' := Lib.hid (B8.out.below (below_new V0 (.cells #[.map none] 60)))
    have R10' := Lib.hid (R10.out.below (below_new V0 (.cells #[.map none] 60)))
    have MM' := Lib.hid (MM.out.below (below_new V0 (.cells #[.map none] 60)))
    have B11' := Lib.hid (B11.out.below (below_new V0 (.cells #[.map none] 60)))
    have BB' := Lib.hid (BB.out.trans ((below_new V0 (.cells #[.map none] 60)).mono BB.out.size))
    clear B5
    have B5 := B5'
    clear B5'
    clear B8
    have B8 := B8'
    clear B8'
    clear R10
    have R10 := R10'
    clear R10'
    clear MM
    have MM := MM'
    clear MM'
    clear B11
    have B11 := B11'
    clear B11'
    clear BB
    have BB := BB'
    clear BB'
    have B12 := Lib.hid (Box.new V0 #[.map none] 60 rfl)
    generalize World.alloc V0 (.cells #[.map none] 60) = v8 at *
    generalize World.heap V0 = hp_b12 at *
    generalize hp_b12.size = b12 at *
    refine hK.out _ _ ?_ (fun hHeld => ?_)
    · exact ⟨B5.out.cells2.1.2, MM.out.cellV HV.out, B11.out.cells1.1⟩
    clear hK K
    (try simp only [Act.put])
    (try simp only [List.setIfInBounds_toArray])
    (try simp only [List.set_cons_succ])
    (try simp only [List.set_cons_zero])
    refine wpAnyH_ready (rs := [8]) (by kernel_rfl) (by simp) ?_
    refine AllReadyH.cons (o := { dst := some 27, op := Op.call { callee := Callee.value (Operand.func 21), args := #[Operand.tmp 26], argTypes := #[65] }, type := 3, pos := "memory.go:134", after := #[{ on := 7, ground := Ground.data }], guard := none }) rfl (fun K hK => ?_) AllReadyH.nil
    go_simp
    go_at_call 21
    refine (len_c ha hn hn _).mono ?_
    rintro e v9 ⟨rfl, hb⟩
    have B5' := Lib.hid (B5.out.below (hb))
    have B8' := Lib.hid (B8.out.below (hb))
    have R10' := Lib.hid (R10.out.below (hb))
    have MM' := Lib.hid (MM.out.below (hb))
    have B11' := Lib.hid (B11.out.below (hb))
    have B12' := Lib.hid (B12.out.below (hb))
    have BB' := Lib.hid (BB.out.trans ((hb).mono BB.out.size))
    clear B5
    have B5 := B5'
    clear B5'
    clear B8
    have B8 := B8'
    clear B8'
    clear R10
    have R10 := R10'
    clear R10'
    clear MM
    have MM := MM'
    clear MM'
    clear B11
    have B11 := B11'
    clear B11'
    clear B12
    have B12 := B12'
    clear B12'
    clear BB
    have BB := BB'
    clear BB'
    clear hb
    go_simp
    refine hK.out _ _ ?_ (fun hHeld => ?_)
    · exact ⟨B5.out.cells2.1.2, MM.out.cellV HV.out, B11.out.cells1.1⟩
    clear hK K
    (try simp only [Act.put])
    (try simp only [List.setIfInBounds_toArray])
    (try simp only [List.set_cons_succ])
    (try simp only [List.set_cons_zero])
    refine wpAnyH_ready (rs := [9]) (by kernel_rfl) (by simp) ?_
    refine AllReadyH.cons (o := { dst := some 28, op := Op.call { callee := Callee.value (Operand.func 50), args := #[Operand.tmp 24, Operand.tmp 25, Operand.tmp 27], argTypes := #[60, 42, 3] }, type := 60, pos := "memory.go:134", after := #[{ on := 5, ground := Ground.data }, { on := 6, ground := Ground.data }, { on := 8, ground := Ground.data }, { on := 8, ground := Ground.chain }], guard := none }) rfl (fun K hK => ?_) AllReadyH.nil
    go_simp
    go_at_call 50
    refine (with_any vp vm p hn _ (by omega) (by omega) (by omega) (by omega) (MM.out.atV HV.out)).mono ?_
    rintro e v10 ⟨bs, hbs, rfl, hv1, hb⟩
    have B5' := Lib.hid (B5.out.below (hb))
    have B8' := Lib.hid (B8.out.below (hb))
    have R10' := Lib.hid (R10.out.below (hb))
    have MM' := Lib.hid (MM.out.below (hb))
    have B11' := Lib.hid (B11.out.below (hb))
    have B12' := Lib.hid (B12.out.below (hb))
    have BB' := Lib.hid (BB.out.trans ((hb).mono BB.out.size))
    clear B5
    have B5 := B5'
    clear B5'
    clear B8
    have B8 := B8'
    clear B8'
    clear R10
    have R10 := R10'
    clear R10'
    clear MM
    have MM := MM'
    clear MM'
    clear B11
    have B11 := B11'
    clear B11'
    clear B12
    have B12 := B12'
    clear B12'
    clear BB
    have BB := BB'
    clear BB'
    clear hb
    have PS := Lib.hid (hv1)
    clear hv1
    go_simp
    refine hK.out _ _ ?_ (fun hHeld => ?_)
    · exact ⟨B5.out.cells2.1.2, MM.out.cellV HV.out, B11.out.cells1.1⟩
    clear hK K
    (try simp only [Act.put])
    (try simp only [List.setIfInBounds_toArray])
    (try simp only [List.set_cons_succ])
    (try simp only [List.set_cons_zero])
    refine wpAnyH_ready (rs := [11]) (by kernel_rfl) (by simp) ?_
    refine AllReadyH.cons (o := { dst := none, op := Op.store 60 (Operand.tmp 12) (Operand.tmp 28), type := 0, pos := "memory.go:134", after := #[{ on := 10, ground := Ground.data }, { on := 9, ground := Ground.data }, { on := 9, ground := Ground.chain }, { on := 0, ground := Ground.phase }, { on := 1, ground := Ground.phase }, { on := 2, ground := Ground.phase }, { on := 3, ground := Ground.phase }, { on := 4, ground := Ground.phase }, { on := 5, ground := Ground.phase }, { on := 6, ground := Ground.phase }, { on := 7, ground := Ground.phase }, { on := 8, ground := Ground.phase }, { on := 9, ground := Ground.phase }, { on := 10, ground := Ground.phase }], guard := none }) rfl (fun K hK => ?_) AllReadyH.nil
    obtain ⟨m0, g0⟩ := B12.out.cells1
    go_simp
    clear m0 g0
    have B5' := Lib.hid (B5.out.only (by omega) ((Only.refl b12 v10).set 0 (.map (some bs))))
    have B8' := Lib.hid (B8.out.only (by omega) ((Only.refl b12 v10).set 0 (.map (some bs))))
    have R10' := Lib.hid (R10.out.only (by omega) ((Only.refl b12 v10).set 0 (.map (some bs))))
    have MM' := Lib.hid (MM.out.only B12.out (by omega) ((Only.refl b12 v10).set 0 (.map (some bs))))
    have B11' := Lib.hid (B11.out.only (by omega) ((Only.refl b12 v10).set 0 (.map (some bs))))
    have B12' := Lib.hid ((B12.out).set 0 (.map (some bs)))
    have PS' := Lib.hid (PS.out.only B12.out ((Only.refl b12 v10).set 0 (.map (some bs))))
    have BB' := Lib.hid ((BB.out).put b12 (by omega) 0 (.map (some bs)))
    clear B5
    have B5 := B5'
    clear B5'
    clear B8
    have B8 := B8'
    clear B8'
    clear R10
    have R10 := R10'
    clear R10'
    clear MM
    have MM := MM'
    clear MM'
    clear B11
    have B11 := B11'
    clear B11'
    clear B12
    have B12 := B12'
    clear B12'
    clear PS
    have PS := PS'
    clear PS'
    clear BB
    have BB := BB'
    clear BB'
    generalize (World.setCell v10 ⟨b12, 0, none⟩ (.map (some bs))) = v11 at *
    refine hK.out _ _ ?_ (fun hHeld => ?_)
    · exact ⟨B5.out.cells2.1.2, MM.out.cellV HV.out, B11.out.cells1.1⟩
    clear hK K
    (try simp only [Act.put])
    (try simp only [List.setIfInBounds_toArray])
    (try simp only [List.set_cons_succ])
    (try simp only [List.set_cons_zero])
    refine wpAnyH_done (by kernel_rfl) ?_ _
    go_wp2
    go_meet
    case rel => exact ⟨b12, bs, rfl, by omega, B12.out, PS.out, B11.out, B5.out, B8.out, R10.out, MM.out, BB.out⟩
  case rest =>
    obtain ⟨b12, bs, rfl, n12, B12', PS', B11', B5', B8', R10', MM', BB'⟩ := hcut
    clear B11 B5 B8 R10 MM BB
    have B12 := Lib.hid B12'
    clear B12'
    have PS := Lib.hid PS'
    clear PS'
    have B11 := Lib.hid B11'
    clear B11'
    have B5 := Lib.hid B5'
    clear B5'
    have B8 := Lib.hid B8'
    clear B8'
    have R10 := Lib.hid R10'
    clear R10'
    have MM := Lib.hid MM'
    clear MM'
    have BB := Lib.hid BB'
    clear BB'
    have kc0 := B11.out.cells1.1
    go_wp2_with fail
    clear kc0
    refine (len_c ha hn hn _).mono ?_
    rintro e a20 ⟨rfl, hb⟩
    have B12' := Lib.hid (B12.out.below (hb))
    have PS' := Lib.hid (PS.out.below (hb))
    have B11' := Lib.hid (B11.out.below (hb))
    have B5' := Lib.hid (B5.out.below (hb))
    have B8' := Lib.hid (B8.out.below (hb))
    have R10' := Lib.hid (R10.out.below (hb))
    have MM' := Lib.hid (MM.out.below (hb))
    have BB' := Lib.hid (BB.out.trans ((hb).mono BB.out.size))
    clear B12
    have B12 := B12'
    clear B12'
    clear PS
    have PS := PS'
    clear PS'
    clear B11
    have B11 := B11'
    clear B11'
    clear B5
    have B5 := B5'
    clear B5'
    clear B8
    have B8 := B8'
    clear B8'
    clear R10
    have R10 := R10'
    clear R10'
    clear MM
    have MM := MM'
    clear MM'
    clear BB
    have BB := BB'
    clear BB'
    clear hb
    go_wp2_with fail
    refine (with_any none [] p hn _ (by omega) (by omega) (by omega) (by omega) (VW.nil _)).mono ?_
    rintro e a21 ⟨bt, hbt, rfl, hv1, hb⟩
    have B12' := Lib.hid (B12.out.below (hb))
    have PS' := Lib.hid (PS.out.below (hb))
    have B11' := Lib.hid (B11.out.below (hb))
    have B5' := Lib.hid (B5.out.below (hb))
    have B8' := Lib.hid (B8.out.below (hb))
    have R10' := Lib.hid (R10.out.below (hb))
    have MM' := Lib.hid (MM.out.below (hb))
    have BB' := Lib.hid (BB.out.trans ((hb).mono BB.out.size))
    clear B12
    have B12 := B12'
    clear B12'
    clear PS
    have PS := PS'
    clear PS'
    clear B11
    have B11 := B11'
    clear B11'
    clear B5
    have B5 := B5'
    clear B5'
    clear B8
    have B8 := B8'
    clear B8'
    clear R10
    have R10 := R10'
    clear R10'
    clear MM
    have MM := MM'
    clear MM'
    clear BB
    have BB := BB'
    clear BB'
    clear hb
    have PT := Lib.hid (hv1)
    clear hv1
    go_upto_region 4 with fail
    have hlt_b13 := BB.out.size
    have hlt_b13_B12 := B12.out.lt
    have hlt_b13_B11 := B11.out.lt
    have hlt_b13_B5 := B5.out.lt
    have hlt_b13_B8 := B8.out.lt
    have hlt_b13_R10 := R10.out.lt
    have B12' := Lib.hid (B12.out.below (below_new a21 (.cells #[.map (some bt)] 60)))
    have PS' := Lib.hid (PS.out.below (below_new a21 (.cells #[.map (some bt)] 60)))
    have B11' := Lib.hid (B11.out.below (below_new a21 (.cells #[.map (some bt)] 60)))
    have B5' := Lib.hid (B5.out.below (below_new a21 (.cells #[.map (some bt)] 60)))
    have B8' := Lib.hid (B8.out.below (below_new a21 (.cells #[.map (some bt)] 60)))
    have R10' := Lib.hid (R10.out.below (below_new a21 (.cells #[.map (some bt)] 60)))
    have MM' := Lib.hid (MM.out.below (below_new a21 (.cells #[.map (some bt)] 60)))
    have PT' := Lib.hid (PT.out.below (below_new a21 (.cells #[.map (some bt)] 60)))
    have BB' := Lib.hid (BB.out.trans ((below_new a21 (.cells #[.map (some bt)] 60)).mono BB.out.size))
    clear B12
    have B12 := B12'
    clear B12'
    clear PS
    have PS := PS'
    clear PS'
    clear B11
    have B11 := B11'
    clear B11'
    clear B5
    have B5 := B5'
    clear B5'
    clear B8
    have B8 := B8'
    clear B8'
    clear R10
    have R10 := R10'
    clear R10'
    clear MM
    have MM := MM'
    clear MM'
    clear PT
    have PT := PT'
    clear PT'
    clear BB
    have BB := BB'
    clear BB'
    have B13 := Lib.hid (Box.new a21 #[.map (some bt)] 60 rfl)
    have hsz_b13 : (World.alloc a21 (.cells #[.map (some bt)] 60)).heap.size = (World.heap a21).size + 1 := by simp
    generalize World.alloc a21 (.cells #[.map (some bt)] 60) = a22 at *
    generalize World.heap a21 = hp_b13 at *
    generalize hp_b13.size = b13 at *
    have m12 := B12.out.cells1.1
    obtain ⟨m13, g13⟩ := B13.out.cells1
    go_upto_region 6 with fail
    clear m12 m13 g13
    have B12' := Lib.hid (B12.out.only (by omega) ((Only.refl b13 a22).set 0 (.map (some bs))))
    have PS' := Lib.hid (PS.out.only B13.out ((Only.refl b13 a22).set 0 (.map (some bs))))
    have B11' := Lib.hid (B11.out.only (by omega) ((Only.refl b13 a22).set 0 (.map (some bs))))
    have B5' := Lib.hid (B5.out.only (by omega) ((Only.refl b13 a22).set 0 (.map (some bs))))
    have B8' := Lib.hid (B8.out.only (by omega) ((Only.refl b13 a22).set 0 (.map (some bs))))
    have R10' := Lib.hid (R10.out.only (by omega) ((Only.refl b13 a22).set 0 (.map (some bs))))
    have MM' := Lib.hid (MM.out.only B13.out (by omega) ((Only.refl b13 a22).set 0 (.map (some bs))))
    have PT' := Lib.hid (PT.out.only B13.out ((Only.refl b13 a22).set 0 (.map (some bs))))
    have B13' := Lib.hid ((B13.out).set 0 (.map (some bs)))
    have BB' := Lib.hid ((BB.out).put b13 (by omega) 0 (.map (some bs)))
    clear B12
    have B12 := B12'
    clear B12'
    clear PS
    have PS := PS'
    clear PS'
    clear B11
    have B11 := B11'
    clear B11'
    clear B5
    have B5 := B5'
    clear B5'
    clear B8
    have B8 := B8'
    clear B8'
    clear R10
    have R10 := R10'
    clear R10'
    clear MM
    have MM := MM'
    clear MM'
    clear PT
    have PT := PT'
    clear PT'
    clear B13
    have B13 := B13'
    clear B13'
    clear BB
    have BB := BB'
    clear BB'
    generalize (World.setCell a22 ⟨b13, 0, none⟩ (.map (some bs))) = s12 at *
    have m11 := B11.out.cells1.1
    have m13 := B13.out.cells1.1
    obtain ⟨⟨k0, k1, k2⟩, -⟩ := B8.out.cells3
    go_wp2_with fail
    clear m11 m13 k0 k1 k2
    have hlta11 := B11.out.lt
    have hlta10 := R10.out.lt
    refine (add_any (.slice ha hn hn) q ((⟨ya, yb, yc, (k : Int) + 1, withL vm p hn⟩ : Msg), (some bs : Option Nat)) _ (MM.out.atP HP.out) PS.out (by rw [HQ.out]; omega)).mono ?_
    rintro e a23 ⟨bh, hbh, rfl, hh, hb⟩
    have B12' := Lib.hid (B12.out.below (hb))
    have PS' := Lib.hid (PS.out.below (hb))
    have B11' := Lib.hid (B11.out.below (hb))
    have B5' := Lib.hid (B5.out.below (hb))
    have B8' := Lib.hid (B8.out.below (hb))
    have R10' := Lib.hid (R10.out.below (hb))
    have MM' := Lib.hid (MM.out.below (hb))
    have PT' := Lib.hid (PT.out.below (hb))
    have B13' := Lib.hid (B13.out.below (hb))
    have BB' := Lib.hid (BB.out.trans ((hb).mono BB.out.size))
    clear B12
    have B12 := B12'
    clear B12'
    clear PS
    have PS := PS'
    clear PS'
    clear B11
    have B11 := B11'
    clear B11'
    clear B5
    have B5 := B5'
    clear B5'
    clear B8
    have B8 := B8'
    clear B8'
    clear R10
    have R10 := R10'
    clear R10'
    clear MM
    have MM := MM'
    clear MM'
    clear PT
    have PT := PT'
    clear PT'
    clear B13
    have B13 := B13'
    clear B13'
    clear BB
    have BB := BB'
    clear BB'
    clear hb
    have HN := Lib.hid (hh)
    clear hh
    rw [show (q ++ [((⟨ya, yb, yc, (k : Int) + 1, withL vm p hn⟩ : Msg), (some bs : Option Nat))]).length = hn + 1 by rw [List.length_append, HQ.out]; rfl] at HN ⊢
    obtain ⟨m11, g11⟩ := B11.out.cells1
    go_upto_region 7 with fail
    clear m11 g11
    have B12' := Lib.hid (B12.out.only (by omega) ((Only.refl b11 a23).set 0 (.slice (some ⟨bh, 0, none⟩) (hn + 1) (hn + 1))))
    have PS' := Lib.hid (PS.out.only B11.out ((Only.refl b11 a23).set 0 (.slice (some ⟨bh, 0, none⟩) (hn + 1) (hn + 1))))
    have B11' := Lib.hid ((B11.out).set 0 (.slice (some ⟨bh, 0, none⟩) (hn + 1) (hn + 1)))
    have B5' := Lib.hid (B5.out.only (by omega) ((Only.refl b11 a23).set 0 (.slice (some ⟨bh, 0, none⟩) (hn + 1) (hn + 1))))
    have B8' := Lib.hid (B8.out.only (by omega) ((Only.refl b11 a23).set 0 (.slice (some ⟨bh, 0, none⟩) (hn + 1) (hn + 1))))
    have R10' := Lib.hid (R10.out.only (by omega) ((Only.refl b11 a23).set 0 (.slice (some ⟨bh, 0, none⟩) (hn + 1) (hn + 1))))
    have MM' := Lib.hid (MM.out.only B11.out (by omega) ((Only.refl b11 a23).set 0 (.slice (some ⟨bh, 0, none⟩) (hn + 1) (hn + 1))))
    have PT' := Lib.hid (PT.out.only B11.out ((Only.refl b11 a23).set 0 (.slice (some ⟨bh, 0, none⟩) (hn + 1) (hn + 1))))
    have B13' := Lib.hid (B13.out.only (by omega) ((Only.refl b11 a23).set 0 (.slice (some ⟨bh, 0, none⟩) (hn + 1) (hn + 1))))
    have HN' := Lib.hid (HN.out.only B11.out (fun a n c e => by cases e; simp only; omega) ((Only.refl b11 a23).set 0 (.slice (some ⟨bh, 0, none⟩) (hn + 1) (hn + 1))))
    have BB' := Lib.hid ((BB.out).put b11 (by omega) 0 (.slice (some ⟨bh, 0, none⟩) (hn + 1) (hn + 1)))
    clear B12
    have B12 := B12'
    clear B12'
    clear PS
    have PS := PS'
    clear PS'
    clear B11
    have B11 := B11'
    clear B11'
    clear B5
    have B5 := B5'
    clear B5'
    clear B8
    have B8 := B8'
    clear B8'
    clear R10
    have R10 := R10'
    clear R10'
    clear MM
    have MM := MM'
    clear MM'
    clear PT
    have PT := PT'
    clear PT'
    clear B13
    have B13 := B13'
    clear B13'
    clear HN
    have HN := HN'
    clear HN'
    clear BB
    have BB := BB'
    clear BB'
    generalize (World.setCell a23 ⟨b11, 0, none⟩ (.slice (some ⟨bh, 0, none⟩) (hn + 1) (hn + 1))) = s13 at *
    have B12' := Lib.hid (B12.out.below ((Below.refl _ _).drew))
    have PS' := Lib.hid (PS.out.below ((Below.refl _ _).drew))
    have B11' := Lib.hid (B11.out.below ((Below.refl _ _).drew))
    have B5' := Lib.hid (B5.out.below ((Below.refl _ _).drew))
    have B8' := Lib.hid (B8.out.below ((Below.refl _ _).drew))
    have R10' := Lib.hid (R10.out.below ((Below.refl _ _).drew))
    have MM' := Lib.hid (MM.out.below ((Below.refl _ _).drew))
    have PT' := Lib.hid (PT.out.below ((Below.refl _ _).drew))
    have B13' := Lib.hid (B13.out.below ((Below.refl _ _).drew))
    have HN' := Lib.hid (HN.out.below ((Below.refl _ _).drew))
    have BB' := Lib.hid (BB.out.trans (((Below.refl _ _).drew).mono BB.out.size))
    clear B12
    have B12 := B12'
    clear B12'
    clear PS
    have PS := PS'
    clear PS'
    clear B11
    have B11 := B11'
    clear B11'
    clear B5
    have B5 := B5'
    clear B5'
    clear B8
    have B8 := B8'
    clear B8'
    clear R10
    have R10 := R10'
    clear R10'
    clear MM
    have MM := MM'
    clear MM'
    clear PT
    have PT := PT'
    clear PT'
    clear B13
    have B13 := B13'
    clear B13'
    clear HN
    have HN := HN'
    clear HN'
    clear BB
    have BB := BB'
    clear BB'
    refine wp_region_held_drew (S := fun w' => w'.cell? ⟨b5, 0, none⟩ = some (.slice (some ⟨bP, 0, none⟩) np np) ∧ w'.cell? ⟨b5, 1, none⟩ = some (.slice (some ⟨bV, 0, none⟩) nv nv) ∧ w'.cell? ⟨b11, 0, none⟩ = some (.slice (some ⟨bh, 0, none⟩) (hn + 1) (hn + 1)) ∧ w'.cell? ⟨b12, 0, none⟩ = some (.map (some bs))) (by kernel_rfl) ⟨B5.out.cells2.1.1, B5.out.cells2.1.2, B11.out.cells1.1, B12.out.cells1.1⟩ (fun hHeld => ?_)
    generalize World.drew s13 = V14 at *
    refine wpAnyH_take (i := 0) (oi := { dst := some 42, op := Op.fieldAddr 31 (Operand.tmp 5) 0, type := 0, pos := "memory.go:140", after := #[], guard := none }) (v := ?d15_1xv0) rfl (by kernel_rfl) (by kernel_rfl) (by kernel_rfl) (fun _ _ _ h => h) (Or.inl ⟨by rfl, ?d15_1xy0⟩) (by assumption) ?d15_1xr0
    case d15_1xy0 => (intro w hSw; (try dsimp only at hSw); go_simp; try with_reducible rfl)
    (try simp only [Act.put])
    (try simp only [List.setIfInBounds_toArray])
    (try simp only [List.set_cons_succ])
    (try simp only [List.set_cons_zero])
    refine wpAnyH_take (i := 1) (oi := { dst := some 43, op := Op.load 28 (Operand.tmp 42), type := 28, pos := "memory.go:140", after := #[{ on := 0, ground := Ground.data }], guard := none }) (v := ?d15_2xv1) rfl (by kernel_rfl) (by kernel_rfl) (by kernel_rfl) (fun _ _ _ h => h) (Or.inl ⟨by rfl, ?d15_2xy1⟩) (by assumption) ?d15_2xr1
    case d15_2xy1 => (intro w hSw; (try dsimp only at hSw); go_simp; try with_reducible rfl)
    (try simp only [Act.put])
    (try simp only [List.setIfInBounds_toArray])
    (try simp only [List.set_cons_succ])
    (try simp only [List.set_cons_zero])
    refine wpAnyH_take (i := 2) (oi := { dst := some 44, op := Op.move (Operand.tmp 2), type := 42, pos := "memory.go:140", after := #[], guard := none }) (v := ?d15_3xv2) rfl (by kernel_rfl) (by kernel_rfl) (by kernel_rfl) (fun _ _ _ h => h) (Or.inl ⟨by rfl, ?d15_3xy2⟩) (by assumption) ?d15_3xr2
    case d15_3xy2 => (intro w hSw; (try dsimp only at hSw); go_simp; try with_reducible rfl)
    (try simp only [Act.put])
    (try simp only [List.setIfInBounds_toArray])
    (try simp only [List.set_cons_succ])
    (try simp only [List.set_cons_zero])
    refine wpAnyH_take (i := 3) (oi := { dst := some 45, op := Op.load 65 (Operand.tmp 11), type := 65, pos := "memory.go:140", after := #[], guard := none }) (v := ?d15_4xv3) rfl (by kernel_rfl) (by kernel_rfl) (by kernel_rfl) (fun _ _ _ h => h) (Or.inl ⟨by rfl, ?d15_4xy3⟩) (by assumption) ?d15_4xr3
    case d15_4xy3 => (intro w hSw; (try dsimp only at hSw); go_simp; try with_reducible rfl)
    (try simp only [Act.put])
    (try simp only [List.setIfInBounds_toArray])
    (try simp only [List.set_cons_succ])
    (try simp only [List.set_cons_zero])
    refine wpAnyH_take (i := 5) (oi := { dst := some 47, op := Op.fieldAddr 31 (Operand.tmp 5) 1, type := 0, pos := "memory.go:140", after := #[], guard := none }) (v := ?d15_5xv5) rfl (by kernel_rfl) (by kernel_rfl) (by kernel_rfl) (fun _ _ _ h => h) (Or.inl ⟨by rfl, ?d15_5xy5⟩) (by assumption) ?d15_5xr5
    case d15_5xy5 => (intro w hSw; (try dsimp only at hSw); go_simp; try with_reducible rfl)
    (try simp only [Act.put])
    (try simp only [List.setIfInBounds_toArray])
    (try simp only [List.set_cons_succ])
    (try simp only [List.set_cons_zero])
    refine wpAnyH_take (i := 6) (oi := { dst := some 48, op := Op.load 29 (Operand.tmp 47), type := 29, pos := "memory.go:140", after := #[{ on := 5, ground := Ground.data }], guard := none }) (v := ?d15_6xv6) rfl (by kernel_rfl) (by kernel_rfl) (by kernel_rfl) (fun _ _ _ h => h) (Or.inl ⟨by rfl, ?d15_6xy6⟩) (by assumption) ?d15_6xr6
    case d15_6xy6 => (intro w hSw; (try dsimp only at hSw); go_simp; try with_reducible rfl)
    (try simp only [Act.put])
    (try simp only [List.setIfInBounds_toArray])
    (try simp only [List.set_cons_succ])
    (try simp only [List.set_cons_zero])
    refine wpAnyH_take (i := 7) (oi := { dst := some 49, op := Op.move (Operand.tmp 1), type := 3, pos := "memory.go:140", after := #[], guard := none }) (v := ?d15_7xv7) rfl (by kernel_rfl) (by kernel_rfl) (by kernel_rfl) (fun _ _ _ h => h) (Or.inl ⟨by rfl, ?d15_7xy7⟩) (by assumption) ?d15_7xr7
    case d15_7xy7 => (intro w hSw; (try dsimp only at hSw); go_simp; try with_reducible rfl)
    (try simp only [Act.put])
    (try simp only [List.setIfInBounds_toArray])
    (try simp only [List.set_cons_succ])
    (try simp only [List.set_cons_zero])
    refine wpAnyH_take (i := 8) (oi := { dst := some 50, op := Op.binOp BinOp.sub 3 (Operand.tmp 49) (Operand.const (Value.int IntKind.i64 1)) 3, type := 3, pos := "memory.go:140", after := #[{ on := 7, ground := Ground.data }], guard := none }) (v := ?d15_8xv8) rfl (by kernel_rfl) (by kernel_rfl) (by kernel_rfl) (fun _ _ _ h => h) (Or.inl ⟨by rfl, ?d15_8xy8⟩) (by assumption) ?d15_8xr8
    case d15_8xy8 => (intro w hSw; (try dsimp only at hSw); go_simp; try with_reducible rfl)
    (try simp only [Act.put])
    (try simp only [List.setIfInBounds_toArray])
    (try simp only [List.set_cons_succ])
    (try simp only [List.set_cons_zero])
    refine wpAnyH_take (i := 9) (oi := { dst := some 51, op := Op.load 60 (Operand.tmp 12), type := 60, pos := "memory.go:140", after := #[], guard := none }) (v := ?d15_9xv9) rfl (by kernel_rfl) (by kernel_rfl) (by kernel_rfl) (fun _ _ _ h => h) (Or.inl ⟨by rfl, ?d15_9xy9⟩) (by assumption) ?d15_9xr9
    case d15_9xy9 => (intro w hSw; (try dsimp only at hSw); go_simp; try with_reducible rfl)
    (try simp only [Act.put])
    (try simp only [List.setIfInBounds_toArray])
    (try simp only [List.set_cons_succ])
    (try simp only [List.set_cons_zero])
    refine wpAnyH_ready (rs := [4]) (by kernel_rfl) (by simp) ?_
    refine AllReadyH.cons (o := { dst := some 46, op := Op.call { callee := Callee.value (Operand.func 52), args := #[Operand.tmp 43, Operand.tmp 44, Operand.tmp 45], argTypes := #[28, 3, 65] }, type := 28, pos := "memory.go:140", after := #[{ on := 1, ground := Ground.data }, { on := 2, ground := Ground.data }, { on := 3, ground := Ground.data }], guard := none }) rfl (fun K hK => ?_) AllReadyH.nil
    go_simp
    go_at_call 52
    have hltr10 := R10.out.lt
    refine (repl_h _ _ p (some ⟨bh, 0, none⟩) (hn + 1) (hn + 1) _ (MM.out.rowP E1.out) MM.out.oneP (by rw [List.length_map, E1.out]; omega) (by rw [List.length_map, E1.out]; omega)).mono ?_
    rintro e v15 ⟨bN, hbN, rfl, hr, hb⟩
    have B12' := Lib.hid (B12.out.below (hb))
    have PS' := Lib.hid (PS.out.below (hb))
    have B11' := Lib.hid (B11.out.below (hb))
    have B5' := Lib.hid (B5.out.below (hb))
    have B8' := Lib.hid (B8.out.below (hb))
    have R10' := Lib.hid (R10.out.below (hb))
    have MM' := Lib.hid (MM.out.below (hb))
    have PT' := Lib.hid (PT.out.below (hb))
    have B13' := Lib.hid (B13.out.below (hb))
    have HN' := Lib.hid (HN.out.below (hb))
    have BB' := Lib.hid (BB.out.trans ((hb).mono BB.out.size))
    clear B12
    have B12 := B12'
    clear B12'
    clear PS
    have PS := PS'
    clear PS'
    clear B11
    have B11 := B11'
    clear B11'
    clear B5
    have B5 := B5'
    clear B5'
    clear B8
    have B8 := B8'
    clear B8'
    clear R10
    have R10 := R10'
    clear R10'
    clear MM
    have MM := MM'
    clear MM'
    clear PT
    have PT := PT'
    clear PT'
    clear B13
    have B13 := B13'
    clear B13'
    clear HN
    have HN := HN'
    clear HN'
    clear BB
    have BB := BB'
    clear BB'
    clear hb
    have RP := Lib.hid (hr)
    clear hr
    rw [show ((P.map (·.1)).set p (.slice (some ⟨bh, 0, none⟩) (hn + 1) (hn + 1))).length = np by rw [List.length_set, List.length_map, E1.out]] at RP ⊢
    go_simp
    refine hK.out _ _ ?_ (fun hHeld => ?_)
    · exact ⟨B5.out.cells2.1.1, B5.out.cells2.1.2, B11.out.cells1.1, B12.out.cells1.1⟩
    clear hK K
    (try simp only [Act.put])
    (try simp only [List.setIfInBounds_toArray])
    (try simp only [List.set_cons_succ])
    (try simp only [List.set_cons_zero])
    refine wpAnyH_ready (rs := [10]) (by kernel_rfl) (by simp) ?_
    refine AllReadyH.cons (o := { dst := some 52, op := Op.call { callee := Callee.value (Operand.func 53), args := #[Operand.tmp 48, Operand.tmp 50, Operand.tmp 51], argTypes := #[29, 3, 60] }, type := 29, pos := "memory.go:140", after := #[{ on := 6, ground := Ground.data }, { on := 8, ground := Ground.data }, { on := 9, ground := Ground.data }, { on := 4, ground := Ground.chain }], guard := none }) rfl (fun K hK => ?_) AllReadyH.nil
    go_simp
    go_at_call 53
    (try rw [hwk])
    have hltr10b := R10.out.lt
    refine (repl_v _ _ k (some bs) _ (MM.out.rowV E2.out) (oneV_cells V) (by rw [List.length_map, E2.out]; omega) (by rw [List.length_map, E2.out]; omega)).mono ?_
    rintro e v16 ⟨bM, hbM, rfl, hr, hb⟩
    have B12' := Lib.hid (B12.out.below (hb))
    have PS' := Lib.hid (PS.out.below (hb))
    have B11' := Lib.hid (B11.out.below (hb))
    have B5' := Lib.hid (B5.out.below (hb))
    have B8' := Lib.hid (B8.out.below (hb))
    have R10' := Lib.hid (R10.out.below (hb))
    have MM' := Lib.hid (MM.out.below (hb))
    have PT' := Lib.hid (PT.out.below (hb))
    have B13' := Lib.hid (B13.out.below (hb))
    have HN' := Lib.hid (HN.out.below (hb))
    have RP' := Lib.hid (RP.out.below (hb))
    have BB' := Lib.hid (BB.out.trans ((hb).mono BB.out.size))
    clear B12
    have B12 := B12'
    clear B12'
    clear PS
    have PS := PS'
    clear PS'
    clear B11
    have B11 := B11'
    clear B11'
    clear B5
    have B5 := B5'
    clear B5'
    clear B8
    have B8 := B8'
    clear B8'
    clear R10
    have R10 := R10'
    clear R10'
    clear MM
    have MM := MM'
    clear MM'
    clear PT
    have PT := PT'
    clear PT'
    clear B13
    have B13 := B13'
    clear B13'
    clear HN
    have HN := HN'
    clear HN'
    clear RP
    have RP := RP'
    clear RP'
    clear BB
    have BB := BB'
    clear BB'
    clear hb
    have RV := Lib.hid (hr)
    clear hr
    rw [show ((V.map fun x => Value.map x.1).set k (.map (some bs))).length = nv by rw [List.length_set, List.length_map, E2.out]] at RV ⊢
    go_simp
    refine hK.out _ _ ?_ (fun hHeld => ?_)
    · exact ⟨B5.out.cells2.1.1, B5.out.cells2.1.2, B11.out.cells1.1, B12.out.cells1.1⟩
    clear hK K
    (try simp only [Act.put])
    (try simp only [List.setIfInBounds_toArray])
    (try simp only [List.set_cons_succ])
    (try simp only [List.set_cons_zero])
    refine wpAnyH_take (i := 11) (oi := { dst := some 53, op := Op.build 31 #[(0, Operand.tmp 46), (1, Operand.tmp 52)], type := 31, pos := "memory.go:140", after := #[{ on := 4, ground := Ground.data }, { on := 10, ground := Ground.data }], guard := none }) (v := ?d17_10xv11) rfl (by kernel_rfl) (by kernel_rfl) (by kernel_rfl) (fun _ _ _ h => h) (Or.inl ⟨by rfl, ?d17_10xy11⟩) (by assumption) ?d17_10xr11
    case d17_10xy11 => (intro w hSw; (try dsimp only at hSw); go_simp; try with_reducible rfl)
    (try simp only [Act.put])
    (try simp only [List.setIfInBounds_toArray])
    (try simp only [List.set_cons_succ])
    (try simp only [List.set_cons_zero])
    refine wpAnyH_ready (rs := [12]) (by kernel_rfl) (by simp) ?_
    refine AllReadyH.cons (o := { dst := none, op := Op.store 31 (Operand.tmp 10) (Operand.tmp 53), type := 0, pos := "memory.go:140", after := #[{ on := 11, ground := Ground.data }, { on := 10, ground := Ground.chain }, { on := 0, ground := Ground.phase }, { on := 1, ground := Ground.phase }, { on := 2, ground := Ground.phase }, { on := 3, ground := Ground.phase }, { on := 4, ground := Ground.phase }, { on := 5, ground := Ground.phase }, { on := 6, ground := Ground.phase }, { on := 7, ground := Ground.phase }, { on := 8, ground := Ground.phase }, { on := 9, ground := Ground.phase }, { on := 10, ground := Ground.phase }, { on := 11, ground := Ground.phase }], guard := none }) rfl (fun K hK => ?_) AllReadyH.nil
    obtain ⟨⟨m0, m1⟩, g0, g1⟩ := R10.out.cells2
    go_simp
    clear m0 g0 m1 g1
    have B12' := Lib.hid (B12.out.only (by omega) (((Only.refl b10 v16).set 0 (.slice (some ⟨bN, 0, none⟩) np np)).set 1 (.slice (some ⟨bM, 0, none⟩) nv nv)))
    have PS' := Lib.hid (PS.out.only R10.out (((Only.refl b10 v16).set 0 (.slice (some ⟨bN, 0, none⟩) np np)).set 1 (.slice (some ⟨bM, 0, none⟩) nv nv)))
    have B11' := Lib.hid (B11.out.only (by omega) (((Only.refl b10 v16).set 0 (.slice (some ⟨bN, 0, none⟩) np np)).set 1 (.slice (some ⟨bM, 0, none⟩) nv nv)))
    have B5' := Lib.hid (B5.out.only (by omega) (((Only.refl b10 v16).set 0 (.slice (some ⟨bN, 0, none⟩) np np)).set 1 (.slice (some ⟨bM, 0, none⟩) nv nv)))
    have B8' := Lib.hid (B8.out.only (by omega) (((Only.refl b10 v16).set 0 (.slice (some ⟨bN, 0, none⟩) np np)).set 1 (.slice (some ⟨bM, 0, none⟩) nv nv)))
    have R10' := Lib.hid (((R10.out).set 0 (.slice (some ⟨bN, 0, none⟩) np np)).set 1 (.slice (some ⟨bM, 0, none⟩) nv nv))
    have MM' := Lib.hid (MM.out.only R10.out (by omega) (((Only.refl b10 v16).set 0 (.slice (some ⟨bN, 0, none⟩) np np)).set 1 (.slice (some ⟨bM, 0, none⟩) nv nv)))
    have PT' := Lib.hid (PT.out.only R10.out (((Only.refl b10 v16).set 0 (.slice (some ⟨bN, 0, none⟩) np np)).set 1 (.slice (some ⟨bM, 0, none⟩) nv nv)))
    have B13' := Lib.hid (B13.out.only (by omega) (((Only.refl b10 v16).set 0 (.slice (some ⟨bN, 0, none⟩) np np)).set 1 (.slice (some ⟨bM, 0, none⟩) nv nv)))
    have HN' := Lib.hid (HN.out.only R10.out (fun a n c e => by cases e; simp only; omega) (((Only.refl b10 v16).set 0 (.slice (some ⟨bN, 0, none⟩) np np)).set 1 (.slice (some ⟨bM, 0, none⟩) nv nv)))
    have RP' := Lib.hid (RP.out.only (by omega) (((Only.refl b10 v16).set 0 (.slice (some ⟨bN, 0, none⟩) np np)).set 1 (.slice (some ⟨bM, 0, none⟩) nv nv)))
    have RV' := Lib.hid (RV.out.only (by omega) (((Only.refl b10 v16).set 0 (.slice (some ⟨bN, 0, none⟩) np np)).set 1 (.slice (some ⟨bM, 0, none⟩) nv nv)))
    have BB' := Lib.hid (((BB.out).put b10 (by omega) 0 (.slice (some ⟨bN, 0, none⟩) np np)).put b10 (by omega) 1 (.slice (some ⟨bM, 0, none⟩) nv nv))
    clear B12
    have B12 := B12'
    clear B12'
    clear PS
    have PS := PS'
    clear PS'
    clear B11
    have B11 := B11'
    clear B11'
    clear B5
    have B5 := B5'
    clear B5'
    clear B8
    have B8 := B8'
    clear B8'
    clear R10
    have R10 := R10'
    clear R10'
    clear MM
    have MM := MM'
    clear MM'
    clear PT
    have PT := PT'
    clear PT'
    clear B13
    have B13 := B13'
    clear B13'
    clear HN
    have HN := HN'
    clear HN'
    clear RP
    have RP := RP'
    clear RP'
    clear RV
    have RV := RV'
    clear RV'
    clear BB
    have BB := BB'
    clear BB'
    generalize (World.setCell (World.setCell v16 ⟨b10, 0, none⟩ (.slice (some ⟨bN, 0, none⟩) np np)) ⟨b10, 1, none⟩ (.slice (some ⟨bM, 0, none⟩) nv nv)) = v17 at *
    refine hK.out _ _ ?_ (fun hHeld => ?_)
    · exact ⟨B5.out.cells2.1.1, B5.out.cells2.1.2, B11.out.cells1.1, B12.out.cells1.1⟩
    clear hK K
    (try simp only [Act.put])
    (try simp only [List.setIfInBounds_toArray])
    (try simp only [List.set_cons_succ])
    (try simp only [List.set_cons_zero])
    refine wpAnyH_done (by kernel_rfl) ?_ _
    obtain ⟨⟨m0, m1⟩, -⟩ := R10.out.cells2
    have F1 := RP.out
    have F3 := RV.out
    have F4 := HN.out
    have F5 := PS.out
    have F2 := BB.out
    go_wp2
    refine bodyPost_ret (v := .agg #[.slice (some ⟨bN, 0, none⟩) np np, .slice (some ⟨bM, 0, none⟩) nv nv]) (by simp [results, Try.results38, go_sem, m0, m1]) rfl ?_
    exact ⟨bN, bM, bh, some bs, some bs, rfl, ⟨by omega, by omega, by omega⟩, F1, F3, F4, F5, F2⟩

set_option maxRecDepth 100000 in
set_option maxHeartbeats 6400000 in
theorem write_plain (ya yb yc : Int) (bP bV np nv B k p hn : Nat) (P : List PL) (V : List VL) (ha : Option Addr) (q : List MP) (vp : Option Nat) (vm : List (Int × Int)) (w : World)
    (h : MO B bP bV P V w) (e1 : P.length = np) (e2 : V.length = nv) (l1 : np ≤ 4096) (l2 : nv ≤ 8) (hp : P[p]? = some ((.slice ha hn hn), q)) (hv : V[k]? = some (vp, vm)) (hq : q.length = hn) (hql : hn ≤ 1000) :
    Calls Try.prog 38 #[.agg #[.slice (some ⟨bP, 0, none⟩) np np, .slice (some ⟨bV, 0, none⟩) nv nv], .int .i64 ((k : Int) + 1), .int .i64 p, .agg #[.int .i64 ya, .int .u32 yb, .int .u32 yc], .bool false] w fun e w' => ∃ bN bM bh vp' tp, e = .returned (.agg #[.slice (some ⟨bN, 0, none⟩) np np, .slice (some ⟨bM, 0, none⟩) nv nv]) ∧
      (w.heap.size ≤ bN ∧ w.heap.size ≤ bM ∧ w.heap.size ≤ bh) ∧ RW w' (.slice (some ⟨bN, 0, none⟩) np np) ((P.map (·.1)).set p (.slice (some ⟨bh, 0, none⟩) (hn + 1) (hn + 1))) ∧ RW w' (.slice (some ⟨bM, 0, none⟩) nv nv) ((V.map fun x => Value.map x.1).set k (.map vp')) ∧
      HW w' (.slice (some ⟨bh, 0, none⟩) (hn + 1) (hn + 1)) (q ++ [(⟨ya, yb, yc, (k : Int) + 1, withL [] p hn⟩, tp)]) ∧ VW w' vp' (withL vm p hn) ∧ Below w.heap.size w w' := by
  have hk : k < nv := by rw [← e2]; exact (List.getElem?_eq_some_iff.1 hv).1
  have hpn : p < np := by rw [← e1]; exact (List.getElem?_eq_some_iff.1 hp).1
  have HP := Lib.hid hp
  have HV := Lib.hid hv
  have HQ := Lib.hid hq
  have E1 := Lib.hid e1
  have E2 := Lib.hid e2
  have hwk : IntKind.i64.wrap ((k : Int)) = k := IntWalk.i64_in _ (by omega)
  have B5 := Lib.hid (Box.alloc (Box.alloc (Box.new w #[.slice (some ⟨bP, 0, none⟩) np np, .slice (some ⟨bV, 0, none⟩) nv nv] 31 rfl) (.cells #[.int .i64 ya, .int .u32 yb, .int .u32 yc] 45)) (.cells #[.slice none 0 0, .slice none 0 0] 31))
  have B8 := Lib.hid (Box.alloc (Box.new (w.alloc (.cells #[.slice (some ⟨bP, 0, none⟩) np np, .slice (some ⟨bV, 0, none⟩) nv nv] 31)) #[.int .i64 ya, .int .u32 yb, .int .u32 yc] 45 (n := w.heap.size + 1) (by simp)) (.cells #[.slice none 0 0, .slice none 0 0] 31))
  have R10 := Lib.hid (Box.new ((w.alloc (.cells #[.slice (some ⟨bP, 0, none⟩) np np, .slice (some ⟨bV, 0, none⟩) nv nv] 31)).alloc (.cells #[.int .i64 ya, .int .u32 yb, .int .u32 yc] 45)) #[.slice none 0 0, .slice none 0 0] 31 (n := w.heap.size + 1 + 1) (by simp))
  have BB := Lib.hid (b3 w (.cells #[.slice (some ⟨bP, 0, none⟩) np np, .slice (some ⟨bV, 0, none⟩) nv nv] 31) (.cells #[.int .i64 ya, .int .u32 yb, .int .u32 yc] 45) (.cells #[.slice none 0 0, .slice none 0 0] 31))
  have MM := Lib.hid (h.below (b3 w (.cells #[.slice (some ⟨bP, 0, none⟩) np np, .slice (some ⟨bV, 0, none⟩) nv nv] 31) (.cells #[.int .i64 ya, .int .u32 yb, .int .u32 yc] 45) (.cells #[.slice none 0 0, .slice none 0 0] 31)))
  have hB := h.le
  clear h hp hv hq e1 e2
  go_enter Try.func38, Try.ntmps38
  go_upto_region 1 with fail
  generalize ((w.alloc (.cells #[.slice (some ⟨bP, 0, none⟩) np np, .slice (some ⟨bV, 0, none⟩) nv nv] 31)).alloc (.cells #[.int .i64 ya, .int .u32 yb, .int .u32 yc] 45)).alloc (.cells #[.slice none 0 0, .slice none 0 0] 31) = W0 at *
  obtain ⟨b10, hb10⟩ : ∃ br, w.heap.size + 1 + 1 = br := ⟨_, rfl⟩
  obtain ⟨b8, hb8⟩ : ∃ br, w.heap.size + 1 = br := ⟨_, rfl⟩
  obtain ⟨b5, hb5⟩ : ∃ bp, w.heap.size = bp := ⟨_, rfl⟩
  have hbq := hb5
  rw [hb10] at R10 ⊢
  rw [hb8] at B8 hb10 ⊢
  rw [hb5] at B5 hb8 ⊢
  obtain ⟨⟨m0, m1⟩, -⟩ := B5.out.cells2
  have mp := MM.out.cellP HP.out
  go_upto_region 2 with fail
  clear m0 m1 mp
  have hlt_b11 := BB.out.size
  have hlt_b11_B5 := B5.out.lt
  have hlt_b11_B8 := B8.out.lt
  have hlt_b11_R10 := R10.out.lt
  have B5' := Lib.hid (B5.out.below (below_new W0 (.cells #[.slice ha hn hn] 65)))
  have B8' := Lib.hid (B8.out.below (below_new W0 (.cells #[.slice ha hn hn] 65)))
  have R10' := Lib.hid (R10.out.below (below_new W0 (.cells #[.slice ha hn hn] 65)))
  have MM' := Lib.hid (MM.out.below (below_new W0 (.cells #[.slice ha hn hn] 65)))
  have BB' := Lib.hid (BB.out.trans ((below_new W0 (.cells #[.slice ha hn hn] 65)).mono BB.out.size))
  clear B5
  have B5 := B5'
  clear B5'
  clear B8
  have B8 := B8'
  clear B8'
  clear R10
  have R10 := R10'
  clear R10'
  clear MM
  have MM := MM'
  clear MM'
  clear BB
  have BB := BB'
  clear BB'
  have B11 := Lib.hid (Box.new W0 #[.slice ha hn hn] 65 rfl)
  have hsz_b11 : (World.alloc W0 (.cells #[.slice ha hn hn] 65)).heap.size = (World.heap W0).size + 1 := by simp
  generalize World.alloc W0 (.cells #[.slice ha hn hn] 65) = a0 at *
  generalize World.heap W0 = hp_b11 at *
  generalize hp_b11.size = b11 at *
  go_cut [12] (fun s12 wx => ∃ b12 bs, s12 = .pointer (some ⟨b12, 0, none⟩) ∧ b11 < b12 ∧ Box wx b12 #[.map (some bs)] 60 ∧ VW wx (some bs) (withL vm p hn) ∧ Box wx b11 #[.slice ha hn hn] 65 ∧ Box wx b5 #[.slice (some ⟨bP, 0, none⟩) np np, .slice (some ⟨bV, 0, none⟩) nv nv] 31 ∧ Box wx b8 #[.int .i64 ya, .int .u32 yb, .int .u32 yc] 45 ∧ Box wx b10 #[.slice none 0 0, .slice none 0 0] 31 ∧ MO B bP bV P V wx ∧ Below w.heap.size w wx)
  case first =>
    have B5' := Lib.hid (B5.out.below ((Below.refl _ _).drew))
    have B8' := Lib.hid (B8.out.below ((Below.refl _ _).drew))
    have R10' := Lib.hid (R10.out.below ((Below.refl _ _).drew))
    have MM' := Lib.hid (MM.out.below ((Below.refl _ _).drew))
    have B11' := Lib.hid (B11.out.below ((Below.refl _ _).drew))
    have BB' := Lib.hid (BB.out.trans (((Below.refl _ _).drew).mono BB.out.size))
    clear B5
    have B5 := B5'
    clear B5'
    clear B8
    have B8 := B8'
    clear B8'
    clear R10
    have R10 := R10'
    clear R10'
    clear MM
    have MM := MM'
    clear MM'
    clear B11
    have B11 := B11'
    clear B11'
    clear BB
    have BB := BB'
    clear BB'
    refine wp_region_held_drew (S := fun w' => w'.cell? ⟨b5, 1, none⟩ = some (.slice (some ⟨bV, 0, none⟩) nv nv) ∧ w'.cell? ⟨bV, k, none⟩ = some (.map vp) ∧ w'.cell? ⟨b11, 0, none⟩ = some (.slice ha hn hn)) (by kernel_rfl) ⟨B5.out.cells2.1.2, MM.out.cellV HV.out, B11.out.cells1.1⟩ (fun hHeld => ?_)
    generalize World.drew a0 = V0 at *
    refine wpAnyH_take (i := 0) (oi := { dst := some 19, op := Op.fieldAddr 31 (Operand.tmp 5) 1, type := 0, pos := "memory.go:134", after := #[], guard := none }) (v := ?d1_1xv0) rfl (by kernel_rfl) (by kernel_rfl) (by kernel_rfl) (fun _ _ _ h => h) (Or.inl ⟨by rfl, ?d1_1xy0⟩) (by assumption) ?d1_1xr0
    case d1_1xy0 => (intro w hSw; (try dsimp only at hSw); go_simp; try with_reducible rfl)
    (try simp only [Act.put])
    (try simp only [List.setIfInBounds_toArray])
    (try simp only [List.set_cons_succ])
    (try simp only [List.set_cons_zero])
    refine wpAnyH_take (i := 1) (oi := { dst := some 20, op := Op.load 29 (Operand.tmp 19), type := 29, pos := "memory.go:134", after := #[{ on := 0, ground := Ground.data }], guard := none }) (v := ?d1_2xv1) rfl (by kernel_rfl) (by kernel_rfl) (by kernel_rfl) (fun _ _ _ h => h) (Or.inl ⟨by rfl, ?d1_2xy1⟩) (by assumption) ?d1_2xr1
    case d1_2xy1 => (intro w hSw; (try dsimp only at hSw); go_simp; try with_reducible rfl)
    (try simp only [Act.put])
    (try simp only [List.setIfInBounds_toArray])
    (try simp only [List.set_cons_succ])
    (try simp only [List.set_cons_zero])
    refine wpAnyH_take (i := 2) (oi := { dst := some 21, op := Op.move (Operand.tmp 1), type := 3, pos := "memory.go:134", after := #[], guard := none }) (v := ?d1_3xv2) rfl (by kernel_rfl) (by kernel_rfl) (by kernel_rfl) (fun _ _ _ h => h) (Or.inl ⟨by rfl, ?d1_3xy2⟩) (by assumption) ?d1_3xr2
    case d1_3xy2 => (intro w hSw; (try dsimp only at hSw); go_simp; try with_reducible rfl)
    (try simp only [Act.put])
    (try simp only [List.setIfInBounds_toArray])
    (try simp only [List.set_cons_succ])
    (try simp only [List.set_cons_zero])
    refine wpAnyH_take (i := 3) (oi := { dst := some 22, op := Op.binOp BinOp.sub 3 (Operand.tmp 21) (Operand.const (Value.int IntKind.i64 1)) 3, type := 3, pos := "memory.go:134", after := #[{ on := 2, ground := Ground.data }], guard := none }) (v := ?d1_4xv3) rfl (by kernel_rfl) (by kernel_rfl) (by kernel_rfl) (fun _ _ _ h => h) (Or.inl ⟨by rfl, ?d1_4xy3⟩) (by assumption) ?d1_4xr3
    case d1_4xy3 => (intro w hSw; (try dsimp only at hSw); go_simp; try with_reducible rfl)
    (try simp only [Act.put])
    (try simp only [List.setIfInBounds_toArray])
    (try simp only [List.set_cons_succ])
    (try simp only [List.set_cons_zero])
    refine wpAnyH_take (i := 4) (oi := { dst := some 23, op := Op.indexAddr 29 (Operand.tmp 20) (Operand.tmp 22), type := 0, pos := "memory.go:134", after := #[{ on := 1, ground := Ground.data }, { on := 3, ground := Ground.data }], guard := none }) (v := ?d1_5xv4) rfl (by kernel_rfl) (by kernel_rfl) (by kernel_rfl) (fun _ _ _ h => h) (Or.inl ⟨by rfl, ?d1_5xy4⟩) (by assumption) ?d1_5xr4
    case d1_5xy4 => (intro w hSw; (try dsimp only at hSw); go_simp; try with_reducible rfl)
    (try simp only [Act.put])
    (try simp only [List.setIfInBounds_toArray])
    (try simp only [List.set_cons_succ])
    (try simp only [List.set_cons_zero])
    refine wpAnyH_take (i := 5) (oi := { dst := some 24, op := Op.load 60 (Operand.tmp 23), type := 60, pos := "memory.go:134", after := #[{ on := 4, ground := Ground.data }], guard := none }) (v := ?d1_6xv5) rfl (by kernel_rfl) (by kernel_rfl) (by kernel_rfl) (fun _ _ _ h => h) (Or.inl ⟨by rfl, ?d1_6xy5⟩) (by assumption) ?d1_6xr5
    case d1_6xy5 => (intro w hSw; (try dsimp only at hSw); go_simp; try with_reducible rfl)
    (try simp only [Act.put])
    (try simp only [List.setIfInBounds_toArray])
    (try simp only [List.set_cons_succ])
    (try simp only [List.set_cons_zero])
    refine wpAnyH_take (i := 6) (oi := { dst := some 25, op := Op.move (Operand.tmp 2), type := 42, pos := "memory.go:134", after := #[], guard := none }) (v := ?d1_7xv6) rfl (by kernel_rfl) (by kernel_rfl) (by kernel_rfl) (fun _ _ _ h => h) (Or.inl ⟨by rfl, ?d1_7xy6⟩) (by assumption) ?d1_7xr6
    case d1_7xy6 => (intro w hSw; (try dsimp only at hSw); go_simp; try with_reducible rfl)
    (try simp only [Act.put])
    (try simp only [List.setIfInBounds_toArray])
    (try simp only [List.set_cons_succ])
    (try simp only [List.set_cons_zero])
    refine wpAnyH_take (i := 7) (oi := { dst := some 26, op := Op.load 65 (Operand.tmp 11), type := 65, pos := "memory.go:134", after := #[], guard := none }) (v := ?d1_8xv7) rfl (by kernel_rfl) (by kernel_rfl) (by kernel_rfl) (fun _ _ _ h => h) (Or.inl ⟨by rfl, ?d1_8xy7⟩) (by assumption) ?d1_8xr7
    case d1_8xy7 => (intro w hSw; (try dsimp only at hSw); go_simp; try with_reducible rfl)
    (try simp only [Act.put])
    (try simp only [List.setIfInBounds_toArray])
    (try simp only [List.set_cons_succ])
    (try simp only [List.set_cons_zero])
    refine wpAnyH_ready (rs := [8, 10]) (by kernel_rfl) (by simp) ?_
    refine AllReadyH.cons (o := { dst := some 27, op := Op.call { callee := Callee.value (Operand.func 21), args := #[Operand.tmp 26], argTypes := #[65] }, type := 3, pos := "memory.go:134", after := #[{ on := 7, ground := Ground.data }], guard := none }) rfl (fun K hK => ?_) ?_
    · skip
      go_simp
      go_at_call 21
      refine (len_c ha hn hn _).mono ?_
      rintro e v1 ⟨rfl, hb⟩
      have B5' := Lib.hid (B5.out.below (hb))
      have B8' := Lib.hid (B8.out.below (hb))
      have R10' := Lib.hid (R10.out.below (hb))
      have MM' := Lib.hid (MM.out.below (hb))
      have B11' := Lib.hid (B11.out.below (hb))
      have BB' := Lib.hid (BB.out.trans ((hb).mono BB.out.size))
      clear B5
      have B5 := B5'
      clear B5'
      clear B8
      have B8 := B8'
      clear B8'
      clear R10
      have R10 := R10'
      clear R10'
      clear MM
      have MM := MM'
      clear MM'
      clear B11
      have B11 := B11'
      clear B11'
      clear BB
      have BB := BB'
      clear BB'
      clear hb
      go_simp
      refine hK.out _ _ ?_ (fun hHeld => ?_)
      · exact ⟨B5.out.cells2.1.2, MM.out.cellV HV.out, B11.out.cells1.1⟩
      clear hK K
      (try simp only [Act.put])
      (try simp only [List.setIfInBounds_toArray])
      (try simp only [List.set_cons_succ])
      (try simp only [List.set_cons_zero])
      refine wpAnyH_ready (rs := [9, 10]) (by kernel_rfl) (by simp) ?_
      refine AllReadyH.cons (o := { dst := some 28, op := Op.call { callee := Callee.value (Operand.func 50), args := #[Operand.tmp 24, Operand.tmp 25, Operand.tmp 27], argTypes := #[60, 42, 3] }, type := 60, pos := "memory.go:134", after := #[{ on := 5, ground := Ground.data }, { on := 6, ground := Ground.data }, { on := 8, ground := Ground.data }, { on := 8, ground := Ground.chain }], guard := none }) rfl (fun K hK => ?_) ?_
      · skip
        go_simp
        go_at_call 50
        refine (with_any vp vm p hn _ (by omega) (by omega) (by omega) (by omega) (MM.out.atV HV.out)).mono ?_
        rintro e v2 ⟨bs, hbs, rfl, hv1, hb⟩
        have B5' := Lib.hid (B5.out.below (hb))
        have B8' := Lib.hid (B8.out.below (hb))
        have R10' := Lib.hid (R10.out.below (hb))
        have MM' := Lib.hid (MM.out.below (hb))
        have B11' := Lib.hid (B11.out.below (hb))
        have BB' := Lib.hid (BB.out.trans ((hb).mono BB.out.size))
        clear B5
        have B5 := B5'
        clear B5'
        clear B8
        have B8 := B8'
        clear B8'
        clear R10
        have R10 := R10'
        clear R10'
        clear MM
        have MM := MM'
        clear MM'
        clear B11
        have B11 := B11'
        clear B11'
        clear BB
        have BB := BB'
        clear BB'
        clear hb
        have PS := Lib.hid (hv1)
        clear hv1
        go_simp
        refine hK.out _ _ ?_ (fun hHeld => ?_)
        · exact ⟨B5.out.cells2.1.2, MM.out.cellV HV.out, B11.out.cells1.1⟩
        clear hK K
        (try simp only [Act.put])
        (try simp only [List.setIfInBounds_toArray])
        (try simp only [List.set_cons_succ])
        (try simp only [List.set_cons_zero])
        refine wpAnyH_ready (rs := [10]) (by kernel_rfl) (by simp) ?_
        refine AllReadyH.cons (o := { dst := some 12, op := Op.alloc 60, type := 0, pos := "memory.go:134", after := #[], guard := none }) rfl (fun K hK => ?_) AllReadyH.nil
        go_simp
        have hlt_b12 := BB.out.size
        have hlt_b12_B5 := B5.out.lt
        have hlt_b12_B8 := B8.out.lt
        have hlt_b12_R10 := R10.out.lt
        have hlt_b12_B11 := B11.out.lt
        have B5' := Lib.hid (B5.out.below (below_new v2 (.cells #[.map none] 60)))
        have B8' := Lib.hid (B8.out.below (below_new v2 (.cells #[.map none] 60)))
        have R10' := Lib.hid (R10.out.below (below_new v2 (.cells #[.map none] 60)))
        have MM' := Lib.hid (MM.out.below (below_new v2 (.cells #[.map none] 60)))
        have B11' := Lib.hid (B11.out.below (below_new v2 (.cells #[.map none] 60)))
        have PS' := Lib.hid (PS.out.below (below_new v2 (.cells #[.map none] 60)))
        have BB' := Lib.hid (BB.out.trans ((below_new v2 (.cells #[.map none] 60)).mono BB.out.size))
        clear B5
        have B5 := B5'
        clear B5'
        clear B8
        have B8 := B8'
        clear B8'
        clear R10
        have R10 := R10'
        clear R10'
        clear MM
        have MM := MM'
        clear MM'
        clear B11
        have B11 := B11'
        clear B11'
        clear PS
        have PS := PS'
        clear PS'
        clear BB
        have BB := BB'
        clear BB'
        have B12 := Lib.hid (Box.new v2 #[.map none] 60 rfl)
        generalize World.alloc v2 (.cells #[.map none] 60) = v3 at *
        generalize World.heap v2 = hp_b12 at *
        generalize hp_b12.size = b12 at *
        refine hK.out _ _ ?_ (fun hHeld => ?_)
        · exact ⟨B5.out.cells2.1.2, MM.out.cellV HV.out, B11.out.cells1.1⟩
        clear hK K
        (try simp only [Act.put])
        (try simp only [List.setIfInBounds_toArray])
        (try simp only [List.set_cons_succ])
        (try simp only [List.set_cons_zero])
        refine wpAnyH_ready (rs := [11]) (by kernel_rfl) (by simp) ?_
        refine AllReadyH.cons (o := { dst := none, op := Op.store 60 (Operand.tmp 12) (Operand.tmp 28), type := 0, pos := "memory.go:134", after := #[{ on := 10, ground := Ground.data }, { on := 9, ground := Ground.data }, { on := 9, ground := Ground.chain }, { on := 0, ground := Ground.phase }, { on := 1, ground := Ground.phase }, { on := 2, ground := Ground.phase }, { on := 3, ground := Ground.phase }, { on := 4, ground := Ground.phase }, { on := 5, ground := Ground.phase }, { on := 6, ground := Ground.phase }, { on := 7, ground := Ground.phase }, { on := 8, ground := Ground.phase }, { on := 9, ground := Ground.phase }, { on := 10, ground := Ground.phase }], guard := none }) rfl (fun K hK => ?_) AllReadyH.nil
        obtain ⟨m0, g0⟩ := B12.out.cells1
        go_simp
        clear m0 g0
        have B5' := Lib.hid (B5.out.only (by omega) ((Only.refl b12 v3).set 0 (.map (some bs))))
        have B8' := Lib.hid (B8.out.only (by omega) ((Only.refl b12 v3).set 0 (.map (some bs))))
        have R10' := Lib.hid (R10.out.only (by omega) ((Only.refl b12 v3).set 0 (.map (some bs))))
        have MM' := Lib.hid (MM.out.only B12.out (by omega) ((Only.refl b12 v3).set 0 (.map (some bs))))
        have B11' := Lib.hid (B11.out.only (by omega) ((Only.refl b12 v3).set 0 (.map (some bs))))
        have PS' := Lib.hid (PS.out.only B12.out ((Only.refl b12 v3).set 0 (.map (some bs))))
        have B12' := Lib.hid ((B12.out).set 0 (.map (some bs)))
        have BB' := Lib.hid ((BB.out).put b12 (by omega) 0 (.map (some bs)))
        clear B5
        have B5 := B5'
        clear B5'
        clear B8
        have B8 := B8'
        clear B8'
        clear R10
        have R10 := R10'
        clear R10'
        clear MM
        have MM := MM'
        clear MM'
        clear B11
        have B11 := B11'
        clear B11'
        clear PS
        have PS := PS'
        clear PS'
        clear B12
        have B12 := B12'
        clear B12'
        clear BB
        have BB := BB'
        clear BB'
        generalize (World.setCell v3 ⟨b12, 0, none⟩ (.map (some bs))) = v4 at *
        refine hK.out _ _ ?_ (fun hHeld => ?_)
        · exact ⟨B5.out.cells2.1.2, MM.out.cellV HV.out, B11.out.cells1.1⟩
        clear hK K
        (try simp only [Act.put])
        (try simp only [List.setIfInBounds_toArray])
        (try simp only [List.set_cons_succ])
        (try simp only [List.set_cons_zero])
        refine wpAnyH_done (by kernel_rfl) ?_ _
        go_wp2
        go_meet
        case rel => exact ⟨b12, bs, rfl, by omega, B12.out, PS.out, B11.out, B5.out, B8.out, R10.out, MM.out, BB.out⟩
      refine AllReadyH.cons (o := { dst := some 12, op := Op.alloc 60, type := 0, pos := "memory.go:134", after := #[], guard := none }) rfl (fun K hK => ?_) AllReadyH.nil
      go_simp
      have hlt_b12 := BB.out.size
      have hlt_b12_B5 := B5.out.lt
      have hlt_b12_B8 := B8.out.lt
      have hlt_b12_R10 := R10.out.lt
      have hlt_b12_B11 := B11.out.lt
      have B5' := Lib.hid (B5.out.below (below_new v1 (.cells #[.map none] 60)))
      have B8' := Lib.hid (B8.out.below (below_new v1 (.cells #[.map none] 60)))
      have R10' := Lib.hid (R10.out.below (below_new v1 (.cells #[.map none] 60)))
      have MM' := Lib.hid (MM.out.below (below_new v1 (.cells #[.map none] 60)))
      have B11' := Lib.hid (B11.out.below (below_new v1 (.cells #[.map none] 60)))
      have BB' := Lib.hid (BB.out.trans ((below_new v1 (.cells #[.map none] 60)).mono BB.out.size))
      clear B5
      have B5 := B5'
      clear B5'
      clear B8
      have B8 := B8'
      clear B8'
      clear R10
      have R10 := R10'
      clear R10'
      clear MM
      have MM := MM'
      clear MM'
      clear B11
      have B11 := B11'
      clear B11'
      clear BB
      have BB := BB'
      clear BB'
      have B12 := Lib.hid (Box.new v1 #[.map none] 60 rfl)
      generalize World.alloc v1 (.cells #[.map none] 60) = v5 at *
      generalize World.heap v1 = hp_b12 at *
      generalize hp_b12.size = b12 at *
      refine hK.out _ _ ?_ (fun hHeld => ?_)
      · exact ⟨B5.out.cells2.1.2, MM.out.cellV HV.out, B11.out.cells1.1⟩
      clear hK K
      (try simp only [Act.put])
      (try simp only [List.setIfInBounds_toArray])
      (try simp only [List.set_cons_succ])
      (try simp only [List.set_cons_zero])
      refine wpAnyH_ready (rs := [9]) (by kernel_rfl) (by simp) ?_
      refine AllReadyH.cons (o := { dst := some 28, op := Op.call { callee := Callee.value (Operand.func 50), args := #[Operand.tmp 24, Operand.tmp 25, Operand.tmp 27], argTypes := #[60, 42, 3] }, type := 60, pos := "memory.go:134", after := #[{ on := 5, ground := Ground.data }, { on := 6, ground := Ground.data }, { on := 8, ground := Ground.data }, { on := 8, ground := Ground.chain }], guard := none }) rfl (fun K hK => ?_) AllReadyH.nil
      go_simp
      go_at_call 50
      refine (with_any vp vm p hn _ (by omega) (by omega) (by omega) (by omega) (MM.out.atV HV.out)).mono ?_
      rintro e v6 ⟨bs, hbs, rfl, hv1, hb⟩
      have B5' := Lib.hid (B5.out.below (hb))
      have B8' := Lib.hid (B8.out.below (hb))
      have R10' := Lib.hid (R10.out.below (hb))
      have MM' := Lib.hid (MM.out.below (hb))
      have B11' := Lib.hid (B11.out.below (hb))
      have B12' := Lib.hid (B12.out.below (hb))
      have BB' := Lib.hid (BB.out.trans ((hb).mono BB.out.size))
      clear B5
      have B5 := B5'
      clear B5'
      clear B8
      have B8 := B8'
      clear B8'
      clear R10
      have R10 := R10'
      clear R10'
      clear MM
      have MM := MM'
      clear MM'
      clear B11
      have B11 := B11'
      clear B11'
      clear B12
      have B12 := B12'
      clear B12'
      clear BB
      have BB := BB'
      clear BB'
      clear hb
      have PS := Lib.hid (hv1)
      clear hv1
      go_simp
      refine hK.out _ _ ?_ (fun hHeld => ?_)
      · exact ⟨B5.out.cells2.1.2, MM.out.cellV HV.out, B11.out.cells1.1⟩
      clear hK K
      (try simp only [Act.put])
      (try simp only [List.setIfInBounds_toArray])
      (try simp only [List.set_cons_succ])
      (try simp only [List.set_cons_zero])
      refine wpAnyH_ready (rs := [11]) (by kernel_rfl) (by simp) ?_
      refine AllReadyH.cons (o := { dst := none, op := Op.store 60 (Operand.tmp 12) (Operand.tmp 28), type := 0, pos := "memory.go:134", after := #[{ on := 10, ground := Ground.data }, { on := 9, ground := Ground.data }, { on := 9, ground := Ground.chain }, { on := 0, ground := Ground.phase }, { on := 1, ground := Ground.phase }, { on := 2, ground := Ground.phase }, { on := 3, ground := Ground.phase }, { on := 4, ground := Ground.phase }, { on := 5, ground := Ground.phase }, { on := 6, ground := Ground.phase }, { on := 7, ground := Ground.phase }, { on := 8, ground := Ground.phase }, { on := 9, ground := Ground.phase }, { on := 10, ground := Ground.phase }], guard := none }) rfl (fun K hK => ?_) AllReadyH.nil
      obtain ⟨m0, g0⟩ := B12.out.cells1
      go_simp
      clear m0 g0
      have B5' := Lib.hid (B5.out.only (by omega) ((Only.refl b12 v6).set 0 (.map (some bs))))
      have B8' := Lib.hid (B8.out.only (by omega) ((Only.refl b12 v6).set 0 (.map (some bs))))
      have R10' := Lib.hid (R10.out.only (by omega) ((Only.refl b12 v6).set 0 (.map (some bs))))
      have MM' := Lib.hid (MM.out.only B12.out (by omega) ((Only.refl b12 v6).set 0 (.map (some bs))))
      have B11' := Lib.hid (B11.out.only (by omega) ((Only.refl b12 v6).set 0 (.map (some bs))))
      have B12' := Lib.hid ((B12.out).set 0 (.map (some bs)))
      have PS' := Lib.hid (PS.out.only B12.out ((Only.refl b12 v6).set 0 (.map (some bs))))
      have BB' := Lib.hid ((BB.out).put b12 (by omega) 0 (.map (some bs)))
      clear B5
      have B5 := B5'
      clear B5'
      clear B8
      have B8 := B8'
      clear B8'
      clear R10
      have R10 := R10'
      clear R10'
      clear MM
      have MM := MM'
      clear MM'
      clear B11
      have B11 := B11'
      clear B11'
      clear B12
      have B12 := B12'
      clear B12'
      clear PS
      have PS := PS'
      clear PS'
      clear BB
      have BB := BB'
      clear BB'
      generalize (World.setCell v6 ⟨b12, 0, none⟩ (.map (some bs))) = v7 at *
      refine hK.out _ _ ?_ (fun hHeld => ?_)
      · exact ⟨B5.out.cells2.1.2, MM.out.cellV HV.out, B11.out.cells1.1⟩
      clear hK K
      (try simp only [Act.put])
      (try simp only [List.setIfInBounds_toArray])
      (try simp only [List.set_cons_succ])
      (try simp only [List.set_cons_zero])
      refine wpAnyH_done (by kernel_rfl) ?_ _
      go_wp2
      go_meet
      case rel => exact ⟨b12, bs, rfl, by omega, B12.out, PS.out, B11.out, B5.out, B8.out, R10.out, MM.out, BB.out⟩
    refine AllReadyH.cons (o := { dst := some 12, op := Op.alloc 60, type := 0, pos := "memory.go:134", after := #[], guard := none }) rfl (fun K hK => ?_) AllReadyH.nil
    go_simp
    have hlt_b12 := BB.out.size
    have hlt_b12_B5 := B5.out.lt
    have hlt_b12_B8 := B8.out.lt
    have hlt_b12_R10 := R10.out.lt
    have hlt_b12_B11 := B11.out.lt
    have B5' := Lib.hid (B5.out.below (below_new V0 (.cells #[.map none] 60)))
    have B8' := Lib.hid (B8.out.below (below_new V0 (.cells #[.map none] 60)))
    have R10' := Lib.hid (R10.out.below (below_new V0 (.cells #[.map none] 60)))
    have MM' := Lib.hid (MM.out.below (below_new V0 (.cells #[.map none] 60)))
    have B11' := Lib.hid (B11.out.below (below_new V0 (.cells #[.map none] 60)))
    have BB' := Lib.hid (BB.out.trans ((below_new V0 (.cells #[.map none] 60)).mono BB.out.size))
    clear B5
    have B5 := B5'
    clear B5'
    clear B8
    have B8 := B8'
    clear B8'
    clear R10
    have R10 := R10'
    clear R10'
    clear MM
    have MM := MM'
    clear MM'
    clear B11
    have B11 := B11'
    clear B11'
    clear BB
    have BB := BB'
    clear BB'
    have B12 := Lib.hid (Box.new V0 #[.map none] 60 rfl)
    generalize World.alloc V0 (.cells #[.map none] 60) = v8 at *
    generalize World.heap V0 = hp_b12 at *
    generalize hp_b12.size = b12 at *
    refine hK.out _ _ ?_ (fun hHeld => ?_)
    · exact ⟨B5.out.cells2.1.2, MM.out.cellV HV.out, B11.out.cells1.1⟩
    clear hK K
    (try simp only [Act.put])
    (try simp only [List.setIfInBounds_toArray])
    (try simp only [List.set_cons_succ])
    (try simp only [List.set_cons_zero])
    refine wpAnyH_ready (rs := [8]) (by kernel_rfl) (by simp) ?_
    refine AllReadyH.cons (o := { dst := some 27, op := Op.call { callee := Callee.value (Operand.func 21), args := #[Operand.tmp 26], argTypes := #[65] }, type := 3, pos := "memory.go:134", after := #[{ on := 7, ground := Ground.data }], guard := none }) rfl (fun K hK => ?_) AllReadyH.nil
    go_simp
    go_at_call 21
    refine (len_c ha hn hn _).mono ?_
    rintro e v9 ⟨rfl, hb⟩
    have B5' := Lib.hid (B5.out.below (hb))
    have B8' := Lib.hid (B8.out.below (hb))
    have R10' := Lib.hid (R10.out.below (hb))
    have MM' := Lib.hid (MM.out.below (hb))
    have B11' := Lib.hid (B11.out.below (hb))
    have B12' := Lib.hid (B12.out.below (hb))
    have BB' := Lib.hid (BB.out.trans ((hb).mono BB.out.size))
    clear B5
    have B5 := B5'
    clear B5'
    clear B8
    have B8 := B8'
    clear B8'
    clear R10
    have R10 := R10'
    clear R10'
    clear MM
    have MM := MM'
    clear MM'
    clear B11
    have B11 := B11'
    clear B11'
    clear B12
    have B12 := B12'
    clear B12'
    clear BB
    have BB := BB'
    clear BB'
    clear hb
    go_simp
    refine hK.out _ _ ?_ (fun hHeld => ?_)
    · exact ⟨B5.out.cells2.1.2, MM.out.cellV HV.out, B11.out.cells1.1⟩
    clear hK K
    (try simp only [Act.put])
    (try simp only [List.setIfInBounds_toArray])
    (try simp only [List.set_cons_succ])
    (try simp only [List.set_cons_zero])
    refine wpAnyH_ready (rs := [9]) (by kernel_rfl) (by simp) ?_
    refine AllReadyH.cons (o := { dst := some 28, op := Op.call { callee := Callee.value (Operand.func 50), args := #[Operand.tmp 24, Operand.tmp 25, Operand.tmp 27], argTypes := #[60, 42, 3] }, type := 60, pos := "memory.go:134", after := #[{ on := 5, ground := Ground.data }, { on := 6, ground := Ground.data }, { on := 8, ground := Ground.data }, { on := 8, ground := Ground.chain }], guard := none }) rfl (fun K hK => ?_) AllReadyH.nil
    go_simp
    go_at_call 50
    refine (with_any vp vm p hn _ (by omega) (by omega) (by omega) (by omega) (MM.out.atV HV.out)).mono ?_
    rintro e v10 ⟨bs, hbs, rfl, hv1, hb⟩
    have B5' := Lib.hid (B5.out.below (hb))
    have B8' := Lib.hid (B8.out.below (hb))
    have R10' := Lib.hid (R10.out.below (hb))
    have MM' := Lib.hid (MM.out.below (hb))
    have B11' := Lib.hid (B11.out.below (hb))
    have B12' := Lib.hid (B12.out.below (hb))
    have BB' := Lib.hid (BB.out.trans ((hb).mono BB.out.size))
    clear B5
    have B5 := B5'
    clear B5'
    clear B8
    have B8 := B8'
    clear B8'
    clear R10
    have R10 := R10'
    clear R10'
    clear MM
    have MM := MM'
    clear MM'
    clear B11
    have B11 := B11'
    clear B11'
    clear B12
    have B12 := B12'
    clear B12'
    clear BB
    have BB := BB'
    clear BB'
    clear hb
    have PS := Lib.hid (hv1)
    clear hv1
    go_simp
    refine hK.out _ _ ?_ (fun hHeld => ?_)
    · exact ⟨B5.out.cells2.1.2, MM.out.cellV HV.out, B11.out.cells1.1⟩
    clear hK K
    (try simp only [Act.put])
    (try simp only [List.setIfInBounds_toArray])
    (try simp only [List.set_cons_succ])
    (try simp only [List.set_cons_zero])
    refine wpAnyH_ready (rs := [11]) (by kernel_rfl) (by simp) ?_
    refine AllReadyH.cons (o := { dst := none, op := Op.store 60 (Operand.tmp 12) (Operand.tmp 28), type := 0, pos := "memory.go:134", after := #[{ on := 10, ground := Ground.data }, { on := 9, ground := Ground.data }, { on := 9, ground := Ground.chain }, { on := 0, ground := Ground.phase }, { on := 1, ground := Ground.phase }, { on := 2, ground := Ground.phase }, { on := 3, ground := Ground.phase }, { on := 4, ground := Ground.phase }, { on := 5, ground := Ground.phase }, { on := 6, ground := Ground.phase }, { on := 7, ground := Ground.phase }, { on := 8, ground := Ground.phase }, { on := 9, ground := Ground.phase }, { on := 10, ground := Ground.phase }], guard := none }) rfl (fun K hK => ?_) AllReadyH.nil
    obtain ⟨m0, g0⟩ := B12.out.cells1
    go_simp
    clear m0 g0
    have B5' := Lib.hid (B5.out.only (by omega) ((Only.refl b12 v10).set 0 (.map (some bs))))
    have B8' := Lib.hid (B8.out.only (by omega) ((Only.refl b12 v10).set 0 (.map (some bs))))
    have R10' := Lib.hid (R10.out.only (by omega) ((Only.refl b12 v10).set 0 (.map (some bs))))
    have MM' := Lib.hid (MM.out.only B12.out (by omega) ((Only.refl b12 v10).set 0 (.map (some bs))))
    have B11' := Lib.hid (B11.out.only (by omega) ((Only.refl b12 v10).set 0 (.map (some bs))))
    have B12' := Lib.hid ((B12.out).set 0 (.map (some bs)))
    have PS' := Lib.hid (PS.out.only B12.out ((Only.refl b12 v10).set 0 (.map (some bs))))
    have BB' := Lib.hid ((BB.out).put b12 (by omega) 0 (.map (some bs)))
    clear B5
    have B5 := B5'
    clear B5'
    clear B8
    have B8 := B8'
    clear B8'
    clear R10
    have R10 := R10'
    clear R10'
    clear MM
    have MM := MM'
    clear MM'
    clear B11
    have B11 := B11'
    clear B11'
    clear B12
    have B12 := B12'
    clear B12'
    clear PS
    have PS := PS'
    clear PS'
    clear BB
    have BB := BB'
    clear BB'
    generalize (World.setCell v10 ⟨b12, 0, none⟩ (.map (some bs))) = v11 at *
    refine hK.out _ _ ?_ (fun hHeld => ?_)
    · exact ⟨B5.out.cells2.1.2, MM.out.cellV HV.out, B11.out.cells1.1⟩
    clear hK K
    (try simp only [Act.put])
    (try simp only [List.setIfInBounds_toArray])
    (try simp only [List.set_cons_succ])
    (try simp only [List.set_cons_zero])
    refine wpAnyH_done (by kernel_rfl) ?_ _
    go_wp2
    go_meet
    case rel => exact ⟨b12, bs, rfl, by omega, B12.out, PS.out, B11.out, B5.out, B8.out, R10.out, MM.out, BB.out⟩
  case rest =>
    obtain ⟨b12, bs, rfl, n12, B12', PS', B11', B5', B8', R10', MM', BB'⟩ := hcut
    clear B11 B5 B8 R10 MM BB
    have B12 := Lib.hid B12'
    clear B12'
    have PS := Lib.hid PS'
    clear PS'
    have B11 := Lib.hid B11'
    clear B11'
    have B5 := Lib.hid B5'
    clear B5'
    have B8 := Lib.hid B8'
    clear B8'
    have R10 := Lib.hid R10'
    clear R10'
    have MM := Lib.hid MM'
    clear MM'
    have BB := Lib.hid BB'
    clear BB'
    have kc0 := B11.out.cells1.1
    go_wp2_with fail
    clear kc0
    refine (len_c ha hn hn _).mono ?_
    rintro e a20 ⟨rfl, hb⟩
    have B12' := Lib.hid (B12.out.below (hb))
    have PS' := Lib.hid (PS.out.below (hb))
    have B11' := Lib.hid (B11.out.below (hb))
    have B5' := Lib.hid (B5.out.below (hb))
    have B8' := Lib.hid (B8.out.below (hb))
    have R10' := Lib.hid (R10.out.below (hb))
    have MM' := Lib.hid (MM.out.below (hb))
    have BB' := Lib.hid (BB.out.trans ((hb).mono BB.out.size))
    clear B12
    have B12 := B12'
    clear B12'
    clear PS
    have PS := PS'
    clear PS'
    clear B11
    have B11 := B11'
    clear B11'
    clear B5
    have B5 := B5'
    clear B5'
    clear B8
    have B8 := B8'
    clear B8'
    clear R10
    have R10 := R10'
    clear R10'
    clear MM
    have MM := MM'
    clear MM'
    clear BB
    have BB := BB'
    clear BB'
    clear hb
    go_wp2_with fail
    refine (with_any none [] p hn _ (by omega) (by omega) (by omega) (by omega) (VW.nil _)).mono ?_
    rintro e a21 ⟨bt, hbt, rfl, hv1, hb⟩
    have B12' := Lib.hid (B12.out.below (hb))
    have PS' := Lib.hid (PS.out.below (hb))
    have B11' := Lib.hid (B11.out.below (hb))
    have B5' := Lib.hid (B5.out.below (hb))
    have B8' := Lib.hid (B8.out.below (hb))
    have R10' := Lib.hid (R10.out.below (hb))
    have MM' := Lib.hid (MM.out.below (hb))
    have BB' := Lib.hid (BB.out.trans ((hb).mono BB.out.size))
    clear B12
    have B12 := B12'
    clear B12'
    clear PS
    have PS := PS'
    clear PS'
    clear B11
    have B11 := B11'
    clear B11'
    clear B5
    have B5 := B5'
    clear B5'
    clear B8
    have B8 := B8'
    clear B8'
    clear R10
    have R10 := R10'
    clear R10'
    clear MM
    have MM := MM'
    clear MM'
    clear BB
    have BB := BB'
    clear BB'
    clear hb
    have PT := Lib.hid (hv1)
    clear hv1
    go_upto_region 4 with fail
    have hlt_b13 := BB.out.size
    have hlt_b13_B12 := B12.out.lt
    have hlt_b13_B11 := B11.out.lt
    have hlt_b13_B5 := B5.out.lt
    have hlt_b13_B8 := B8.out.lt
    have hlt_b13_R10 := R10.out.lt
    have B12' := Lib.hid (B12.out.below (below_new a21 (.cells #[.map (some bt)] 60)))
    have PS' := Lib.hid (PS.out.below (below_new a21 (.cells #[.map (some bt)] 60)))
    have B11' := Lib.hid (B11.out.below (below_new a21 (.cells #[.map (some bt)] 60)))
    have B5' := Lib.hid (B5.out.below (below_new a21 (.cells #[.map (some bt)] 60)))
    have B8' := Lib.hid (B8.out.below (below_new a21 (.cells #[.map (some bt)] 60)))
    have R10' := Lib.hid (R10.out.below (below_new a21 (.cells #[.map (some bt)] 60)))
    have MM' := Lib.hid (MM.out.below (below_new a21 (.cells #[.map (some bt)] 60)))
    have PT' := Lib.hid (PT.out.below (below_new a21 (.cells #[.map (some bt)] 60)))
    have BB' := Lib.hid (BB.out.trans ((below_new a21 (.cells #[.map (some bt)] 60)).mono BB.out.size))
    clear B12
    have B12 := B12'
    clear B12'
    clear PS
    have PS := PS'
    clear PS'
    clear B11
    have B11 := B11'
    clear B11'
    clear B5
    have B5 := B5'
    clear B5'
    clear B8
    have B8 := B8'
    clear B8'
    clear R10
    have R10 := R10'
    clear R10'
    clear MM
    have MM := MM'
    clear MM'
    clear PT
    have PT := PT'
    clear PT'
    clear BB
    have BB := BB'
    clear BB'
    have B13 := Lib.hid (Box.new a21 #[.map (some bt)] 60 rfl)
    have hsz_b13 : (World.alloc a21 (.cells #[.map (some bt)] 60)).heap.size = (World.heap a21).size + 1 := by simp
    generalize World.alloc a21 (.cells #[.map (some bt)] 60) = a22 at *
    generalize World.heap a21 = hp_b13 at *
    generalize hp_b13.size = b13 at *
    go_upto_region 6 with fail
    have m11 := B11.out.cells1.1
    have m13 := B13.out.cells1.1
    obtain ⟨⟨k0, k1, k2⟩, -⟩ := B8.out.cells3
    go_wp2_with fail
    clear m11 m13 k0 k1 k2
    have hlta11 := B11.out.lt
    have hlta10 := R10.out.lt
    refine (add_any (.slice ha hn hn) q ((⟨ya, yb, yc, (k : Int) + 1, withL [] p hn⟩ : Msg), (some bt : Option Nat)) _ (MM.out.atP HP.out) PT.out (by rw [HQ.out]; omega)).mono ?_
    rintro e a23 ⟨bh, hbh, rfl, hh, hb⟩
    have B12' := Lib.hid (B12.out.below (hb))
    have PS' := Lib.hid (PS.out.below (hb))
    have B11' := Lib.hid (B11.out.below (hb))
    have B5' := Lib.hid (B5.out.below (hb))
    have B8' := Lib.hid (B8.out.below (hb))
    have R10' := Lib.hid (R10.out.below (hb))
    have MM' := Lib.hid (MM.out.below (hb))
    have PT' := Lib.hid (PT.out.below (hb))
    have B13' := Lib.hid (B13.out.below (hb))
    have BB' := Lib.hid (BB.out.trans ((hb).mono BB.out.size))
    clear B12
    have B12 := B12'
    clear B12'
    clear PS
    have PS := PS'
    clear PS'
    clear B11
    have B11 := B11'
    clear B11'
    clear B5
    have B5 := B5'
    clear B5'
    clear B8
    have B8 := B8'
    clear B8'
    clear R10
    have R10 := R10'
    clear R10'
    clear MM
    have MM := MM'
    clear MM'
    clear PT
    have PT := PT'
    clear PT'
    clear B13
    have B13 := B13'
    clear B13'
    clear BB
    have BB := BB'
    clear BB'
    clear hb
    have HN := Lib.hid (hh)
    clear hh
    rw [show (q ++ [((⟨ya, yb, yc, (k : Int) + 1, withL [] p hn⟩ : Msg), (some bt : Option Nat))]).length = hn + 1 by rw [List.length_append, HQ.out]; rfl] at HN ⊢
    obtain ⟨m11, g11⟩ := B11.out.cells1
    go_upto_region 7 with fail
    clear m11 g11
    have B12' := Lib.hid (B12.out.only (by omega) ((Only.refl b11 a23).set 0 (.slice (some ⟨bh, 0, none⟩) (hn + 1) (hn + 1))))
    have PS' := Lib.hid (PS.out.only B11.out ((Only.refl b11 a23).set 0 (.slice (some ⟨bh, 0, none⟩) (hn + 1) (hn + 1))))
    have B11' := Lib.hid ((B11.out).set 0 (.slice (some ⟨bh, 0, none⟩) (hn + 1) (hn + 1)))
    have B5' := Lib.hid (B5.out.only (by omega) ((Only.refl b11 a23).set 0 (.slice (some ⟨bh, 0, none⟩) (hn + 1) (hn + 1))))
    have B8' := Lib.hid (B8.out.only (by omega) ((Only.refl b11 a23).set 0 (.slice (some ⟨bh, 0, none⟩) (hn + 1) (hn + 1))))
    have R10' := Lib.hid (R10.out.only (by omega) ((Only.refl b11 a23).set 0 (.slice (some ⟨bh, 0, none⟩) (hn + 1) (hn + 1))))
    have MM' := Lib.hid (MM.out.only B11.out (by omega) ((Only.refl b11 a23).set 0 (.slice (some ⟨bh, 0, none⟩) (hn + 1) (hn + 1))))
    have PT' := Lib.hid (PT.out.only B11.out ((Only.refl b11 a23).set 0 (.slice (some ⟨bh, 0, none⟩) (hn + 1) (hn + 1))))
    have B13' := Lib.hid (B13.out.only (by omega) ((Only.refl b11 a23).set 0 (.slice (some ⟨bh, 0, none⟩) (hn + 1) (hn + 1))))
    have HN' := Lib.hid (HN.out.only B11.out (fun a n c e => by cases e; simp only; omega) ((Only.refl b11 a23).set 0 (.slice (some ⟨bh, 0, none⟩) (hn + 1) (hn + 1))))
    have BB' := Lib.hid ((BB.out).put b11 (by omega) 0 (.slice (some ⟨bh, 0, none⟩) (hn + 1) (hn + 1)))
    clear B12
    have B12 := B12'
    clear B12'
    clear PS
    have PS := PS'
    clear PS'
    clear B11
    have B11 := B11'
    clear B11'
    clear B5
    have B5 := B5'
    clear B5'
    clear B8
    have B8 := B8'
    clear B8'
    clear R10
    have R10 := R10'
    clear R10'
    clear MM
    have MM := MM'
    clear MM'
    clear PT
    have PT := PT'
    clear PT'
    clear B13
    have B13 := B13'
    clear B13'
    clear HN
    have HN := HN'
    clear HN'
    clear BB
    have BB := BB'
    clear BB'
    generalize (World.setCell a23 ⟨b11, 0, none⟩ (.slice (some ⟨bh, 0, none⟩) (hn + 1) (hn + 1))) = s12 at *
    have B12' := Lib.hid (B12.out.below ((Below.refl _ _).drew))
    have PS' := Lib.hid (PS.out.below ((Below.refl _ _).drew))
    have B11' := Lib.hid (B11.out.below ((Below.refl _ _).drew))
    have B5' := Lib.hid (B5.out.below ((Below.refl _ _).drew))
    have B8' := Lib.hid (B8.out.below ((Below.refl _ _).drew))
    have R10' := Lib.hid (R10.out.below ((Below.refl _ _).drew))
    have MM' := Lib.hid (MM.out.below ((Below.refl _ _).drew))
    have PT' := Lib.hid (PT.out.below ((Below.refl _ _).drew))
    have B13' := Lib.hid (B13.out.below ((Below.refl _ _).drew))
    have HN' := Lib.hid (HN.out.below ((Below.refl _ _).drew))
    have BB' := Lib.hid (BB.out.trans (((Below.refl _ _).drew).mono BB.out.size))
    clear B12
    have B12 := B12'
    clear B12'
    clear PS
    have PS := PS'
    clear PS'
    clear B11
    have B11 := B11'
    clear B11'
    clear B5
    have B5 := B5'
    clear B5'
    clear B8
    have B8 := B8'
    clear B8'
    clear R10
    have R10 := R10'
    clear R10'
    clear MM
    have MM := MM'
    clear MM'
    clear PT
    have PT := PT'
    clear PT'
    clear B13
    have B13 := B13'
    clear B13'
    clear HN
    have HN := HN'
    clear HN'
    clear BB
    have BB := BB'
    clear BB'
    refine wp_region_held_drew (S := fun w' => w'.cell? ⟨b5, 0, none⟩ = some (.slice (some ⟨bP, 0, none⟩) np np) ∧ w'.cell? ⟨b5, 1, none⟩ = some (.slice (some ⟨bV, 0, none⟩) nv nv) ∧ w'.cell? ⟨b11, 0, none⟩ = some (.slice (some ⟨bh, 0, none⟩) (hn + 1) (hn + 1)) ∧ w'.cell? ⟨b12, 0, none⟩ = some (.map (some bs))) (by kernel_rfl) ⟨B5.out.cells2.1.1, B5.out.cells2.1.2, B11.out.cells1.1, B12.out.cells1.1⟩ (fun hHeld => ?_)
    generalize World.drew s12 = V13 at *
    refine wpAnyH_take (i := 0) (oi := { dst := some 42, op := Op.fieldAddr 31 (Operand.tmp 5) 0, type := 0, pos := "memory.go:140", after := #[], guard := none }) (v := ?d14_1xv0) rfl (by kernel_rfl) (by kernel_rfl) (by kernel_rfl) (fun _ _ _ h => h) (Or.inl ⟨by rfl, ?d14_1xy0⟩) (by assumption) ?d14_1xr0
    case d14_1xy0 => (intro w hSw; (try dsimp only at hSw); go_simp; try with_reducible rfl)
    (try simp only [Act.put])
    (try simp only [List.setIfInBounds_toArray])
    (try simp only [List.set_cons_succ])
    (try simp only [List.set_cons_zero])
    refine wpAnyH_take (i := 1) (oi := { dst := some 43, op := Op.load 28 (Operand.tmp 42), type := 28, pos := "memory.go:140", after := #[{ on := 0, ground := Ground.data }], guard := none }) (v := ?d14_2xv1) rfl (by kernel_rfl) (by kernel_rfl) (by kernel_rfl) (fun _ _ _ h => h) (Or.inl ⟨by rfl, ?d14_2xy1⟩) (by assumption) ?d14_2xr1
    case d14_2xy1 => (intro w hSw; (try dsimp only at hSw); go_simp; try with_reducible rfl)
    (try simp only [Act.put])
    (try simp only [List.setIfInBounds_toArray])
    (try simp only [List.set_cons_succ])
    (try simp only [List.set_cons_zero])
    refine wpAnyH_take (i := 2) (oi := { dst := some 44, op := Op.move (Operand.tmp 2), type := 42, pos := "memory.go:140", after := #[], guard := none }) (v := ?d14_3xv2) rfl (by kernel_rfl) (by kernel_rfl) (by kernel_rfl) (fun _ _ _ h => h) (Or.inl ⟨by rfl, ?d14_3xy2⟩) (by assumption) ?d14_3xr2
    case d14_3xy2 => (intro w hSw; (try dsimp only at hSw); go_simp; try with_reducible rfl)
    (try simp only [Act.put])
    (try simp only [List.setIfInBounds_toArray])
    (try simp only [List.set_cons_succ])
    (try simp only [List.set_cons_zero])
    refine wpAnyH_take (i := 3) (oi := { dst := some 45, op := Op.load 65 (Operand.tmp 11), type := 65, pos := "memory.go:140", after := #[], guard := none }) (v := ?d14_4xv3) rfl (by kernel_rfl) (by kernel_rfl) (by kernel_rfl) (fun _ _ _ h => h) (Or.inl ⟨by rfl, ?d14_4xy3⟩) (by assumption) ?d14_4xr3
    case d14_4xy3 => (intro w hSw; (try dsimp only at hSw); go_simp; try with_reducible rfl)
    (try simp only [Act.put])
    (try simp only [List.setIfInBounds_toArray])
    (try simp only [List.set_cons_succ])
    (try simp only [List.set_cons_zero])
    refine wpAnyH_take (i := 5) (oi := { dst := some 47, op := Op.fieldAddr 31 (Operand.tmp 5) 1, type := 0, pos := "memory.go:140", after := #[], guard := none }) (v := ?d14_5xv5) rfl (by kernel_rfl) (by kernel_rfl) (by kernel_rfl) (fun _ _ _ h => h) (Or.inl ⟨by rfl, ?d14_5xy5⟩) (by assumption) ?d14_5xr5
    case d14_5xy5 => (intro w hSw; (try dsimp only at hSw); go_simp; try with_reducible rfl)
    (try simp only [Act.put])
    (try simp only [List.setIfInBounds_toArray])
    (try simp only [List.set_cons_succ])
    (try simp only [List.set_cons_zero])
    refine wpAnyH_take (i := 6) (oi := { dst := some 48, op := Op.load 29 (Operand.tmp 47), type := 29, pos := "memory.go:140", after := #[{ on := 5, ground := Ground.data }], guard := none }) (v := ?d14_6xv6) rfl (by kernel_rfl) (by kernel_rfl) (by kernel_rfl) (fun _ _ _ h => h) (Or.inl ⟨by rfl, ?d14_6xy6⟩) (by assumption) ?d14_6xr6
    case d14_6xy6 => (intro w hSw; (try dsimp only at hSw); go_simp; try with_reducible rfl)
    (try simp only [Act.put])
    (try simp only [List.setIfInBounds_toArray])
    (try simp only [List.set_cons_succ])
    (try simp only [List.set_cons_zero])
    refine wpAnyH_take (i := 7) (oi := { dst := some 49, op := Op.move (Operand.tmp 1), type := 3, pos := "memory.go:140", after := #[], guard := none }) (v := ?d14_7xv7) rfl (by kernel_rfl) (by kernel_rfl) (by kernel_rfl) (fun _ _ _ h => h) (Or.inl ⟨by rfl, ?d14_7xy7⟩) (by assumption) ?d14_7xr7
    case d14_7xy7 => (intro w hSw; (try dsimp only at hSw); go_simp; try with_reducible rfl)
    (try simp only [Act.put])
    (try simp only [List.setIfInBounds_toArray])
    (try simp only [List.set_cons_succ])
    (try simp only [List.set_cons_zero])
    refine wpAnyH_take (i := 8) (oi := { dst := some 50, op := Op.binOp BinOp.sub 3 (Operand.tmp 49) (Operand.const (Value.int IntKind.i64 1)) 3, type := 3, pos := "memory.go:140", after := #[{ on := 7, ground := Ground.data }], guard := none }) (v := ?d14_8xv8) rfl (by kernel_rfl) (by kernel_rfl) (by kernel_rfl) (fun _ _ _ h => h) (Or.inl ⟨by rfl, ?d14_8xy8⟩) (by assumption) ?d14_8xr8
    case d14_8xy8 => (intro w hSw; (try dsimp only at hSw); go_simp; try with_reducible rfl)
    (try simp only [Act.put])
    (try simp only [List.setIfInBounds_toArray])
    (try simp only [List.set_cons_succ])
    (try simp only [List.set_cons_zero])
    refine wpAnyH_take (i := 9) (oi := { dst := some 51, op := Op.load 60 (Operand.tmp 12), type := 60, pos := "memory.go:140", after := #[], guard := none }) (v := ?d14_9xv9) rfl (by kernel_rfl) (by kernel_rfl) (by kernel_rfl) (fun _ _ _ h => h) (Or.inl ⟨by rfl, ?d14_9xy9⟩) (by assumption) ?d14_9xr9
    case d14_9xy9 => (intro w hSw; (try dsimp only at hSw); go_simp; try with_reducible rfl)
    (try simp only [Act.put])
    (try simp only [List.setIfInBounds_toArray])
    (try simp only [List.set_cons_succ])
    (try simp only [List.set_cons_zero])
    refine wpAnyH_ready (rs := [4]) (by kernel_rfl) (by simp) ?_
    refine AllReadyH.cons (o := { dst := some 46, op := Op.call { callee := Callee.value (Operand.func 52), args := #[Operand.tmp 43, Operand.tmp 44, Operand.tmp 45], argTypes := #[28, 3, 65] }, type := 28, pos := "memory.go:140", after := #[{ on := 1, ground := Ground.data }, { on := 2, ground := Ground.data }, { on := 3, ground := Ground.data }], guard := none }) rfl (fun K hK => ?_) AllReadyH.nil
    go_simp
    go_at_call 52
    have hltr10 := R10.out.lt
    refine (repl_h _ _ p (some ⟨bh, 0, none⟩) (hn + 1) (hn + 1) _ (MM.out.rowP E1.out) MM.out.oneP (by rw [List.length_map, E1.out]; omega) (by rw [List.length_map, E1.out]; omega)).mono ?_
    rintro e v14 ⟨bN, hbN, rfl, hr, hb⟩
    have B12' := Lib.hid (B12.out.below (hb))
    have PS' := Lib.hid (PS.out.below (hb))
    have B11' := Lib.hid (B11.out.below (hb))
    have B5' := Lib.hid (B5.out.below (hb))
    have B8' := Lib.hid (B8.out.below (hb))
    have R10' := Lib.hid (R10.out.below (hb))
    have MM' := Lib.hid (MM.out.below (hb))
    have PT' := Lib.hid (PT.out.below (hb))
    have B13' := Lib.hid (B13.out.below (hb))
    have HN' := Lib.hid (HN.out.below (hb))
    have BB' := Lib.hid (BB.out.trans ((hb).mono BB.out.size))
    clear B12
    have B12 := B12'
    clear B12'
    clear PS
    have PS := PS'
    clear PS'
    clear B11
    have B11 := B11'
    clear B11'
    clear B5
    have B5 := B5'
    clear B5'
    clear B8
    have B8 := B8'
    clear B8'
    clear R10
    have R10 := R10'
    clear R10'
    clear MM
    have MM := MM'
    clear MM'
    clear PT
    have PT := PT'
    clear PT'
    clear B13
    have B13 := B13'
    clear B13'
    clear HN
    have HN := HN'
    clear HN'
    clear BB
    have BB := BB'
    clear BB'
    clear hb
    have RP := Lib.hid (hr)
    clear hr
    rw [show ((P.map (·.1)).set p (.slice (some ⟨bh, 0, none⟩) (hn + 1) (hn + 1))).length = np by rw [List.length_set, List.length_map, E1.out]] at RP ⊢
    go_simp
    refine hK.out _ _ ?_ (fun hHeld => ?_)
    · exact ⟨B5.out.cells2.1.1, B5.out.cells2.1.2, B11.out.cells1.1, B12.out.cells1.1⟩
    clear hK K
    (try simp only [Act.put])
    (try simp only [List.setIfInBounds_toArray])
    (try simp only [List.set_cons_succ])
    (try simp only [List.set_cons_zero])
    refine wpAnyH_ready (rs := [10]) (by kernel_rfl) (by simp) ?_
    refine AllReadyH.cons (o := { dst := some 52, op := Op.call { callee := Callee.value (Operand.func 53), args := #[Operand.tmp 48, Operand.tmp 50, Operand.tmp 51], argTypes := #[29, 3, 60] }, type := 29, pos := "memory.go:140", after := #[{ on := 6, ground := Ground.data }, { on := 8, ground := Ground.data }, { on := 9, ground := Ground.data }, { on := 4, ground := Ground.chain }], guard := none }) rfl (fun K hK => ?_) AllReadyH.nil
    go_simp
    go_at_call 53
    (try rw [hwk])
    have hltr10b := R10.out.lt
    refine (repl_v _ _ k (some bs) _ (MM.out.rowV E2.out) (oneV_cells V) (by rw [List.length_map, E2.out]; omega) (by rw [List.length_map, E2.out]; omega)).mono ?_
    rintro e v15 ⟨bM, hbM, rfl, hr, hb⟩
    have B12' := Lib.hid (B12.out.below (hb))
    have PS' := Lib.hid (PS.out.below (hb))
    have B11' := Lib.hid (B11.out.below (hb))
    have B5' := Lib.hid (B5.out.below (hb))
    have B8' := Lib.hid (B8.out.below (hb))
    have R10' := Lib.hid (R10.out.below (hb))
    have MM' := Lib.hid (MM.out.below (hb))
    have PT' := Lib.hid (PT.out.below (hb))
    have B13' := Lib.hid (B13.out.below (hb))
    have HN' := Lib.hid (HN.out.below (hb))
    have RP' := Lib.hid (RP.out.below (hb))
    have BB' := Lib.hid (BB.out.trans ((hb).mono BB.out.size))
    clear B12
    have B12 := B12'
    clear B12'
    clear PS
    have PS := PS'
    clear PS'
    clear B11
    have B11 := B11'
    clear B11'
    clear B5
    have B5 := B5'
    clear B5'
    clear B8
    have B8 := B8'
    clear B8'
    clear R10
    have R10 := R10'
    clear R10'
    clear MM
    have MM := MM'
    clear MM'
    clear PT
    have PT := PT'
    clear PT'
    clear B13
    have B13 := B13'
    clear B13'
    clear HN
    have HN := HN'
    clear HN'
    clear RP
    have RP := RP'
    clear RP'
    clear BB
    have BB := BB'
    clear BB'
    clear hb
    have RV := Lib.hid (hr)
    clear hr
    rw [show ((V.map fun x => Value.map x.1).set k (.map (some bs))).length = nv by rw [List.length_set, List.length_map, E2.out]] at RV ⊢
    go_simp
    refine hK.out _ _ ?_ (fun hHeld => ?_)
    · exact ⟨B5.out.cells2.1.1, B5.out.cells2.1.2, B11.out.cells1.1, B12.out.cells1.1⟩
    clear hK K
    (try simp only [Act.put])
    (try simp only [List.setIfInBounds_toArray])
    (try simp only [List.set_cons_succ])
    (try simp only [List.set_cons_zero])
    refine wpAnyH_take (i := 11) (oi := { dst := some 53, op := Op.build 31 #[(0, Operand.tmp 46), (1, Operand.tmp 52)], type := 31, pos := "memory.go:140", after := #[{ on := 4, ground := Ground.data }, { on := 10, ground := Ground.data }], guard := none }) (v := ?d16_10xv11) rfl (by kernel_rfl) (by kernel_rfl) (by kernel_rfl) (fun _ _ _ h => h) (Or.inl ⟨by rfl, ?d16_10xy11⟩) (by assumption) ?d16_10xr11
    case d16_10xy11 => (intro w hSw; (try dsimp only at hSw); go_simp; try with_reducible rfl)
    (try simp only [Act.put])
    (try simp only [List.setIfInBounds_toArray])
    (try simp only [List.set_cons_succ])
    (try simp only [List.set_cons_zero])
    refine wpAnyH_ready (rs := [12]) (by kernel_rfl) (by simp) ?_
    refine AllReadyH.cons (o := { dst := none, op := Op.store 31 (Operand.tmp 10) (Operand.tmp 53), type := 0, pos := "memory.go:140", after := #[{ on := 11, ground := Ground.data }, { on := 10, ground := Ground.chain }, { on := 0, ground := Ground.phase }, { on := 1, ground := Ground.phase }, { on := 2, ground := Ground.phase }, { on := 3, ground := Ground.phase }, { on := 4, ground := Ground.phase }, { on := 5, ground := Ground.phase }, { on := 6, ground := Ground.phase }, { on := 7, ground := Ground.phase }, { on := 8, ground := Ground.phase }, { on := 9, ground := Ground.phase }, { on := 10, ground := Ground.phase }, { on := 11, ground := Ground.phase }], guard := none }) rfl (fun K hK => ?_) AllReadyH.nil
    obtain ⟨⟨m0, m1⟩, g0, g1⟩ := R10.out.cells2
    go_simp
    clear m0 g0 m1 g1
    have B12' := Lib.hid (B12.out.only (by omega) (((Only.refl b10 v15).set 0 (.slice (some ⟨bN, 0, none⟩) np np)).set 1 (.slice (some ⟨bM, 0, none⟩) nv nv)))
    have PS' := Lib.hid (PS.out.only R10.out (((Only.refl b10 v15).set 0 (.slice (some ⟨bN, 0, none⟩) np np)).set 1 (.slice (some ⟨bM, 0, none⟩) nv nv)))
    have B11' := Lib.hid (B11.out.only (by omega) (((Only.refl b10 v15).set 0 (.slice (some ⟨bN, 0, none⟩) np np)).set 1 (.slice (some ⟨bM, 0, none⟩) nv nv)))
    have B5' := Lib.hid (B5.out.only (by omega) (((Only.refl b10 v15).set 0 (.slice (some ⟨bN, 0, none⟩) np np)).set 1 (.slice (some ⟨bM, 0, none⟩) nv nv)))
    have B8' := Lib.hid (B8.out.only (by omega) (((Only.refl b10 v15).set 0 (.slice (some ⟨bN, 0, none⟩) np np)).set 1 (.slice (some ⟨bM, 0, none⟩) nv nv)))
    have R10' := Lib.hid (((R10.out).set 0 (.slice (some ⟨bN, 0, none⟩) np np)).set 1 (.slice (some ⟨bM, 0, none⟩) nv nv))
    have MM' := Lib.hid (MM.out.only R10.out (by omega) (((Only.refl b10 v15).set 0 (.slice (some ⟨bN, 0, none⟩) np np)).set 1 (.slice (some ⟨bM, 0, none⟩) nv nv)))
    have PT' := Lib.hid (PT.out.only R10.out (((Only.refl b10 v15).set 0 (.slice (some ⟨bN, 0, none⟩) np np)).set 1 (.slice (some ⟨bM, 0, none⟩) nv nv)))
    have B13' := Lib.hid (B13.out.only (by omega) (((Only.refl b10 v15).set 0 (.slice (some ⟨bN, 0, none⟩) np np)).set 1 (.slice (some ⟨bM, 0, none⟩) nv nv)))
    have HN' := Lib.hid (HN.out.only R10.out (fun a n c e => by cases e; simp only; omega) (((Only.refl b10 v15).set 0 (.slice (some ⟨bN, 0, none⟩) np np)).set 1 (.slice (some ⟨bM, 0, none⟩) nv nv)))
    have RP' := Lib.hid (RP.out.only (by omega) (((Only.refl b10 v15).set 0 (.slice (some ⟨bN, 0, none⟩) np np)).set 1 (.slice (some ⟨bM, 0, none⟩) nv nv)))
    have RV' := Lib.hid (RV.out.only (by omega) (((Only.refl b10 v15).set 0 (.slice (some ⟨bN, 0, none⟩) np np)).set 1 (.slice (some ⟨bM, 0, none⟩) nv nv)))
    have BB' := Lib.hid (((BB.out).put b10 (by omega) 0 (.slice (some ⟨bN, 0, none⟩) np np)).put b10 (by omega) 1 (.slice (some ⟨bM, 0, none⟩) nv nv))
    clear B12
    have B12 := B12'
    clear B12'
    clear PS
    have PS := PS'
    clear PS'
    clear B11
    have B11 := B11'
    clear B11'
    clear B5
    have B5 := B5'
    clear B5'
    clear B8
    have B8 := B8'
    clear B8'
    clear R10
    have R10 := R10'
    clear R10'
    clear MM
    have MM := MM'
    clear MM'
    clear PT
    have PT := PT'
    clear PT'
    clear B13
    have B13 := B13'
    clear B13'
    clear HN
    have HN := HN'
    clear HN'
    clear RP
    have RP := RP'
    clear RP'
    clear RV
    have RV := RV'
    clear RV'
    clear BB
    have BB := BB'
    clear BB'
    generalize (World.setCell (World.setCell v15 ⟨b10, 0, none⟩ (.slice (some ⟨bN, 0, none⟩) np np)) ⟨b10, 1, none⟩ (.slice (some ⟨bM, 0, none⟩) nv nv)) = v16 at *
    refine hK.out _ _ ?_ (fun hHeld => ?_)
    · exact ⟨B5.out.cells2.1.1, B5.out.cells2.1.2, B11.out.cells1.1, B12.out.cells1.1⟩
    clear hK K
    (try simp only [Act.put])
    (try simp only [List.setIfInBounds_toArray])
    (try simp only [List.set_cons_succ])
    (try simp only [List.set_cons_zero])
    refine wpAnyH_done (by kernel_rfl) ?_ _
    obtain ⟨⟨m0, m1⟩, -⟩ := R10.out.cells2
    have F1 := RP.out
    have F3 := RV.out
    have F4 := HN.out
    have F5 := PS.out
    have F2 := BB.out
    go_wp2
    refine bodyPost_ret (v := .agg #[.slice (some ⟨bN, 0, none⟩) np np, .slice (some ⟨bM, 0, none⟩) nv nv]) (by simp [results, Try.results38, go_sem, m0, m1]) rfl ?_
    exact ⟨bN, bM, bh, some bs, some bt, rfl, ⟨by omega, by omega, by omega⟩, F1, F3, F4, F5, F2⟩
end Go.Proofs.Ytbaljoehgdhhhaa
