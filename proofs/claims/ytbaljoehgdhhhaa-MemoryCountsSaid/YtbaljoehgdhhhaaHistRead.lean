/- The contracts of history's At, Last and Choose. -/
import Derived.Test.YtbaljoehgdhhhaaHistOps
import Derived.Deep.RegionHeld3
import Derived.Deep.DeepCutAuto
namespace Go.Proofs.Ytbaljoehgdhhhaa
open Go.RowKit Go.Shelf Go.Maps

set_option maxHeartbeats 800000 in
theorem hat_out (v : Value) (q : List MP) (i : Int) (w : World) (h : HW w v q) (hi : i < 0 ∨ (q.length : Int) ≤ i) :
    Calls Try.prog 22 #[.agg #[v], .int .i64 i] w fun e w' => e = .returned (.tuple #[.agg #[.int .i64 0, .int .u32 0, .int .u32 0, .int .i64 0, .map none], .bool false]) ∧ Below w.heap.size w w' := by
  obtain ⟨ad, rfl, _⟩ := h.slice
  clear h
  generalize q.length = n at *
  by_cases h0 : i < 0
  · clear hi
    go_enter Try.func22, Try.ntmps22
    go_wp2
    refine bodyPost_ret (v := .tuple #[.agg #[.int .i64 0, .int .u32 0, .int .u32 0, .int .i64 0, .map none], .bool false]) (by simp [results, Try.f22, go_sem]) rfl ?_
    exact ⟨rfl, b2 w _ _⟩
  · have h1 : (n : Int) ≤ i := by omega
    clear hi
    go_enter Try.func22, Try.ntmps22
    go_wp2_with fail
    refine (len_any ad n n _).mono ?_
    rintro e w1 ⟨rfl, rfl⟩
    go_wp2
    refine bodyPost_ret (v := .tuple #[.agg #[.int .i64 0, .int .u32 0, .int .u32 0, .int .i64 0, .map none], .bool false]) (by simp [results, Try.f22, go_sem]) rfl ?_
    exact ⟨rfl, b3 w _ _ _⟩

set_option maxHeartbeats 800000 in
theorem hat_in (v : Value) (q : List MP) (i : Nat) (x : MP) (w : World) (h : HW w v q) (hi : q[i]? = some x) (hl : q.length ≤ 100000) :
    Calls Try.prog 22 #[.agg #[v], .int .i64 i] w fun e w' => e = .returned (.tuple #[msgV x, .bool true]) ∧ Below w.heap.size w w' := by
  obtain ⟨ad, rfl, hp⟩ := h.slice
  have hlt : i < q.length := by
    rcases Nat.lt_or_ge i q.length with h | h
    · exact h
    · rw [List.getElem?_eq_none h] at hi; cases hi
  obtain ⟨b, t, hb, rfl, hk⟩ := hp (by omega)
  obtain ⟨c0, c1, c2, c3, c4⟩ := cellsL_at q i x hi
  rw [← cell_row hk] at c0 c1 c2 c3 c4
  clear hk hi h hp
  obtain ⟨⟨xa, xb, xc, xd, xm⟩, xp⟩ := x
  generalize q.length = n at *
  simp only [msgV] at *
  have hb1 : Below w.heap.size w (((w.alloc (.cells #[.slice (some ⟨b, 0, none⟩) n n] 65)).alloc (.cells #[.int .i64 0, .int .u32 0, .int .u32 0, .int .i64 0, .map none] 70)).alloc (.cells #[.slice (some ⟨b, 0, none⟩) n n] 65)) := b3 w _ _ _
  rw [← hb1.cell (by simpa using hb)] at c0 c1 c2 c3 c4
  clear hb1
  go_enter Try.func22, Try.ntmps22
  go_wp2_with fail
  refine (len_any _ n n _).mono ?_
  rintro e w1 ⟨rfl, rfl⟩
  go_wp2
  refine bodyPost_ret (v := .tuple #[.agg #[.int .i64 xa, .int .u32 xb, .int .u32 xc, .int .i64 xd, .map xp], .bool true]) (by simp [results, Try.f22, go_sem]) rfl ?_
  exact ⟨rfl, b3 w _ _ _⟩

set_option maxRecDepth 100000 in
set_option maxHeartbeats 1600000 in
theorem last_some (v : Value) (q : List MP) (x : MP) (w : World) (h : HW w v (q ++ [x])) (hl : q.length < 100000) :
    Calls Try.prog 42 #[.agg #[v]] w fun e w' => e = .returned (msgV x) ∧ Below w.heap.size w w' := by
  have hx : (q ++ [x])[q.length]? = some x := by simp
  have hle : (q ++ [x]).length = q.length + 1 := by simp
  generalize q ++ [x] = r at *
  obtain ⟨⟨xa, xb, xc, xd, xm⟩, xp⟩ := x
  simp only [msgV]
  obtain ⟨ad, rfl, _⟩ := h.slice
  generalize q.length = n at *
  rw [hle] at h ⊢
  have hw : IntKind.i64.wrap (n : Int) = n := IntWalk.i64_in _ (by omega)
  have HX := Lib.hid hx
  have HL := Lib.hid hle
  have K0 := Lib.hid (Box.alloc (Box.new w #[.slice ad (n + 1) (n + 1)] 65 rfl) (.cells #[.int .i64 0, .int .u32 0, .int .u32 0, .int .i64 0, .map none] 70))
  have R0 := Lib.hid (Box.new (w.alloc (.cells #[.slice ad (n + 1) (n + 1)] 65)) #[.int .i64 0, .int .u32 0, .int .u32 0, .int .i64 0, .map none] 70 (n := w.heap.size + 1) (by simp))
  have H := Lib.hid (h.below (b2 w (.cells #[.slice ad (n + 1) (n + 1)] 65) (.cells #[.int .i64 0, .int .u32 0, .int .u32 0, .int .i64 0, .map none] 70)))
  have BB := Lib.hid (b2 w (.cells #[.slice ad (n + 1) (n + 1)] 65) (.cells #[.int .i64 0, .int .u32 0, .int .u32 0, .int .i64 0, .map none] 70))
  clear h hx hle
  go_enter Try.func42, Try.ntmps42
  go_wp2_with fail
  generalize (w.alloc (.cells #[.slice ad (n + 1) (n + 1)] 65)).alloc (.cells #[.int .i64 0, .int .u32 0, .int .u32 0, .int .i64 0, .map none] 70) = W0 at *
  obtain ⟨br, hbr⟩ : ∃ br, w.heap.size + 1 = br := ⟨_, rfl⟩
  obtain ⟨bp, hbp⟩ : ∃ bp, w.heap.size = bp := ⟨_, rfl⟩
  rw [hbr] at R0 ⊢
  have hbq := hbp
  rw [hbp] at K0 hbr ⊢
  go_cut [3] (fun s3 wx => ∃ b, s3 = .pointer (some ⟨b, 0, none⟩) ∧ Box wx b #[.int .i64 xa, .int .u32 xb, .int .u32 xc, .int .i64 xd, .map xp] 70 ∧ Box wx br #[.int .i64 0, .int .u32 0, .int .u32 0, .int .i64 0, .map none] 70 ∧ Below w.heap.size w wx)
  case first =>
    have K0' := Lib.hid (K0.out.below ((Below.refl _ _).drew))
    have R0' := Lib.hid (R0.out.below ((Below.refl _ _).drew))
    have H' := Lib.hid (H.out.below ((Below.refl _ _).drew))
    have BB' := Lib.hid (BB.out.trans (((Below.refl _ _).drew).mono BB.out.size))
    clear K0
    have K0 := K0'
    clear K0'
    clear R0
    have R0 := R0'
    clear R0'
    clear H
    have H := H'
    clear H'
    clear BB
    have BB := BB'
    clear BB'
    refine wp_region_held_drew (S := fun w' => w'.cell? ⟨bp, 0, none⟩ = some (.slice ad (n + 1) (n + 1))) (by kernel_rfl) K0.out.cells1.1 (fun hHeld => ?_)
    generalize World.drew W0 = V0 at *
    refine wpAnyH_take (i := 0) (oi := { dst := some 6, op := Op.load 65 (Operand.tmp 1), type := 65, pos := "history.go:38", after := #[], guard := none }) (v := ?d1_1xv0) rfl (by kernel_rfl) (by kernel_rfl) (by kernel_rfl) (fun _ _ _ h => h) (Or.inl ⟨by rfl, ?d1_1xy0⟩) (by assumption) ?d1_1xr0
    case d1_1xy0 => (intro w hSw; (try dsimp only at hSw); go_simp; try with_reducible rfl)
    (try simp only [Act.put])
    (try simp only [List.setIfInBounds_toArray])
    (try simp only [List.set_cons_succ])
    (try simp only [List.set_cons_zero])
    refine wpAnyH_take (i := 1) (oi := { dst := some 7, op := Op.load 65 (Operand.tmp 1), type := 65, pos := "history.go:38", after := #[], guard := none }) (v := ?d1_2xv1) rfl (by kernel_rfl) (by kernel_rfl) (by kernel_rfl) (fun _ _ _ h => h) (Or.inl ⟨by rfl, ?d1_2xy1⟩) (by assumption) ?d1_2xr1
    case d1_2xy1 => (intro w hSw; (try dsimp only at hSw); go_simp; try with_reducible rfl)
    (try simp only [Act.put])
    (try simp only [List.setIfInBounds_toArray])
    (try simp only [List.set_cons_succ])
    (try simp only [List.set_cons_zero])
    refine wpAnyH_ready (rs := [2, 8]) (by kernel_rfl) (by simp) ?_
    refine AllReadyH.cons (o := { dst := some 8, op := Op.call { callee := Callee.value (Operand.func 21), args := #[Operand.tmp 7], argTypes := #[65] }, type := 3, pos := "history.go:38", after := #[{ on := 1, ground := Ground.data }], guard := none }) rfl (fun K hK => ?_) ?_
    · skip
      go_simp
      go_at_call 21
      refine (len_b _ r (n + 1) HL.out _ H.out).mono ?_
      rintro e v1 ⟨rfl, hb⟩
      have K0' := Lib.hid (K0.out.below (hb))
      have R0' := Lib.hid (R0.out.below (hb))
      have H' := Lib.hid (H.out.below (hb))
      have BB' := Lib.hid (BB.out.trans ((hb).mono BB.out.size))
      clear K0
      have K0 := K0'
      clear K0'
      clear R0
      have R0 := R0'
      clear R0'
      clear H
      have H := H'
      clear H'
      clear BB
      have BB := BB'
      clear BB'
      clear hb
      go_simp
      refine hK.out _ _ ?_ (fun hHeld => ?_)
      · exact K0.out.cells1.1
      clear hK K
      (try simp only [Act.put])
      (try simp only [List.setIfInBounds_toArray])
      (try simp only [List.set_cons_succ])
      (try simp only [List.set_cons_zero])
      refine wpAnyH_take (i := 3) (oi := { dst := some 9, op := Op.binOp BinOp.sub 3 (Operand.tmp 8) (Operand.const (Value.int IntKind.i64 1)) 3, type := 3, pos := "history.go:38", after := #[{ on := 2, ground := Ground.data }], guard := none }) (v := ?d2_3xv3) rfl (by kernel_rfl) (by kernel_rfl) (by kernel_rfl) (fun _ _ _ h => h) (Or.inl ⟨by rfl, ?d2_3xy3⟩) (by assumption) ?d2_3xr3
      case d2_3xy3 => (intro w hSw; (try dsimp only at hSw); go_simp; try with_reducible rfl)
      (try simp only [Act.put])
      (try simp only [List.setIfInBounds_toArray])
      (try simp only [List.set_cons_succ])
      (try simp only [List.set_cons_zero])
      refine wpAnyH_ready (rs := [4, 8]) (by kernel_rfl) (by simp) ?_
      refine AllReadyH.cons (o := { dst := some 10, op := Op.call { callee := Callee.value (Operand.func 22), args := #[Operand.tmp 6, Operand.tmp 9], argTypes := #[65, 3] }, type := 71, pos := "history.go:38", after := #[{ on := 0, ground := Ground.data }, { on := 3, ground := Ground.data }, { on := 2, ground := Ground.chain }], guard := none }) rfl (fun K hK => ?_) ?_
      · skip
        go_simp
        go_at_call 22
        (try rw [hw])
        refine (hat_in _ r n _ _ H.out HX.out (by rw [HL.out]; omega)).mono ?_
        rintro e v2 ⟨rfl, hb⟩
        have K0' := Lib.hid (K0.out.below (hb))
        have R0' := Lib.hid (R0.out.below (hb))
        have H' := Lib.hid (H.out.below (hb))
        have BB' := Lib.hid (BB.out.trans ((hb).mono BB.out.size))
        clear K0
        have K0 := K0'
        clear K0'
        clear R0
        have R0 := R0'
        clear R0'
        clear H
        have H := H'
        clear H'
        clear BB
        have BB := BB'
        clear BB'
        clear hb
        clear H
        simp only [msgV]
        go_simp
        refine hK.out _ _ ?_ (fun hHeld => ?_)
        · exact K0.out.cells1.1
        clear hK K
        (try simp only [Act.put])
        (try simp only [List.setIfInBounds_toArray])
        (try simp only [List.set_cons_succ])
        (try simp only [List.set_cons_zero])
        refine wpAnyH_take (i := 5) (oi := { dst := some 5, op := Op.move (Operand.tmp 10), type := 71, pos := "history.go:38", after := #[{ on := 4, ground := Ground.data }], guard := none }) (v := ?d3_4xv5) rfl (by kernel_rfl) (by kernel_rfl) (by kernel_rfl) (fun _ _ _ h => h) (Or.inl ⟨by rfl, ?d3_4xy5⟩) (by assumption) ?d3_4xr5
        case d3_4xy5 => (intro w hSw; (try dsimp only at hSw); go_simp; try with_reducible rfl)
        (try simp only [Act.put])
        (try simp only [List.setIfInBounds_toArray])
        (try simp only [List.set_cons_succ])
        (try simp only [List.set_cons_zero])
        refine wpAnyH_take (i := 6) (oi := { dst := some 11, op := Op.extract (Operand.tmp 5) 0, type := 70, pos := "history.go:38", after := #[{ on := 5, ground := Ground.data }], guard := none }) (v := ?d3_5xv6) rfl (by kernel_rfl) (by kernel_rfl) (by kernel_rfl) (fun _ _ _ h => h) (Or.inl ⟨by rfl, ?d3_5xy6⟩) (by assumption) ?d3_5xr6
        case d3_5xy6 => (intro w hSw; (try dsimp only at hSw); go_simp; try with_reducible rfl)
        (try simp only [Act.put])
        (try simp only [List.setIfInBounds_toArray])
        (try simp only [List.set_cons_succ])
        (try simp only [List.set_cons_zero])
        refine wpAnyH_take (i := 7) (oi := { dst := some 12, op := Op.extract (Operand.tmp 5) 1, type := 4, pos := "history.go:38", after := #[{ on := 5, ground := Ground.data }, { on := 9, ground := Ground.gcOnly Departure.lateStores }], guard := none }) (v := ?d3_6xv7) rfl (by kernel_rfl) (by kernel_rfl) (by kernel_rfl) (fun _ _ _ h => h) (Or.inl ⟨by rfl, ?d3_6xy7⟩) (by assumption) ?d3_6xr7
        case d3_6xy7 => (intro w hSw; (try dsimp only at hSw); go_simp; try with_reducible rfl)
        (try simp only [Act.put])
        (try simp only [List.setIfInBounds_toArray])
        (try simp only [List.set_cons_succ])
        (try simp only [List.set_cons_zero])
        refine wpAnyH_ready (rs := [8]) (by kernel_rfl) (by simp) ?_
        refine AllReadyH.cons (o := { dst := some 3, op := Op.alloc 70, type := 0, pos := "history.go:38", after := #[], guard := none }) rfl (fun K hK => ?_) AllReadyH.nil
        go_simp
        have hlt_bn := BB.out.size
        have hlt_bn_K0 := K0.out.lt
        have hlt_bn_R0 := R0.out.lt
        have K0' := Lib.hid (K0.out.below (below_new v2 (.cells #[.int .i64 0, .int .u32 0, .int .u32 0, .int .i64 0, .map none] 70)))
        have R0' := Lib.hid (R0.out.below (below_new v2 (.cells #[.int .i64 0, .int .u32 0, .int .u32 0, .int .i64 0, .map none] 70)))
        have BB' := Lib.hid (BB.out.trans ((below_new v2 (.cells #[.int .i64 0, .int .u32 0, .int .u32 0, .int .i64 0, .map none] 70)).mono BB.out.size))
        clear K0
        have K0 := K0'
        clear K0'
        clear R0
        have R0 := R0'
        clear R0'
        clear BB
        have BB := BB'
        clear BB'
        have N := Lib.hid (Box.new v2 #[.int .i64 0, .int .u32 0, .int .u32 0, .int .i64 0, .map none] 70 rfl)
        generalize World.alloc v2 (.cells #[.int .i64 0, .int .u32 0, .int .u32 0, .int .i64 0, .map none] 70) = v3 at *
        generalize World.heap v2 = hp_bn at *
        generalize hp_bn.size = bn at *
        refine hK.out _ _ ?_ (fun hHeld => ?_)
        · exact K0.out.cells1.1
        clear hK K
        (try simp only [Act.put])
        (try simp only [List.setIfInBounds_toArray])
        (try simp only [List.set_cons_succ])
        (try simp only [List.set_cons_zero])
        refine wpAnyH_ready (rs := [9]) (by kernel_rfl) (by simp) ?_
        refine AllReadyH.cons (o := { dst := none, op := Op.store 70 (Operand.tmp 3) (Operand.tmp 11), type := 0, pos := "history.go:38", after := #[{ on := 8, ground := Ground.data }, { on := 6, ground := Ground.data }, { on := 4, ground := Ground.chain }, { on := 0, ground := Ground.phase }, { on := 1, ground := Ground.phase }, { on := 2, ground := Ground.phase }, { on := 3, ground := Ground.phase }, { on := 4, ground := Ground.phase }, { on := 5, ground := Ground.phase }, { on := 6, ground := Ground.phase }, { on := 7, ground := Ground.textOnly Departure.lateStores }, { on := 8, ground := Ground.phase }], guard := none }) rfl (fun K hK => ?_) AllReadyH.nil
        obtain ⟨⟨m0, m1, m2, m3, m4⟩, g0, g1, g2, g3, g4⟩ := N.out.cells5
        go_simp
        clear m0 g0 m1 g1 m2 g2 m3 g3 m4 g4
        have K0' := Lib.hid (K0.out.only (by omega) ((((((Only.refl bn v3).set 0 (.int .i64 xa)).set 1 (.int .u32 xb)).set 2 (.int .u32 xc)).set 3 (.int .i64 xd)).set 4 (.map xp)))
        have R0' := Lib.hid (R0.out.only (by omega) ((((((Only.refl bn v3).set 0 (.int .i64 xa)).set 1 (.int .u32 xb)).set 2 (.int .u32 xc)).set 3 (.int .i64 xd)).set 4 (.map xp)))
        have N' := Lib.hid ((((((N.out).set 0 (.int .i64 xa)).set 1 (.int .u32 xb)).set 2 (.int .u32 xc)).set 3 (.int .i64 xd)).set 4 (.map xp))
        have BB' := Lib.hid ((((((BB.out).put bn (by omega) 0 (.int .i64 xa)).put bn (by omega) 1 (.int .u32 xb)).put bn (by omega) 2 (.int .u32 xc)).put bn (by omega) 3 (.int .i64 xd)).put bn (by omega) 4 (.map xp))
        clear K0
        have K0 := K0'
        clear K0'
        clear R0
        have R0 := R0'
        clear R0'
        clear N
        have N := N'
        clear N'
        clear BB
        have BB := BB'
        clear BB'
        generalize (World.setCell (World.setCell (World.setCell (World.setCell (World.setCell v3 ⟨bn, 0, none⟩ (.int .i64 xa)) ⟨bn, 1, none⟩ (.int .u32 xb)) ⟨bn, 2, none⟩ (.int .u32 xc)) ⟨bn, 3, none⟩ (.int .i64 xd)) ⟨bn, 4, none⟩ (.map xp)) = v4 at *
        refine hK.out _ _ ?_ (fun hHeld => ?_)
        · exact K0.out.cells1.1
        clear hK K
        (try simp only [Act.put])
        (try simp only [List.setIfInBounds_toArray])
        (try simp only [List.set_cons_succ])
        (try simp only [List.set_cons_zero])
        refine wpAnyH_ready (rs := [10]) (by kernel_rfl) (by simp) ?_
        refine AllReadyH.cons (o := { dst := some 4, op := Op.assign (Operand.tmp 12), type := 4, pos := "history.go:38", after := #[{ on := 7, ground := Ground.data }, { on := 9, ground := Ground.chain }, { on := 0, ground := Ground.phase }, { on := 1, ground := Ground.phase }, { on := 2, ground := Ground.phase }, { on := 3, ground := Ground.phase }, { on := 4, ground := Ground.phase }, { on := 5, ground := Ground.phase }, { on := 6, ground := Ground.phase }, { on := 7, ground := Ground.phase }, { on := 8, ground := Ground.phase }, { on := 9, ground := Ground.phase }], guard := none }) rfl (fun K hK => ?_) AllReadyH.nil
        go_simp
        refine hK.out _ _ ?_ (fun hHeld => ?_)
        · exact K0.out.cells1.1
        clear hK K
        (try simp only [Act.put])
        (try simp only [List.setIfInBounds_toArray])
        (try simp only [List.set_cons_succ])
        (try simp only [List.set_cons_zero])
        refine wpAnyH_done (by kernel_rfl) ?_ _
        go_wp2
        go_meet
        case rel => exact ⟨bn, rfl, N.out, R0.out, BB.out⟩
      refine AllReadyH.cons (o := { dst := some 3, op := Op.alloc 70, type := 0, pos := "history.go:38", after := #[], guard := none }) rfl (fun K hK => ?_) AllReadyH.nil
      go_simp
      have hlt_bn := BB.out.size
      have hlt_bn_K0 := K0.out.lt
      have hlt_bn_R0 := R0.out.lt
      have K0' := Lib.hid (K0.out.below (below_new v1 (.cells #[.int .i64 0, .int .u32 0, .int .u32 0, .int .i64 0, .map none] 70)))
      have R0' := Lib.hid (R0.out.below (below_new v1 (.cells #[.int .i64 0, .int .u32 0, .int .u32 0, .int .i64 0, .map none] 70)))
      have H' := Lib.hid (H.out.below (below_new v1 (.cells #[.int .i64 0, .int .u32 0, .int .u32 0, .int .i64 0, .map none] 70)))
      have BB' := Lib.hid (BB.out.trans ((below_new v1 (.cells #[.int .i64 0, .int .u32 0, .int .u32 0, .int .i64 0, .map none] 70)).mono BB.out.size))
      clear K0
      have K0 := K0'
      clear K0'
      clear R0
      have R0 := R0'
      clear R0'
      clear H
      have H := H'
      clear H'
      clear BB
      have BB := BB'
      clear BB'
      have N := Lib.hid (Box.new v1 #[.int .i64 0, .int .u32 0, .int .u32 0, .int .i64 0, .map none] 70 rfl)
      generalize World.alloc v1 (.cells #[.int .i64 0, .int .u32 0, .int .u32 0, .int .i64 0, .map none] 70) = v5 at *
      generalize World.heap v1 = hp_bn at *
      generalize hp_bn.size = bn at *
      refine hK.out _ _ ?_ (fun hHeld => ?_)
      · exact K0.out.cells1.1
      clear hK K
      (try simp only [Act.put])
      (try simp only [List.setIfInBounds_toArray])
      (try simp only [List.set_cons_succ])
      (try simp only [List.set_cons_zero])
      refine wpAnyH_ready (rs := [4]) (by kernel_rfl) (by simp) ?_
      refine AllReadyH.cons (o := { dst := some 10, op := Op.call { callee := Callee.value (Operand.func 22), args := #[Operand.tmp 6, Operand.tmp 9], argTypes := #[65, 3] }, type := 71, pos := "history.go:38", after := #[{ on := 0, ground := Ground.data }, { on := 3, ground := Ground.data }, { on := 2, ground := Ground.chain }], guard := none }) rfl (fun K hK => ?_) AllReadyH.nil
      go_simp
      go_at_call 22
      (try rw [hw])
      refine (hat_in _ r n _ _ H.out HX.out (by rw [HL.out]; omega)).mono ?_
      rintro e v6 ⟨rfl, hb⟩
      have K0' := Lib.hid (K0.out.below (hb))
      have R0' := Lib.hid (R0.out.below (hb))
      have H' := Lib.hid (H.out.below (hb))
      have N' := Lib.hid (N.out.below (hb))
      have BB' := Lib.hid (BB.out.trans ((hb).mono BB.out.size))
      clear K0
      have K0 := K0'
      clear K0'
      clear R0
      have R0 := R0'
      clear R0'
      clear H
      have H := H'
      clear H'
      clear N
      have N := N'
      clear N'
      clear BB
      have BB := BB'
      clear BB'
      clear hb
      clear H
      simp only [msgV]
      go_simp
      refine hK.out _ _ ?_ (fun hHeld => ?_)
      · exact K0.out.cells1.1
      clear hK K
      (try simp only [Act.put])
      (try simp only [List.setIfInBounds_toArray])
      (try simp only [List.set_cons_succ])
      (try simp only [List.set_cons_zero])
      refine wpAnyH_take (i := 5) (oi := { dst := some 5, op := Op.move (Operand.tmp 10), type := 71, pos := "history.go:38", after := #[{ on := 4, ground := Ground.data }], guard := none }) (v := ?d7_7xv5) rfl (by kernel_rfl) (by kernel_rfl) (by kernel_rfl) (fun _ _ _ h => h) (Or.inl ⟨by rfl, ?d7_7xy5⟩) (by assumption) ?d7_7xr5
      case d7_7xy5 => (intro w hSw; (try dsimp only at hSw); go_simp; try with_reducible rfl)
      (try simp only [Act.put])
      (try simp only [List.setIfInBounds_toArray])
      (try simp only [List.set_cons_succ])
      (try simp only [List.set_cons_zero])
      refine wpAnyH_take (i := 6) (oi := { dst := some 11, op := Op.extract (Operand.tmp 5) 0, type := 70, pos := "history.go:38", after := #[{ on := 5, ground := Ground.data }], guard := none }) (v := ?d7_8xv6) rfl (by kernel_rfl) (by kernel_rfl) (by kernel_rfl) (fun _ _ _ h => h) (Or.inl ⟨by rfl, ?d7_8xy6⟩) (by assumption) ?d7_8xr6
      case d7_8xy6 => (intro w hSw; (try dsimp only at hSw); go_simp; try with_reducible rfl)
      (try simp only [Act.put])
      (try simp only [List.setIfInBounds_toArray])
      (try simp only [List.set_cons_succ])
      (try simp only [List.set_cons_zero])
      refine wpAnyH_take (i := 7) (oi := { dst := some 12, op := Op.extract (Operand.tmp 5) 1, type := 4, pos := "history.go:38", after := #[{ on := 5, ground := Ground.data }, { on := 9, ground := Ground.gcOnly Departure.lateStores }], guard := none }) (v := ?d7_9xv7) rfl (by kernel_rfl) (by kernel_rfl) (by kernel_rfl) (fun _ _ _ h => h) (Or.inl ⟨by rfl, ?d7_9xy7⟩) (by assumption) ?d7_9xr7
      case d7_9xy7 => (intro w hSw; (try dsimp only at hSw); go_simp; try with_reducible rfl)
      (try simp only [Act.put])
      (try simp only [List.setIfInBounds_toArray])
      (try simp only [List.set_cons_succ])
      (try simp only [List.set_cons_zero])
      refine wpAnyH_ready (rs := [9]) (by kernel_rfl) (by simp) ?_
      refine AllReadyH.cons (o := { dst := none, op := Op.store 70 (Operand.tmp 3) (Operand.tmp 11), type := 0, pos := "history.go:38", after := #[{ on := 8, ground := Ground.data }, { on := 6, ground := Ground.data }, { on := 4, ground := Ground.chain }, { on := 0, ground := Ground.phase }, { on := 1, ground := Ground.phase }, { on := 2, ground := Ground.phase }, { on := 3, ground := Ground.phase }, { on := 4, ground := Ground.phase }, { on := 5, ground := Ground.phase }, { on := 6, ground := Ground.phase }, { on := 7, ground := Ground.textOnly Departure.lateStores }, { on := 8, ground := Ground.phase }], guard := none }) rfl (fun K hK => ?_) AllReadyH.nil
      obtain ⟨⟨m0, m1, m2, m3, m4⟩, g0, g1, g2, g3, g4⟩ := N.out.cells5
      go_simp
      clear m0 g0 m1 g1 m2 g2 m3 g3 m4 g4
      have K0' := Lib.hid (K0.out.only (by omega) ((((((Only.refl bn v6).set 0 (.int .i64 xa)).set 1 (.int .u32 xb)).set 2 (.int .u32 xc)).set 3 (.int .i64 xd)).set 4 (.map xp)))
      have R0' := Lib.hid (R0.out.only (by omega) ((((((Only.refl bn v6).set 0 (.int .i64 xa)).set 1 (.int .u32 xb)).set 2 (.int .u32 xc)).set 3 (.int .i64 xd)).set 4 (.map xp)))
      have N' := Lib.hid ((((((N.out).set 0 (.int .i64 xa)).set 1 (.int .u32 xb)).set 2 (.int .u32 xc)).set 3 (.int .i64 xd)).set 4 (.map xp))
      have BB' := Lib.hid ((((((BB.out).put bn (by omega) 0 (.int .i64 xa)).put bn (by omega) 1 (.int .u32 xb)).put bn (by omega) 2 (.int .u32 xc)).put bn (by omega) 3 (.int .i64 xd)).put bn (by omega) 4 (.map xp))
      clear K0
      have K0 := K0'
      clear K0'
      clear R0
      have R0 := R0'
      clear R0'
      clear N
      have N := N'
      clear N'
      clear BB
      have BB := BB'
      clear BB'
      generalize (World.setCell (World.setCell (World.setCell (World.setCell (World.setCell v6 ⟨bn, 0, none⟩ (.int .i64 xa)) ⟨bn, 1, none⟩ (.int .u32 xb)) ⟨bn, 2, none⟩ (.int .u32 xc)) ⟨bn, 3, none⟩ (.int .i64 xd)) ⟨bn, 4, none⟩ (.map xp)) = v7 at *
      refine hK.out _ _ ?_ (fun hHeld => ?_)
      · exact K0.out.cells1.1
      clear hK K
      (try simp only [Act.put])
      (try simp only [List.setIfInBounds_toArray])
      (try simp only [List.set_cons_succ])
      (try simp only [List.set_cons_zero])
      refine wpAnyH_ready (rs := [10]) (by kernel_rfl) (by simp) ?_
      refine AllReadyH.cons (o := { dst := some 4, op := Op.assign (Operand.tmp 12), type := 4, pos := "history.go:38", after := #[{ on := 7, ground := Ground.data }, { on := 9, ground := Ground.chain }, { on := 0, ground := Ground.phase }, { on := 1, ground := Ground.phase }, { on := 2, ground := Ground.phase }, { on := 3, ground := Ground.phase }, { on := 4, ground := Ground.phase }, { on := 5, ground := Ground.phase }, { on := 6, ground := Ground.phase }, { on := 7, ground := Ground.phase }, { on := 8, ground := Ground.phase }, { on := 9, ground := Ground.phase }], guard := none }) rfl (fun K hK => ?_) AllReadyH.nil
      go_simp
      refine hK.out _ _ ?_ (fun hHeld => ?_)
      · exact K0.out.cells1.1
      clear hK K
      (try simp only [Act.put])
      (try simp only [List.setIfInBounds_toArray])
      (try simp only [List.set_cons_succ])
      (try simp only [List.set_cons_zero])
      refine wpAnyH_done (by kernel_rfl) ?_ _
      go_wp2
      go_meet
      case rel => exact ⟨bn, rfl, N.out, R0.out, BB.out⟩
    refine AllReadyH.cons (o := { dst := some 3, op := Op.alloc 70, type := 0, pos := "history.go:38", after := #[], guard := none }) rfl (fun K hK => ?_) AllReadyH.nil
    go_simp
    have hlt_bn := BB.out.size
    have hlt_bn_K0 := K0.out.lt
    have hlt_bn_R0 := R0.out.lt
    have K0' := Lib.hid (K0.out.below (below_new V0 (.cells #[.int .i64 0, .int .u32 0, .int .u32 0, .int .i64 0, .map none] 70)))
    have R0' := Lib.hid (R0.out.below (below_new V0 (.cells #[.int .i64 0, .int .u32 0, .int .u32 0, .int .i64 0, .map none] 70)))
    have H' := Lib.hid (H.out.below (below_new V0 (.cells #[.int .i64 0, .int .u32 0, .int .u32 0, .int .i64 0, .map none] 70)))
    have BB' := Lib.hid (BB.out.trans ((below_new V0 (.cells #[.int .i64 0, .int .u32 0, .int .u32 0, .int .i64 0, .map none] 70)).mono BB.out.size))
    clear K0
    have K0 := K0'
    clear K0'
    clear R0
    have R0 := R0'
    clear R0'
    clear H
    have H := H'
    clear H'
    clear BB
    have BB := BB'
    clear BB'
    have N := Lib.hid (Box.new V0 #[.int .i64 0, .int .u32 0, .int .u32 0, .int .i64 0, .map none] 70 rfl)
    generalize World.alloc V0 (.cells #[.int .i64 0, .int .u32 0, .int .u32 0, .int .i64 0, .map none] 70) = v8 at *
    generalize World.heap V0 = hp_bn at *
    generalize hp_bn.size = bn at *
    refine hK.out _ _ ?_ (fun hHeld => ?_)
    · exact K0.out.cells1.1
    clear hK K
    (try simp only [Act.put])
    (try simp only [List.setIfInBounds_toArray])
    (try simp only [List.set_cons_succ])
    (try simp only [List.set_cons_zero])
    refine wpAnyH_ready (rs := [2]) (by kernel_rfl) (by simp) ?_
    refine AllReadyH.cons (o := { dst := some 8, op := Op.call { callee := Callee.value (Operand.func 21), args := #[Operand.tmp 7], argTypes := #[65] }, type := 3, pos := "history.go:38", after := #[{ on := 1, ground := Ground.data }], guard := none }) rfl (fun K hK => ?_) AllReadyH.nil
    go_simp
    go_at_call 21
    refine (len_b _ r (n + 1) HL.out _ H.out).mono ?_
    rintro e v9 ⟨rfl, hb⟩
    have K0' := Lib.hid (K0.out.below (hb))
    have R0' := Lib.hid (R0.out.below (hb))
    have H' := Lib.hid (H.out.below (hb))
    have N' := Lib.hid (N.out.below (hb))
    have BB' := Lib.hid (BB.out.trans ((hb).mono BB.out.size))
    clear K0
    have K0 := K0'
    clear K0'
    clear R0
    have R0 := R0'
    clear R0'
    clear H
    have H := H'
    clear H'
    clear N
    have N := N'
    clear N'
    clear BB
    have BB := BB'
    clear BB'
    clear hb
    go_simp
    refine hK.out _ _ ?_ (fun hHeld => ?_)
    · exact K0.out.cells1.1
    clear hK K
    (try simp only [Act.put])
    (try simp only [List.setIfInBounds_toArray])
    (try simp only [List.set_cons_succ])
    (try simp only [List.set_cons_zero])
    refine wpAnyH_take (i := 3) (oi := { dst := some 9, op := Op.binOp BinOp.sub 3 (Operand.tmp 8) (Operand.const (Value.int IntKind.i64 1)) 3, type := 3, pos := "history.go:38", after := #[{ on := 2, ground := Ground.data }], guard := none }) (v := ?d10_10xv3) rfl (by kernel_rfl) (by kernel_rfl) (by kernel_rfl) (fun _ _ _ h => h) (Or.inl ⟨by rfl, ?d10_10xy3⟩) (by assumption) ?d10_10xr3
    case d10_10xy3 => (intro w hSw; (try dsimp only at hSw); go_simp; try with_reducible rfl)
    (try simp only [Act.put])
    (try simp only [List.setIfInBounds_toArray])
    (try simp only [List.set_cons_succ])
    (try simp only [List.set_cons_zero])
    refine wpAnyH_ready (rs := [4]) (by kernel_rfl) (by simp) ?_
    refine AllReadyH.cons (o := { dst := some 10, op := Op.call { callee := Callee.value (Operand.func 22), args := #[Operand.tmp 6, Operand.tmp 9], argTypes := #[65, 3] }, type := 71, pos := "history.go:38", after := #[{ on := 0, ground := Ground.data }, { on := 3, ground := Ground.data }, { on := 2, ground := Ground.chain }], guard := none }) rfl (fun K hK => ?_) AllReadyH.nil
    go_simp
    go_at_call 22
    (try rw [hw])
    refine (hat_in _ r n _ _ H.out HX.out (by rw [HL.out]; omega)).mono ?_
    rintro e v10 ⟨rfl, hb⟩
    have K0' := Lib.hid (K0.out.below (hb))
    have R0' := Lib.hid (R0.out.below (hb))
    have H' := Lib.hid (H.out.below (hb))
    have N' := Lib.hid (N.out.below (hb))
    have BB' := Lib.hid (BB.out.trans ((hb).mono BB.out.size))
    clear K0
    have K0 := K0'
    clear K0'
    clear R0
    have R0 := R0'
    clear R0'
    clear H
    have H := H'
    clear H'
    clear N
    have N := N'
    clear N'
    clear BB
    have BB := BB'
    clear BB'
    clear hb
    clear H
    simp only [msgV]
    go_simp
    refine hK.out _ _ ?_ (fun hHeld => ?_)
    · exact K0.out.cells1.1
    clear hK K
    (try simp only [Act.put])
    (try simp only [List.setIfInBounds_toArray])
    (try simp only [List.set_cons_succ])
    (try simp only [List.set_cons_zero])
    refine wpAnyH_take (i := 5) (oi := { dst := some 5, op := Op.move (Operand.tmp 10), type := 71, pos := "history.go:38", after := #[{ on := 4, ground := Ground.data }], guard := none }) (v := ?d11_11xv5) rfl (by kernel_rfl) (by kernel_rfl) (by kernel_rfl) (fun _ _ _ h => h) (Or.inl ⟨by rfl, ?d11_11xy5⟩) (by assumption) ?d11_11xr5
    case d11_11xy5 => (intro w hSw; (try dsimp only at hSw); go_simp; try with_reducible rfl)
    (try simp only [Act.put])
    (try simp only [List.setIfInBounds_toArray])
    (try simp only [List.set_cons_succ])
    (try simp only [List.set_cons_zero])
    refine wpAnyH_take (i := 6) (oi := { dst := some 11, op := Op.extract (Operand.tmp 5) 0, type := 70, pos := "history.go:38", after := #[{ on := 5, ground := Ground.data }], guard := none }) (v := ?d11_12xv6) rfl (by kernel_rfl) (by kernel_rfl) (by kernel_rfl) (fun _ _ _ h => h) (Or.inl ⟨by rfl, ?d11_12xy6⟩) (by assumption) ?d11_12xr6
    case d11_12xy6 => (intro w hSw; (try dsimp only at hSw); go_simp; try with_reducible rfl)
    (try simp only [Act.put])
    (try simp only [List.setIfInBounds_toArray])
    (try simp only [List.set_cons_succ])
    (try simp only [List.set_cons_zero])
    refine wpAnyH_take (i := 7) (oi := { dst := some 12, op := Op.extract (Operand.tmp 5) 1, type := 4, pos := "history.go:38", after := #[{ on := 5, ground := Ground.data }, { on := 9, ground := Ground.gcOnly Departure.lateStores }], guard := none }) (v := ?d11_13xv7) rfl (by kernel_rfl) (by kernel_rfl) (by kernel_rfl) (fun _ _ _ h => h) (Or.inl ⟨by rfl, ?d11_13xy7⟩) (by assumption) ?d11_13xr7
    case d11_13xy7 => (intro w hSw; (try dsimp only at hSw); go_simp; try with_reducible rfl)
    (try simp only [Act.put])
    (try simp only [List.setIfInBounds_toArray])
    (try simp only [List.set_cons_succ])
    (try simp only [List.set_cons_zero])
    refine wpAnyH_ready (rs := [9]) (by kernel_rfl) (by simp) ?_
    refine AllReadyH.cons (o := { dst := none, op := Op.store 70 (Operand.tmp 3) (Operand.tmp 11), type := 0, pos := "history.go:38", after := #[{ on := 8, ground := Ground.data }, { on := 6, ground := Ground.data }, { on := 4, ground := Ground.chain }, { on := 0, ground := Ground.phase }, { on := 1, ground := Ground.phase }, { on := 2, ground := Ground.phase }, { on := 3, ground := Ground.phase }, { on := 4, ground := Ground.phase }, { on := 5, ground := Ground.phase }, { on := 6, ground := Ground.phase }, { on := 7, ground := Ground.textOnly Departure.lateStores }, { on := 8, ground := Ground.phase }], guard := none }) rfl (fun K hK => ?_) AllReadyH.nil
    obtain ⟨⟨m0, m1, m2, m3, m4⟩, g0, g1, g2, g3, g4⟩ := N.out.cells5
    go_simp
    clear m0 g0 m1 g1 m2 g2 m3 g3 m4 g4
    have K0' := Lib.hid (K0.out.only (by omega) ((((((Only.refl bn v10).set 0 (.int .i64 xa)).set 1 (.int .u32 xb)).set 2 (.int .u32 xc)).set 3 (.int .i64 xd)).set 4 (.map xp)))
    have R0' := Lib.hid (R0.out.only (by omega) ((((((Only.refl bn v10).set 0 (.int .i64 xa)).set 1 (.int .u32 xb)).set 2 (.int .u32 xc)).set 3 (.int .i64 xd)).set 4 (.map xp)))
    have N' := Lib.hid ((((((N.out).set 0 (.int .i64 xa)).set 1 (.int .u32 xb)).set 2 (.int .u32 xc)).set 3 (.int .i64 xd)).set 4 (.map xp))
    have BB' := Lib.hid ((((((BB.out).put bn (by omega) 0 (.int .i64 xa)).put bn (by omega) 1 (.int .u32 xb)).put bn (by omega) 2 (.int .u32 xc)).put bn (by omega) 3 (.int .i64 xd)).put bn (by omega) 4 (.map xp))
    clear K0
    have K0 := K0'
    clear K0'
    clear R0
    have R0 := R0'
    clear R0'
    clear N
    have N := N'
    clear N'
    clear BB
    have BB := BB'
    clear BB'
    generalize (World.setCell (World.setCell (World.setCell (World.setCell (World.setCell v10 ⟨bn, 0, none⟩ (.int .i64 xa)) ⟨bn, 1, none⟩ (.int .u32 xb)) ⟨bn, 2, none⟩ (.int .u32 xc)) ⟨bn, 3, none⟩ (.int .i64 xd)) ⟨bn, 4, none⟩ (.map xp)) = v11 at *
    refine hK.out _ _ ?_ (fun hHeld => ?_)
    · exact K0.out.cells1.1
    clear hK K
    (try simp only [Act.put])
    (try simp only [List.setIfInBounds_toArray])
    (try simp only [List.set_cons_succ])
    (try simp only [List.set_cons_zero])
    refine wpAnyH_ready (rs := [10]) (by kernel_rfl) (by simp) ?_
    refine AllReadyH.cons (o := { dst := some 4, op := Op.assign (Operand.tmp 12), type := 4, pos := "history.go:38", after := #[{ on := 7, ground := Ground.data }, { on := 9, ground := Ground.chain }, { on := 0, ground := Ground.phase }, { on := 1, ground := Ground.phase }, { on := 2, ground := Ground.phase }, { on := 3, ground := Ground.phase }, { on := 4, ground := Ground.phase }, { on := 5, ground := Ground.phase }, { on := 6, ground := Ground.phase }, { on := 7, ground := Ground.phase }, { on := 8, ground := Ground.phase }, { on := 9, ground := Ground.phase }], guard := none }) rfl (fun K hK => ?_) AllReadyH.nil
    go_simp
    refine hK.out _ _ ?_ (fun hHeld => ?_)
    · exact K0.out.cells1.1
    clear hK K
    (try simp only [Act.put])
    (try simp only [List.setIfInBounds_toArray])
    (try simp only [List.set_cons_succ])
    (try simp only [List.set_cons_zero])
    refine wpAnyH_done (by kernel_rfl) ?_ _
    go_wp2
    go_meet
    case rel => exact ⟨bn, rfl, N.out, R0.out, BB.out⟩
  case rest =>
    obtain ⟨bn, rfl, hN, hR, hB⟩ := hcut
    obtain ⟨⟨m0, m1, m2, m3, m4⟩, g0, g1, g2, g3, g4⟩ := hN.cells5
    obtain ⟨⟨p0, p1, p2, p3, p4⟩, q0, q1, q2, q3, q4⟩ := hR.cells5
    have BB2 := Lib.hid hB
    have RR := Lib.hid hR
    clear hN hR hB K0 R0 H BB
    go_wp2
    obtain ⟨⟨m0, m1, m2, m3, m4⟩, g0, g1, g2, g3, g4⟩ := (((((RR.out.set 0 (.int .i64 xa)).set 1 (.int .u32 xb)).set 2 (.int .u32 xc)).set 3 (.int .i64 xd)).set 4 (.map xp)).cells5
    refine bodyPost_ret (v := .agg #[.int .i64 xa, .int .u32 xb, .int .u32 xc, .int .i64 xd, .map xp]) (by simp [results, Try.results42, go_sem, m0, m1, m2, m3, m4]) rfl ?_
    exact ⟨rfl, ((((BB2.out.put br (by omega) _ _).put br (by omega) _ _).put br (by omega) _ _).put br (by omega) _ _).put br (by omega) _ _⟩

set_option maxRecDepth 100000 in
set_option maxHeartbeats 1600000 in
theorem last_none (w : World) :
    Calls Try.prog 42 #[.agg #[.slice none 0 0]] w fun e w' => e = .returned (.agg #[.int .i64 0, .int .u32 0, .int .u32 0, .int .i64 0, .map none]) ∧ Below w.heap.size w w' := by
  have K0 := Lib.hid (Box.alloc (Box.new w #[.slice none 0 0] 65 rfl) (.cells #[.int .i64 0, .int .u32 0, .int .u32 0, .int .i64 0, .map none] 70))
  have R0 := Lib.hid (Box.new (w.alloc (.cells #[.slice none 0 0] 65)) #[.int .i64 0, .int .u32 0, .int .u32 0, .int .i64 0, .map none] 70 (n := w.heap.size + 1) (by simp))
  have BB := Lib.hid (b2 w (.cells #[.slice none 0 0] 65) (.cells #[.int .i64 0, .int .u32 0, .int .u32 0, .int .i64 0, .map none] 70))
  go_enter Try.func42, Try.ntmps42
  go_wp2_with fail
  generalize (w.alloc (.cells #[.slice none 0 0] 65)).alloc (.cells #[.int .i64 0, .int .u32 0, .int .u32 0, .int .i64 0, .map none] 70) = W0 at *
  obtain ⟨br, hbr⟩ : ∃ br, w.heap.size + 1 = br := ⟨_, rfl⟩
  obtain ⟨bp, hbp⟩ : ∃ bp, w.heap.size = bp := ⟨_, rfl⟩
  rw [hbr] at R0 ⊢
  have hbq := hbp
  rw [hbp] at K0 hbr ⊢
  go_cut [3] (fun s3 wx => ∃ b, s3 = .pointer (some ⟨b, 0, none⟩) ∧ Box wx b #[.int .i64 0, .int .u32 0, .int .u32 0, .int .i64 0, .map none] 70 ∧ Box wx br #[.int .i64 0, .int .u32 0, .int .u32 0, .int .i64 0, .map none] 70 ∧ Below w.heap.size w wx)
  case first =>
    have K0' := Lib.hid (K0.out.below ((Below.refl _ _).drew))
    have R0' := Lib.hid (R0.out.below ((Below.refl _ _).drew))
    have BB' := Lib.hid (BB.out.trans (((Below.refl _ _).drew).mono BB.out.size))
    clear K0
    have K0 := K0'
    clear K0'
    clear R0
    have R0 := R0'
    clear R0'
    clear BB
    have BB := BB'
    clear BB'
    refine wp_region_held_drew (S := fun w' => w'.cell? ⟨bp, 0, none⟩ = some (.slice none 0 0)) (by kernel_rfl) K0.out.cells1.1 (fun hHeld => ?_)
    generalize World.drew W0 = V0 at *
    refine wpAnyH_take (i := 0) (oi := { dst := some 6, op := Op.load 65 (Operand.tmp 1), type := 65, pos := "history.go:38", after := #[], guard := none }) (v := ?d1_1xv0) rfl (by kernel_rfl) (by kernel_rfl) (by kernel_rfl) (fun _ _ _ h => h) (Or.inl ⟨by rfl, ?d1_1xy0⟩) (by assumption) ?d1_1xr0
    case d1_1xy0 => (intro w hSw; (try dsimp only at hSw); go_simp; try with_reducible rfl)
    (try simp only [Act.put])
    (try simp only [List.setIfInBounds_toArray])
    (try simp only [List.set_cons_succ])
    (try simp only [List.set_cons_zero])
    refine wpAnyH_take (i := 1) (oi := { dst := some 7, op := Op.load 65 (Operand.tmp 1), type := 65, pos := "history.go:38", after := #[], guard := none }) (v := ?d1_2xv1) rfl (by kernel_rfl) (by kernel_rfl) (by kernel_rfl) (fun _ _ _ h => h) (Or.inl ⟨by rfl, ?d1_2xy1⟩) (by assumption) ?d1_2xr1
    case d1_2xy1 => (intro w hSw; (try dsimp only at hSw); go_simp; try with_reducible rfl)
    (try simp only [Act.put])
    (try simp only [List.setIfInBounds_toArray])
    (try simp only [List.set_cons_succ])
    (try simp only [List.set_cons_zero])
    refine wpAnyH_ready (rs := [2, 8]) (by kernel_rfl) (by simp) ?_
    refine AllReadyH.cons (o := { dst := some 8, op := Op.call { callee := Callee.value (Operand.func 21), args := #[Operand.tmp 7], argTypes := #[65] }, type := 3, pos := "history.go:38", after := #[{ on := 1, ground := Ground.data }], guard := none }) rfl (fun K hK => ?_) ?_
    · skip
      go_simp
      go_at_call 21
      refine (len_b _ [] 0 rfl _ (HW.nil _)).mono ?_
      rintro e v1 ⟨rfl, hb⟩
      have K0' := Lib.hid (K0.out.below (hb))
      have R0' := Lib.hid (R0.out.below (hb))
      have BB' := Lib.hid (BB.out.trans ((hb).mono BB.out.size))
      clear K0
      have K0 := K0'
      clear K0'
      clear R0
      have R0 := R0'
      clear R0'
      clear BB
      have BB := BB'
      clear BB'
      clear hb
      go_simp
      refine hK.out _ _ ?_ (fun hHeld => ?_)
      · exact K0.out.cells1.1
      clear hK K
      (try simp only [Act.put])
      (try simp only [List.setIfInBounds_toArray])
      (try simp only [List.set_cons_succ])
      (try simp only [List.set_cons_zero])
      refine wpAnyH_take (i := 3) (oi := { dst := some 9, op := Op.binOp BinOp.sub 3 (Operand.tmp 8) (Operand.const (Value.int IntKind.i64 1)) 3, type := 3, pos := "history.go:38", after := #[{ on := 2, ground := Ground.data }], guard := none }) (v := ?d2_3xv3) rfl (by kernel_rfl) (by kernel_rfl) (by kernel_rfl) (fun _ _ _ h => h) (Or.inl ⟨by rfl, ?d2_3xy3⟩) (by assumption) ?d2_3xr3
      case d2_3xy3 => (intro w hSw; (try dsimp only at hSw); go_simp; try with_reducible rfl)
      (try simp only [Act.put])
      (try simp only [List.setIfInBounds_toArray])
      (try simp only [List.set_cons_succ])
      (try simp only [List.set_cons_zero])
      refine wpAnyH_ready (rs := [4, 8]) (by kernel_rfl) (by simp) ?_
      refine AllReadyH.cons (o := { dst := some 10, op := Op.call { callee := Callee.value (Operand.func 22), args := #[Operand.tmp 6, Operand.tmp 9], argTypes := #[65, 3] }, type := 71, pos := "history.go:38", after := #[{ on := 0, ground := Ground.data }, { on := 3, ground := Ground.data }, { on := 2, ground := Ground.chain }], guard := none }) rfl (fun K hK => ?_) ?_
      · skip
        go_simp
        go_at_call 22
        (try rw [IntWalk.i64_in (-1) (by omega)])
        refine (hat_out _ [] (-1) _ (HW.nil _) (by simp)).mono ?_
        rintro e v2 ⟨rfl, hb⟩
        have K0' := Lib.hid (K0.out.below (hb))
        have R0' := Lib.hid (R0.out.below (hb))
        have BB' := Lib.hid (BB.out.trans ((hb).mono BB.out.size))
        clear K0
        have K0 := K0'
        clear K0'
        clear R0
        have R0 := R0'
        clear R0'
        clear BB
        have BB := BB'
        clear BB'
        clear hb
        go_simp
        refine hK.out _ _ ?_ (fun hHeld => ?_)
        · exact K0.out.cells1.1
        clear hK K
        (try simp only [Act.put])
        (try simp only [List.setIfInBounds_toArray])
        (try simp only [List.set_cons_succ])
        (try simp only [List.set_cons_zero])
        refine wpAnyH_take (i := 5) (oi := { dst := some 5, op := Op.move (Operand.tmp 10), type := 71, pos := "history.go:38", after := #[{ on := 4, ground := Ground.data }], guard := none }) (v := ?d3_4xv5) rfl (by kernel_rfl) (by kernel_rfl) (by kernel_rfl) (fun _ _ _ h => h) (Or.inl ⟨by rfl, ?d3_4xy5⟩) (by assumption) ?d3_4xr5
        case d3_4xy5 => (intro w hSw; (try dsimp only at hSw); go_simp; try with_reducible rfl)
        (try simp only [Act.put])
        (try simp only [List.setIfInBounds_toArray])
        (try simp only [List.set_cons_succ])
        (try simp only [List.set_cons_zero])
        refine wpAnyH_take (i := 6) (oi := { dst := some 11, op := Op.extract (Operand.tmp 5) 0, type := 70, pos := "history.go:38", after := #[{ on := 5, ground := Ground.data }], guard := none }) (v := ?d3_5xv6) rfl (by kernel_rfl) (by kernel_rfl) (by kernel_rfl) (fun _ _ _ h => h) (Or.inl ⟨by rfl, ?d3_5xy6⟩) (by assumption) ?d3_5xr6
        case d3_5xy6 => (intro w hSw; (try dsimp only at hSw); go_simp; try with_reducible rfl)
        (try simp only [Act.put])
        (try simp only [List.setIfInBounds_toArray])
        (try simp only [List.set_cons_succ])
        (try simp only [List.set_cons_zero])
        refine wpAnyH_take (i := 7) (oi := { dst := some 12, op := Op.extract (Operand.tmp 5) 1, type := 4, pos := "history.go:38", after := #[{ on := 5, ground := Ground.data }, { on := 9, ground := Ground.gcOnly Departure.lateStores }], guard := none }) (v := ?d3_6xv7) rfl (by kernel_rfl) (by kernel_rfl) (by kernel_rfl) (fun _ _ _ h => h) (Or.inl ⟨by rfl, ?d3_6xy7⟩) (by assumption) ?d3_6xr7
        case d3_6xy7 => (intro w hSw; (try dsimp only at hSw); go_simp; try with_reducible rfl)
        (try simp only [Act.put])
        (try simp only [List.setIfInBounds_toArray])
        (try simp only [List.set_cons_succ])
        (try simp only [List.set_cons_zero])
        refine wpAnyH_ready (rs := [8]) (by kernel_rfl) (by simp) ?_
        refine AllReadyH.cons (o := { dst := some 3, op := Op.alloc 70, type := 0, pos := "history.go:38", after := #[], guard := none }) rfl (fun K hK => ?_) AllReadyH.nil
        go_simp
        have hlt_bn := BB.out.size
        have hlt_bn_K0 := K0.out.lt
        have hlt_bn_R0 := R0.out.lt
        have K0' := Lib.hid (K0.out.below (below_new v2 (.cells #[.int .i64 0, .int .u32 0, .int .u32 0, .int .i64 0, .map none] 70)))
        have R0' := Lib.hid (R0.out.below (below_new v2 (.cells #[.int .i64 0, .int .u32 0, .int .u32 0, .int .i64 0, .map none] 70)))
        have BB' := Lib.hid (BB.out.trans ((below_new v2 (.cells #[.int .i64 0, .int .u32 0, .int .u32 0, .int .i64 0, .map none] 70)).mono BB.out.size))
        clear K0
        have K0 := K0'
        clear K0'
        clear R0
        have R0 := R0'
        clear R0'
        clear BB
        have BB := BB'
        clear BB'
        have N := Lib.hid (Box.new v2 #[.int .i64 0, .int .u32 0, .int .u32 0, .int .i64 0, .map none] 70 rfl)
        generalize World.alloc v2 (.cells #[.int .i64 0, .int .u32 0, .int .u32 0, .int .i64 0, .map none] 70) = v3 at *
        generalize World.heap v2 = hp_bn at *
        generalize hp_bn.size = bn at *
        refine hK.out _ _ ?_ (fun hHeld => ?_)
        · exact K0.out.cells1.1
        clear hK K
        (try simp only [Act.put])
        (try simp only [List.setIfInBounds_toArray])
        (try simp only [List.set_cons_succ])
        (try simp only [List.set_cons_zero])
        refine wpAnyH_ready (rs := [9]) (by kernel_rfl) (by simp) ?_
        refine AllReadyH.cons (o := { dst := none, op := Op.store 70 (Operand.tmp 3) (Operand.tmp 11), type := 0, pos := "history.go:38", after := #[{ on := 8, ground := Ground.data }, { on := 6, ground := Ground.data }, { on := 4, ground := Ground.chain }, { on := 0, ground := Ground.phase }, { on := 1, ground := Ground.phase }, { on := 2, ground := Ground.phase }, { on := 3, ground := Ground.phase }, { on := 4, ground := Ground.phase }, { on := 5, ground := Ground.phase }, { on := 6, ground := Ground.phase }, { on := 7, ground := Ground.textOnly Departure.lateStores }, { on := 8, ground := Ground.phase }], guard := none }) rfl (fun K hK => ?_) AllReadyH.nil
        obtain ⟨⟨m0, m1, m2, m3, m4⟩, g0, g1, g2, g3, g4⟩ := N.out.cells5
        go_simp
        clear m0 g0 m1 g1 m2 g2 m3 g3 m4 g4
        have K0' := Lib.hid (K0.out.only (by omega) ((((((Only.refl bn v3).set 0 (.int .i64 0)).set 1 (.int .u32 0)).set 2 (.int .u32 0)).set 3 (.int .i64 0)).set 4 (.map none)))
        have R0' := Lib.hid (R0.out.only (by omega) ((((((Only.refl bn v3).set 0 (.int .i64 0)).set 1 (.int .u32 0)).set 2 (.int .u32 0)).set 3 (.int .i64 0)).set 4 (.map none)))
        have N' := Lib.hid ((((((N.out).set 0 (.int .i64 0)).set 1 (.int .u32 0)).set 2 (.int .u32 0)).set 3 (.int .i64 0)).set 4 (.map none))
        have BB' := Lib.hid ((((((BB.out).put bn (by omega) 0 (.int .i64 0)).put bn (by omega) 1 (.int .u32 0)).put bn (by omega) 2 (.int .u32 0)).put bn (by omega) 3 (.int .i64 0)).put bn (by omega) 4 (.map none))
        clear K0
        have K0 := K0'
        clear K0'
        clear R0
        have R0 := R0'
        clear R0'
        clear N
        have N := N'
        clear N'
        clear BB
        have BB := BB'
        clear BB'
        generalize (World.setCell (World.setCell (World.setCell (World.setCell (World.setCell v3 ⟨bn, 0, none⟩ (.int .i64 0)) ⟨bn, 1, none⟩ (.int .u32 0)) ⟨bn, 2, none⟩ (.int .u32 0)) ⟨bn, 3, none⟩ (.int .i64 0)) ⟨bn, 4, none⟩ (.map none)) = v4 at *
        refine hK.out _ _ ?_ (fun hHeld => ?_)
        · exact K0.out.cells1.1
        clear hK K
        (try simp only [Act.put])
        (try simp only [List.setIfInBounds_toArray])
        (try simp only [List.set_cons_succ])
        (try simp only [List.set_cons_zero])
        refine wpAnyH_ready (rs := [10]) (by kernel_rfl) (by simp) ?_
        refine AllReadyH.cons (o := { dst := some 4, op := Op.assign (Operand.tmp 12), type := 4, pos := "history.go:38", after := #[{ on := 7, ground := Ground.data }, { on := 9, ground := Ground.chain }, { on := 0, ground := Ground.phase }, { on := 1, ground := Ground.phase }, { on := 2, ground := Ground.phase }, { on := 3, ground := Ground.phase }, { on := 4, ground := Ground.phase }, { on := 5, ground := Ground.phase }, { on := 6, ground := Ground.phase }, { on := 7, ground := Ground.phase }, { on := 8, ground := Ground.phase }, { on := 9, ground := Ground.phase }], guard := none }) rfl (fun K hK => ?_) AllReadyH.nil
        go_simp
        refine hK.out _ _ ?_ (fun hHeld => ?_)
        · exact K0.out.cells1.1
        clear hK K
        (try simp only [Act.put])
        (try simp only [List.setIfInBounds_toArray])
        (try simp only [List.set_cons_succ])
        (try simp only [List.set_cons_zero])
        refine wpAnyH_done (by kernel_rfl) ?_ _
        go_wp2
        go_meet
        case rel => exact ⟨bn, rfl, N.out, R0.out, BB.out⟩
      refine AllReadyH.cons (o := { dst := some 3, op := Op.alloc 70, type := 0, pos := "history.go:38", after := #[], guard := none }) rfl (fun K hK => ?_) AllReadyH.nil
      go_simp
      have hlt_bn := BB.out.size
      have hlt_bn_K0 := K0.out.lt
      have hlt_bn_R0 := R0.out.lt
      have K0' := Lib.hid (K0.out.below (below_new v1 (.cells #[.int .i64 0, .int .u32 0, .int .u32 0, .int .i64 0, .map none] 70)))
      have R0' := Lib.hid (R0.out.below (below_new v1 (.cells #[.int .i64 0, .int .u32 0, .int .u32 0, .int .i64 0, .map none] 70)))
      have BB' := Lib.hid (BB.out.trans ((below_new v1 (.cells #[.int .i64 0, .int .u32 0, .int .u32 0, .int .i64 0, .map none] 70)).mono BB.out.size))
      clear K0
      have K0 := K0'
      clear K0'
      clear R0
      have R0 := R0'
      clear R0'
      clear BB
      have BB := BB'
      clear BB'
      have N := Lib.hid (Box.new v1 #[.int .i64 0, .int .u32 0, .int .u32 0, .int .i64 0, .map none] 70 rfl)
      generalize World.alloc v1 (.cells #[.int .i64 0, .int .u32 0, .int .u32 0, .int .i64 0, .map none] 70) = v5 at *
      generalize World.heap v1 = hp_bn at *
      generalize hp_bn.size = bn at *
      refine hK.out _ _ ?_ (fun hHeld => ?_)
      · exact K0.out.cells1.1
      clear hK K
      (try simp only [Act.put])
      (try simp only [List.setIfInBounds_toArray])
      (try simp only [List.set_cons_succ])
      (try simp only [List.set_cons_zero])
      refine wpAnyH_ready (rs := [4]) (by kernel_rfl) (by simp) ?_
      refine AllReadyH.cons (o := { dst := some 10, op := Op.call { callee := Callee.value (Operand.func 22), args := #[Operand.tmp 6, Operand.tmp 9], argTypes := #[65, 3] }, type := 71, pos := "history.go:38", after := #[{ on := 0, ground := Ground.data }, { on := 3, ground := Ground.data }, { on := 2, ground := Ground.chain }], guard := none }) rfl (fun K hK => ?_) AllReadyH.nil
      go_simp
      go_at_call 22
      (try rw [IntWalk.i64_in (-1) (by omega)])
      refine (hat_out _ [] (-1) _ (HW.nil _) (by simp)).mono ?_
      rintro e v6 ⟨rfl, hb⟩
      have K0' := Lib.hid (K0.out.below (hb))
      have R0' := Lib.hid (R0.out.below (hb))
      have N' := Lib.hid (N.out.below (hb))
      have BB' := Lib.hid (BB.out.trans ((hb).mono BB.out.size))
      clear K0
      have K0 := K0'
      clear K0'
      clear R0
      have R0 := R0'
      clear R0'
      clear N
      have N := N'
      clear N'
      clear BB
      have BB := BB'
      clear BB'
      clear hb
      go_simp
      refine hK.out _ _ ?_ (fun hHeld => ?_)
      · exact K0.out.cells1.1
      clear hK K
      (try simp only [Act.put])
      (try simp only [List.setIfInBounds_toArray])
      (try simp only [List.set_cons_succ])
      (try simp only [List.set_cons_zero])
      refine wpAnyH_take (i := 5) (oi := { dst := some 5, op := Op.move (Operand.tmp 10), type := 71, pos := "history.go:38", after := #[{ on := 4, ground := Ground.data }], guard := none }) (v := ?d7_7xv5) rfl (by kernel_rfl) (by kernel_rfl) (by kernel_rfl) (fun _ _ _ h => h) (Or.inl ⟨by rfl, ?d7_7xy5⟩) (by assumption) ?d7_7xr5
      case d7_7xy5 => (intro w hSw; (try dsimp only at hSw); go_simp; try with_reducible rfl)
      (try simp only [Act.put])
      (try simp only [List.setIfInBounds_toArray])
      (try simp only [List.set_cons_succ])
      (try simp only [List.set_cons_zero])
      refine wpAnyH_take (i := 6) (oi := { dst := some 11, op := Op.extract (Operand.tmp 5) 0, type := 70, pos := "history.go:38", after := #[{ on := 5, ground := Ground.data }], guard := none }) (v := ?d7_8xv6) rfl (by kernel_rfl) (by kernel_rfl) (by kernel_rfl) (fun _ _ _ h => h) (Or.inl ⟨by rfl, ?d7_8xy6⟩) (by assumption) ?d7_8xr6
      case d7_8xy6 => (intro w hSw; (try dsimp only at hSw); go_simp; try with_reducible rfl)
      (try simp only [Act.put])
      (try simp only [List.setIfInBounds_toArray])
      (try simp only [List.set_cons_succ])
      (try simp only [List.set_cons_zero])
      refine wpAnyH_take (i := 7) (oi := { dst := some 12, op := Op.extract (Operand.tmp 5) 1, type := 4, pos := "history.go:38", after := #[{ on := 5, ground := Ground.data }, { on := 9, ground := Ground.gcOnly Departure.lateStores }], guard := none }) (v := ?d7_9xv7) rfl (by kernel_rfl) (by kernel_rfl) (by kernel_rfl) (fun _ _ _ h => h) (Or.inl ⟨by rfl, ?d7_9xy7⟩) (by assumption) ?d7_9xr7
      case d7_9xy7 => (intro w hSw; (try dsimp only at hSw); go_simp; try with_reducible rfl)
      (try simp only [Act.put])
      (try simp only [List.setIfInBounds_toArray])
      (try simp only [List.set_cons_succ])
      (try simp only [List.set_cons_zero])
      refine wpAnyH_ready (rs := [9]) (by kernel_rfl) (by simp) ?_
      refine AllReadyH.cons (o := { dst := none, op := Op.store 70 (Operand.tmp 3) (Operand.tmp 11), type := 0, pos := "history.go:38", after := #[{ on := 8, ground := Ground.data }, { on := 6, ground := Ground.data }, { on := 4, ground := Ground.chain }, { on := 0, ground := Ground.phase }, { on := 1, ground := Ground.phase }, { on := 2, ground := Ground.phase }, { on := 3, ground := Ground.phase }, { on := 4, ground := Ground.phase }, { on := 5, ground := Ground.phase }, { on := 6, ground := Ground.phase }, { on := 7, ground := Ground.textOnly Departure.lateStores }, { on := 8, ground := Ground.phase }], guard := none }) rfl (fun K hK => ?_) AllReadyH.nil
      obtain ⟨⟨m0, m1, m2, m3, m4⟩, g0, g1, g2, g3, g4⟩ := N.out.cells5
      go_simp
      clear m0 g0 m1 g1 m2 g2 m3 g3 m4 g4
      have K0' := Lib.hid (K0.out.only (by omega) ((((((Only.refl bn v6).set 0 (.int .i64 0)).set 1 (.int .u32 0)).set 2 (.int .u32 0)).set 3 (.int .i64 0)).set 4 (.map none)))
      have R0' := Lib.hid (R0.out.only (by omega) ((((((Only.refl bn v6).set 0 (.int .i64 0)).set 1 (.int .u32 0)).set 2 (.int .u32 0)).set 3 (.int .i64 0)).set 4 (.map none)))
      have N' := Lib.hid ((((((N.out).set 0 (.int .i64 0)).set 1 (.int .u32 0)).set 2 (.int .u32 0)).set 3 (.int .i64 0)).set 4 (.map none))
      have BB' := Lib.hid ((((((BB.out).put bn (by omega) 0 (.int .i64 0)).put bn (by omega) 1 (.int .u32 0)).put bn (by omega) 2 (.int .u32 0)).put bn (by omega) 3 (.int .i64 0)).put bn (by omega) 4 (.map none))
      clear K0
      have K0 := K0'
      clear K0'
      clear R0
      have R0 := R0'
      clear R0'
      clear N
      have N := N'
      clear N'
      clear BB
      have BB := BB'
      clear BB'
      generalize (World.setCell (World.setCell (World.setCell (World.setCell (World.setCell v6 ⟨bn, 0, none⟩ (.int .i64 0)) ⟨bn, 1, none⟩ (.int .u32 0)) ⟨bn, 2, none⟩ (.int .u32 0)) ⟨bn, 3, none⟩ (.int .i64 0)) ⟨bn, 4, none⟩ (.map none)) = v7 at *
      refine hK.out _ _ ?_ (fun hHeld => ?_)
      · exact K0.out.cells1.1
      clear hK K
      (try simp only [Act.put])
      (try simp only [List.setIfInBounds_toArray])
      (try simp only [List.set_cons_succ])
      (try simp only [List.set_cons_zero])
      refine wpAnyH_ready (rs := [10]) (by kernel_rfl) (by simp) ?_
      refine AllReadyH.cons (o := { dst := some 4, op := Op.assign (Operand.tmp 12), type := 4, pos := "history.go:38", after := #[{ on := 7, ground := Ground.data }, { on := 9, ground := Ground.chain }, { on := 0, ground := Ground.phase }, { on := 1, ground := Ground.phase }, { on := 2, ground := Ground.phase }, { on := 3, ground := Ground.phase }, { on := 4, ground := Ground.phase }, { on := 5, ground := Ground.phase }, { on := 6, ground := Ground.phase }, { on := 7, ground := Ground.phase }, { on := 8, ground := Ground.phase }, { on := 9, ground := Ground.phase }], guard := none }) rfl (fun K hK => ?_) AllReadyH.nil
      go_simp
      refine hK.out _ _ ?_ (fun hHeld => ?_)
      · exact K0.out.cells1.1
      clear hK K
      (try simp only [Act.put])
      (try simp only [List.setIfInBounds_toArray])
      (try simp only [List.set_cons_succ])
      (try simp only [List.set_cons_zero])
      refine wpAnyH_done (by kernel_rfl) ?_ _
      go_wp2
      go_meet
      case rel => exact ⟨bn, rfl, N.out, R0.out, BB.out⟩
    refine AllReadyH.cons (o := { dst := some 3, op := Op.alloc 70, type := 0, pos := "history.go:38", after := #[], guard := none }) rfl (fun K hK => ?_) AllReadyH.nil
    go_simp
    have hlt_bn := BB.out.size
    have hlt_bn_K0 := K0.out.lt
    have hlt_bn_R0 := R0.out.lt
    have K0' := Lib.hid (K0.out.below (below_new V0 (.cells #[.int .i64 0, .int .u32 0, .int .u32 0, .int .i64 0, .map none] 70)))
    have R0' := Lib.hid (R0.out.below (below_new V0 (.cells #[.int .i64 0, .int .u32 0, .int .u32 0, .int .i64 0, .map none] 70)))
    have BB' := Lib.hid (BB.out.trans ((below_new V0 (.cells #[.int .i64 0, .int .u32 0, .int .u32 0, .int .i64 0, .map none] 70)).mono BB.out.size))
    clear K0
    have K0 := K0'
    clear K0'
    clear R0
    have R0 := R0'
    clear R0'
    clear BB
    have BB := BB'
    clear BB'
    have N := Lib.hid (Box.new V0 #[.int .i64 0, .int .u32 0, .int .u32 0, .int .i64 0, .map none] 70 rfl)
    generalize World.alloc V0 (.cells #[.int .i64 0, .int .u32 0, .int .u32 0, .int .i64 0, .map none] 70) = v8 at *
    generalize World.heap V0 = hp_bn at *
    generalize hp_bn.size = bn at *
    refine hK.out _ _ ?_ (fun hHeld => ?_)
    · exact K0.out.cells1.1
    clear hK K
    (try simp only [Act.put])
    (try simp only [List.setIfInBounds_toArray])
    (try simp only [List.set_cons_succ])
    (try simp only [List.set_cons_zero])
    refine wpAnyH_ready (rs := [2]) (by kernel_rfl) (by simp) ?_
    refine AllReadyH.cons (o := { dst := some 8, op := Op.call { callee := Callee.value (Operand.func 21), args := #[Operand.tmp 7], argTypes := #[65] }, type := 3, pos := "history.go:38", after := #[{ on := 1, ground := Ground.data }], guard := none }) rfl (fun K hK => ?_) AllReadyH.nil
    go_simp
    go_at_call 21
    refine (len_b _ [] 0 rfl _ (HW.nil _)).mono ?_
    rintro e v9 ⟨rfl, hb⟩
    have K0' := Lib.hid (K0.out.below (hb))
    have R0' := Lib.hid (R0.out.below (hb))
    have N' := Lib.hid (N.out.below (hb))
    have BB' := Lib.hid (BB.out.trans ((hb).mono BB.out.size))
    clear K0
    have K0 := K0'
    clear K0'
    clear R0
    have R0 := R0'
    clear R0'
    clear N
    have N := N'
    clear N'
    clear BB
    have BB := BB'
    clear BB'
    clear hb
    go_simp
    refine hK.out _ _ ?_ (fun hHeld => ?_)
    · exact K0.out.cells1.1
    clear hK K
    (try simp only [Act.put])
    (try simp only [List.setIfInBounds_toArray])
    (try simp only [List.set_cons_succ])
    (try simp only [List.set_cons_zero])
    refine wpAnyH_take (i := 3) (oi := { dst := some 9, op := Op.binOp BinOp.sub 3 (Operand.tmp 8) (Operand.const (Value.int IntKind.i64 1)) 3, type := 3, pos := "history.go:38", after := #[{ on := 2, ground := Ground.data }], guard := none }) (v := ?d10_10xv3) rfl (by kernel_rfl) (by kernel_rfl) (by kernel_rfl) (fun _ _ _ h => h) (Or.inl ⟨by rfl, ?d10_10xy3⟩) (by assumption) ?d10_10xr3
    case d10_10xy3 => (intro w hSw; (try dsimp only at hSw); go_simp; try with_reducible rfl)
    (try simp only [Act.put])
    (try simp only [List.setIfInBounds_toArray])
    (try simp only [List.set_cons_succ])
    (try simp only [List.set_cons_zero])
    refine wpAnyH_ready (rs := [4]) (by kernel_rfl) (by simp) ?_
    refine AllReadyH.cons (o := { dst := some 10, op := Op.call { callee := Callee.value (Operand.func 22), args := #[Operand.tmp 6, Operand.tmp 9], argTypes := #[65, 3] }, type := 71, pos := "history.go:38", after := #[{ on := 0, ground := Ground.data }, { on := 3, ground := Ground.data }, { on := 2, ground := Ground.chain }], guard := none }) rfl (fun K hK => ?_) AllReadyH.nil
    go_simp
    go_at_call 22
    (try rw [IntWalk.i64_in (-1) (by omega)])
    refine (hat_out _ [] (-1) _ (HW.nil _) (by simp)).mono ?_
    rintro e v10 ⟨rfl, hb⟩
    have K0' := Lib.hid (K0.out.below (hb))
    have R0' := Lib.hid (R0.out.below (hb))
    have N' := Lib.hid (N.out.below (hb))
    have BB' := Lib.hid (BB.out.trans ((hb).mono BB.out.size))
    clear K0
    have K0 := K0'
    clear K0'
    clear R0
    have R0 := R0'
    clear R0'
    clear N
    have N := N'
    clear N'
    clear BB
    have BB := BB'
    clear BB'
    clear hb
    go_simp
    refine hK.out _ _ ?_ (fun hHeld => ?_)
    · exact K0.out.cells1.1
    clear hK K
    (try simp only [Act.put])
    (try simp only [List.setIfInBounds_toArray])
    (try simp only [List.set_cons_succ])
    (try simp only [List.set_cons_zero])
    refine wpAnyH_take (i := 5) (oi := { dst := some 5, op := Op.move (Operand.tmp 10), type := 71, pos := "history.go:38", after := #[{ on := 4, ground := Ground.data }], guard := none }) (v := ?d11_11xv5) rfl (by kernel_rfl) (by kernel_rfl) (by kernel_rfl) (fun _ _ _ h => h) (Or.inl ⟨by rfl, ?d11_11xy5⟩) (by assumption) ?d11_11xr5
    case d11_11xy5 => (intro w hSw; (try dsimp only at hSw); go_simp; try with_reducible rfl)
    (try simp only [Act.put])
    (try simp only [List.setIfInBounds_toArray])
    (try simp only [List.set_cons_succ])
    (try simp only [List.set_cons_zero])
    refine wpAnyH_take (i := 6) (oi := { dst := some 11, op := Op.extract (Operand.tmp 5) 0, type := 70, pos := "history.go:38", after := #[{ on := 5, ground := Ground.data }], guard := none }) (v := ?d11_12xv6) rfl (by kernel_rfl) (by kernel_rfl) (by kernel_rfl) (fun _ _ _ h => h) (Or.inl ⟨by rfl, ?d11_12xy6⟩) (by assumption) ?d11_12xr6
    case d11_12xy6 => (intro w hSw; (try dsimp only at hSw); go_simp; try with_reducible rfl)
    (try simp only [Act.put])
    (try simp only [List.setIfInBounds_toArray])
    (try simp only [List.set_cons_succ])
    (try simp only [List.set_cons_zero])
    refine wpAnyH_take (i := 7) (oi := { dst := some 12, op := Op.extract (Operand.tmp 5) 1, type := 4, pos := "history.go:38", after := #[{ on := 5, ground := Ground.data }, { on := 9, ground := Ground.gcOnly Departure.lateStores }], guard := none }) (v := ?d11_13xv7) rfl (by kernel_rfl) (by kernel_rfl) (by kernel_rfl) (fun _ _ _ h => h) (Or.inl ⟨by rfl, ?d11_13xy7⟩) (by assumption) ?d11_13xr7
    case d11_13xy7 => (intro w hSw; (try dsimp only at hSw); go_simp; try with_reducible rfl)
    (try simp only [Act.put])
    (try simp only [List.setIfInBounds_toArray])
    (try simp only [List.set_cons_succ])
    (try simp only [List.set_cons_zero])
    refine wpAnyH_ready (rs := [9]) (by kernel_rfl) (by simp) ?_
    refine AllReadyH.cons (o := { dst := none, op := Op.store 70 (Operand.tmp 3) (Operand.tmp 11), type := 0, pos := "history.go:38", after := #[{ on := 8, ground := Ground.data }, { on := 6, ground := Ground.data }, { on := 4, ground := Ground.chain }, { on := 0, ground := Ground.phase }, { on := 1, ground := Ground.phase }, { on := 2, ground := Ground.phase }, { on := 3, ground := Ground.phase }, { on := 4, ground := Ground.phase }, { on := 5, ground := Ground.phase }, { on := 6, ground := Ground.phase }, { on := 7, ground := Ground.textOnly Departure.lateStores }, { on := 8, ground := Ground.phase }], guard := none }) rfl (fun K hK => ?_) AllReadyH.nil
    obtain ⟨⟨m0, m1, m2, m3, m4⟩, g0, g1, g2, g3, g4⟩ := N.out.cells5
    go_simp
    clear m0 g0 m1 g1 m2 g2 m3 g3 m4 g4
    have K0' := Lib.hid (K0.out.only (by omega) ((((((Only.refl bn v10).set 0 (.int .i64 0)).set 1 (.int .u32 0)).set 2 (.int .u32 0)).set 3 (.int .i64 0)).set 4 (.map none)))
    have R0' := Lib.hid (R0.out.only (by omega) ((((((Only.refl bn v10).set 0 (.int .i64 0)).set 1 (.int .u32 0)).set 2 (.int .u32 0)).set 3 (.int .i64 0)).set 4 (.map none)))
    have N' := Lib.hid ((((((N.out).set 0 (.int .i64 0)).set 1 (.int .u32 0)).set 2 (.int .u32 0)).set 3 (.int .i64 0)).set 4 (.map none))
    have BB' := Lib.hid ((((((BB.out).put bn (by omega) 0 (.int .i64 0)).put bn (by omega) 1 (.int .u32 0)).put bn (by omega) 2 (.int .u32 0)).put bn (by omega) 3 (.int .i64 0)).put bn (by omega) 4 (.map none))
    clear K0
    have K0 := K0'
    clear K0'
    clear R0
    have R0 := R0'
    clear R0'
    clear N
    have N := N'
    clear N'
    clear BB
    have BB := BB'
    clear BB'
    generalize (World.setCell (World.setCell (World.setCell (World.setCell (World.setCell v10 ⟨bn, 0, none⟩ (.int .i64 0)) ⟨bn, 1, none⟩ (.int .u32 0)) ⟨bn, 2, none⟩ (.int .u32 0)) ⟨bn, 3, none⟩ (.int .i64 0)) ⟨bn, 4, none⟩ (.map none)) = v11 at *
    refine hK.out _ _ ?_ (fun hHeld => ?_)
    · exact K0.out.cells1.1
    clear hK K
    (try simp only [Act.put])
    (try simp only [List.setIfInBounds_toArray])
    (try simp only [List.set_cons_succ])
    (try simp only [List.set_cons_zero])
    refine wpAnyH_ready (rs := [10]) (by kernel_rfl) (by simp) ?_
    refine AllReadyH.cons (o := { dst := some 4, op := Op.assign (Operand.tmp 12), type := 4, pos := "history.go:38", after := #[{ on := 7, ground := Ground.data }, { on := 9, ground := Ground.chain }, { on := 0, ground := Ground.phase }, { on := 1, ground := Ground.phase }, { on := 2, ground := Ground.phase }, { on := 3, ground := Ground.phase }, { on := 4, ground := Ground.phase }, { on := 5, ground := Ground.phase }, { on := 6, ground := Ground.phase }, { on := 7, ground := Ground.phase }, { on := 8, ground := Ground.phase }, { on := 9, ground := Ground.phase }], guard := none }) rfl (fun K hK => ?_) AllReadyH.nil
    go_simp
    refine hK.out _ _ ?_ (fun hHeld => ?_)
    · exact K0.out.cells1.1
    clear hK K
    (try simp only [Act.put])
    (try simp only [List.setIfInBounds_toArray])
    (try simp only [List.set_cons_succ])
    (try simp only [List.set_cons_zero])
    refine wpAnyH_done (by kernel_rfl) ?_ _
    go_wp2
    go_meet
    case rel => exact ⟨bn, rfl, N.out, R0.out, BB.out⟩
  case rest =>
    obtain ⟨bn, rfl, hN, hR, hB⟩ := hcut
    obtain ⟨⟨m0, m1, m2, m3, m4⟩, g0, g1, g2, g3, g4⟩ := hN.cells5
    obtain ⟨⟨p0, p1, p2, p3, p4⟩, q0, q1, q2, q3, q4⟩ := hR.cells5
    have BB2 := Lib.hid hB
    have RR := Lib.hid hR
    clear hN hR hB K0 R0 BB
    go_wp2
    obtain ⟨⟨m0, m1, m2, m3, m4⟩, g0, g1, g2, g3, g4⟩ := (((((RR.out.set 0 (.int .i64 0)).set 1 (.int .u32 0)).set 2 (.int .u32 0)).set 3 (.int .i64 0)).set 4 (.map none)).cells5
    refine bodyPost_ret (v := .agg #[.int .i64 0, .int .u32 0, .int .u32 0, .int .i64 0, .map none]) (by simp [results, Try.results42, go_sem, m0, m1, m2, m3, m4]) rfl ?_
    exact ⟨rfl, ((((BB2.out.put br (by omega) _ _).put br (by omega) _ _).put br (by omega) _ _).put br (by omega) _ _).put br (by omega) _ _⟩
end Go.Proofs.Ytbaljoehgdhhhaa
