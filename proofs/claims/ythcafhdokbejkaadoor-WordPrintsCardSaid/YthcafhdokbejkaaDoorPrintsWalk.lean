/- Statement WordPrints: the walk through the law for every input. -/
import Derived.Test.YthcafhdokbejkaaDoorRefYes
import Derived.Test.YthcafhdokbejkaaDoorEq
import Derived.Test.YthcafhdokbejkaaDoorOpen
import Derived.Deep.RegionHeld3
namespace Go.Proofs.YthcafhdokbejkaaDoor.wordPrints
open Go.ChangeShapes Go.WideShapes Go.ChangeAt Go.RowKit
set_option linter.unusedVariables false
/-- The three words' boxes, the table and the library's errors are there. -/
structure In (w : World) (b : Nat) (v n r : Int) (W : World) : Prop where
  x : HasW W b v n r
  t : Tab W
  s : Sen W
  g : Below b w W
theorem In.below {w W W' : World} {b : Nat} {v n r : Int} (h : In w b v n r W) (hb : Below W.heap.size W W') : In w b v n r W' :=
  ⟨h.x.below hb, h.t.below hb, h.s.below hb, h.g.trans (hb.mono (Nat.le_of_lt h.x.2))⟩
theorem In.new {w : World} (v n r : Int) (ht : Tab w) (hs : Sen w) : In w w.heap.size v n r (w.alloc (.cells #[.int .i64 v, .int .u32 n, .int .u32 r] 33)) :=
  have b := (Below.refl _ _).alloc (Nat.le_refl _) (a := w) (.cells #[.int .i64 v, .int .u32 n, .int .u32 r] 33)
  ⟨HasW.new w v n r, ht.below b, hs.below b, b⟩
theorem In.big {w W : World} {b : Nat} {v n r : Int} (h : In w b v n r W) : 3 ≤ W.heap.size := h.s.1
structure Three (w : World) (b bx bz : Nat) (v n r v' n' r' : Int) (W : World) : Prop where
  i : In w b v n r W
  x : HasW W bx v' n' r'
  z : HasW W bz v' n' r'
theorem Three.below {w W W' : World} {b bx bz : Nat} {v n r v' n' r' : Int} (h : Three w b bx bz v n r v' n' r' W) (hb : Below W.heap.size W W') : Three w b bx bz v n r v' n' r' W' :=
  ⟨h.i.below hb, h.x.below hb, h.z.below hb⟩
theorem Three.drew {w W : World} {b bx bz : Nat} {v n r v' n' r' : Int} (h : Three w b bx bz v n r v' n' r' W) : Three w b bx bz v n r v' n' r' W.drew := h.below (Below.refl _ _).drew
theorem err_ne_ok (a b c : Int) : ¬ (Ending.returned (.tuple #[.agg #[.int .i64 0, .int .u32 0, .int .u32 0], .int .i64 5]) = .returned (.tuple #[.agg #[.int .i64 a, .int .u32 b, .int .u32 c], .int .i64 0])) := by
  simp

set_option maxRecDepth 100000 in
set_option maxHeartbeats 3200000 in
theorem w_ok (v n r v' n' r' : Int) (l : List UInt8) (w : World) (hs : l.length ≤ 300) (v0 : -9223372036854775808 ≤ v) (v1 : v ≤ 9223372036854775807) (n0 : 0 ≤ n) (n1 : n < 4294967296) (r0 : 0 ≤ r) (r1 : r < 4294967296)
    (hp : ∀ W, 3 ≤ W.heap.size → Sen W → Tab W → Calls Tryd.prog 17 #[.string ⟨l.toArray⟩] W fun e W' => e = .returned (.tuple #[.agg #[.int .i64 v', .int .u32 n', .int .u32 r'], .int .i64 0]) ∧ Below W.heap.size W W')
    (hq : ∀ W, Calls Tryd.prog 18 #[.string ⟨l.toArray⟩] W fun e W' => e = .returned (.tuple #[.agg #[.int .i64 v', .int .u32 n', .int .u32 r'], .bool true]) ∧ Below W.heap.size W W')
    (ht : Tab w) (hw : Sen w) :
    Calls Tryd.prog 6 #[.agg #[.int .i64 v, .int .u32 n, .int .u32 r], .string ⟨l.toArray⟩] w fun e w' => e = .returned (.bool true) ∧ Below w.heap.size w w' := by
  have I := Lib.hid (In.new v n r ht hw)
  have HP := Lib.hid hp
  have HQ := Lib.hid hq
  have gW := guardW
  have qE := eqlW
  clear ht hw hp hq
  go_enter Tryd.func6, Tryd.ntmps6
  go_wp2_with fail
  generalize w.alloc (.cells #[.int .i64 v, .int .u32 n, .int .u32 r] 33) = W0 at *
  obtain ⟨b, hb0⟩ : ∃ b, w.heap.size = b := ⟨_, rfl⟩
  rw [hb0] at I ⊢
  refine (HP.out _ I.out.big I.out.s I.out.t).mono ?_
  rintro e W1 ⟨rfl, hb⟩
  replace I := Lib.hid ((I.out.below hb).below ((Below.refl _ _).alloc (Nat.le_refl _) (a := W1) (.cells #[.int .i64 v', .int .u32 n', .int .u32 r'] 33)))
  have X := Lib.hid (HasW.new W1 v' n' r')
  clear hb
  go_wp2_with fail
  generalize W1.alloc (.cells #[.int .i64 v', .int .u32 n', .int .u32 r'] 33) = W2 at *
  generalize W1.heap.size = bx at *
  refine (HQ.out _).mono ?_
  rintro e W3 ⟨rfl, hb⟩
  have b4 := hb.trans ((((Below.refl _ _).alloc (Nat.le_refl _) (a := W3) (.cells #[.int .i64 v', .int .u32 n', .int .u32 r'] 33))).mono hb.size)
  replace I := Lib.hid (I.out.below b4)
  replace X := Lib.hid (X.out.below b4)
  have Z := Lib.hid (HasW.new W3 v' n' r')
  clear hb b4
  go_wp2_with fail
  generalize W3.alloc (.cells #[.int .i64 v', .int .u32 n', .int .u32 r'] 33) = W4 at *
  generalize W3.heap.size = bz at *
  have i0 : Three w b bx bz v n r v' n' r' W4 := ⟨I.out, X.out, Z.out⟩
  have T := Lib.hid i0
  clear I X Z HP HQ i0
  replace T := Lib.hid (T.out.below ((Below.refl _ _).drew))
  refine wp_region_held_drew (S := fun w' => w'.cell? ⟨b, 0, none⟩ = some (.int .i64 v) ∧ w'.cell? ⟨b, 1, none⟩ = some (.int .u32 n) ∧ w'.cell? ⟨b, 2, none⟩ = some (.int .u32 r) ∧ w'.cell? ⟨bx, 0, none⟩ = some (.int .i64 v') ∧ w'.cell? ⟨bx, 1, none⟩ = some (.int .u32 n') ∧ w'.cell? ⟨bx, 2, none⟩ = some (.int .u32 r') ∧ w'.cell? ⟨bz, 0, none⟩ = some (.int .i64 v') ∧ w'.cell? ⟨bz, 1, none⟩ = some (.int .u32 n') ∧ w'.cell? ⟨bz, 2, none⟩ = some (.int .u32 r')) (by kernel_rfl) ⟨T.out.i.x.1.1, T.out.i.x.1.2.1, T.out.i.x.1.2.2, T.out.x.1.1, T.out.x.1.2.1, T.out.x.1.2.2, T.out.z.1.1, T.out.z.1.2.1, T.out.z.1.2.2⟩ (fun hHeld => ?_)
  generalize World.drew W4 = V50 at *
  refine wpAnyH_take (i := 0) (oi := { dst := some 23, op := Op.load 33 (Operand.tmp 2), type := 33, pos := "law.go:103", after := #[], guard := none }) (v := ?d51_1xv0) rfl (by kernel_rfl) (by kernel_rfl) (by kernel_rfl) (fun _ _ _ h => h) (Or.inl ⟨by rfl, ?d51_1xy0⟩) (by assumption) ?d51_1xr0
  case d51_1xy0 => (intro w hSw; (try dsimp only at hSw); go_simp; try with_reducible rfl)
  (try simp only [Act.put])
  (try simp only [List.setIfInBounds_toArray])
  (try simp only [List.set_cons_succ])
  (try simp only [List.set_cons_zero])
  refine wpAnyH_take (i := 2) (oi := { dst := some 25, op := Op.load 33 (Operand.tmp 2), type := 33, pos := "law.go:103", after := #[], guard := none }) (v := ?d51_2xv2) rfl (by kernel_rfl) (by kernel_rfl) (by kernel_rfl) (fun _ _ _ h => h) (Or.inl ⟨by rfl, ?d51_2xy2⟩) (by assumption) ?d51_2xr2
  case d51_2xy2 => (intro w hSw; (try dsimp only at hSw); go_simp; try with_reducible rfl)
  (try simp only [Act.put])
  (try simp only [List.setIfInBounds_toArray])
  (try simp only [List.set_cons_succ])
  (try simp only [List.set_cons_zero])
  refine wpAnyH_ready (rs := [1]) (by kernel_rfl) (by simp) ?_
  refine AllReadyH.cons (o := { dst := some 24, op := Op.call { callee := Callee.value (Operand.func 19), args := #[Operand.tmp 23], argTypes := #[33] }, type := 9, pos := "law.go:103", after := #[{ on := 0, ground := Ground.data }], guard := none }) rfl (fun K hK => ?_) AllReadyH.nil
  go_simp
  go_at_call 19
  refine (text_any _ _ _ _ v0 v1 n0 n1 r0 r1 T.out.i.t).mono ?_
  rintro e v51 ⟨rfl, hb⟩
  replace T := Lib.hid (T.out.below (hb))
  clear hb
  go_simp
  refine hK.out _ _ ?_ (fun hHeld => ?_)
  · exact ⟨T.out.i.x.1.1, T.out.i.x.1.2.1, T.out.i.x.1.2.2, T.out.x.1.1, T.out.x.1.2.1, T.out.x.1.2.2, T.out.z.1.1, T.out.z.1.2.1, T.out.z.1.2.2⟩
  clear hK K
  (try simp only [Act.put])
  (try simp only [List.setIfInBounds_toArray])
  (try simp only [List.set_cons_succ])
  (try simp only [List.set_cons_zero])
  refine wpAnyH_ready (rs := [3]) (by kernel_rfl) (by simp) ?_
  refine AllReadyH.cons (o := { dst := some 26, op := Op.call { callee := Callee.value (Operand.func 20), args := #[Operand.tmp 25], argTypes := #[33] }, type := 9, pos := "law.go:103", after := #[{ on := 2, ground := Ground.data }, { on := 1, ground := Ground.chain }], guard := none }) rfl (fun K hK => ?_) AllReadyH.nil
  go_simp
  go_at_call 20
  refine (rtext_any _ _ _ _ v0 v1 n0 n1 r0 r1).mono ?_
  rintro e v52 ⟨rfl, hb⟩
  replace T := Lib.hid (T.out.below (hb))
  clear hb
  go_simp
  refine hK.out _ _ ?_ (fun hHeld => ?_)
  · exact ⟨T.out.i.x.1.1, T.out.i.x.1.2.1, T.out.i.x.1.2.2, T.out.x.1.1, T.out.x.1.2.1, T.out.x.1.2.2, T.out.z.1.1, T.out.z.1.2.1, T.out.z.1.2.2⟩
  clear hK K
  (try simp only [Act.put])
  (try simp only [List.setIfInBounds_toArray])
  (try simp only [List.set_cons_succ])
  (try simp only [List.set_cons_zero])
  refine wpAnyH_take (i := 4) (oi := { dst := some 27, op := Op.binOp BinOp.eql 9 (Operand.tmp 24) (Operand.tmp 26) 9, type := 4, pos := "law.go:103", after := #[{ on := 1, ground := Ground.data }, { on := 3, ground := Ground.data }], guard := none }) (v := ?d53_3xv4) rfl (by kernel_rfl) (by kernel_rfl) (by kernel_rfl) (fun _ _ _ h => h) (Or.inl ⟨by rfl, ?d53_3xy4⟩) (by assumption) ?d53_3xr4
  case d53_3xy4 => (intro w hSw; (try dsimp only at hSw); go_simp; try with_reducible rfl)
  (try simp only [Act.put])
  (try simp only [List.setIfInBounds_toArray])
  (try simp only [List.set_cons_succ])
  (try simp only [List.set_cons_zero])
  refine wpAnyH_take (i := 5) (oi := { dst := some 28, op := Op.move (Operand.tmp 27), type := 4, pos := "law.go:103", after := #[{ on := 4, ground := Ground.data }, { on := 3, ground := Ground.chain }], guard := none }) (v := ?d53_4xv5) rfl (by kernel_rfl) (by kernel_rfl) (by kernel_rfl) (fun _ _ _ h => h) (Or.inl ⟨by rfl, ?d53_4xy5⟩) (by assumption) ?d53_4xr5
  case d53_4xy5 => (intro w hSw; (try dsimp only at hSw); go_simp; try with_reducible rfl)
  (try simp only [Act.put])
  (try simp only [List.setIfInBounds_toArray])
  (try simp only [List.set_cons_succ])
  (try simp only [List.set_cons_zero])
  refine wpAnyH_take (i := 6) (oi := { dst := some 29, op := Op.load 33 (Operand.tmp 5), type := 33, pos := "law.go:103", after := #[{ on := 5, ground := Ground.guard }], guard := some (5, true) }) (v := ?d53_5xv6) rfl (by kernel_rfl) (by kernel_rfl) (by kernel_rfl) (fun _ _ _ h => h) (Or.inl ⟨by rfl, ?d53_5xy6⟩) (by assumption) ?d53_5xr6
  case d53_5xy6 => (intro w hSw; (try dsimp only at hSw); go_simp; try with_reducible rfl)
  (try simp only [Act.put])
  (try simp only [List.setIfInBounds_toArray])
  (try simp only [List.set_cons_succ])
  (try simp only [List.set_cons_zero])
  refine wpAnyH_take (i := 7) (oi := { dst := some 30, op := Op.load 33 (Operand.tmp 7), type := 33, pos := "law.go:103", after := #[{ on := 5, ground := Ground.guard }], guard := some (5, true) }) (v := ?d53_6xv7) rfl (by kernel_rfl) (by kernel_rfl) (by kernel_rfl) (fun _ _ _ h => h) (Or.inl ⟨by rfl, ?d53_6xy7⟩) (by assumption) ?d53_6xr7
  case d53_6xy7 => (intro w hSw; (try dsimp only at hSw); go_simp; try with_reducible rfl)
  (try simp only [Act.put])
  (try simp only [List.setIfInBounds_toArray])
  (try simp only [List.set_cons_succ])
  (try simp only [List.set_cons_zero])
  refine wpAnyH_take (i := 8) (oi := { dst := some 31, op := Op.binOp BinOp.eql 33 (Operand.tmp 29) (Operand.tmp 30) 33, type := 4, pos := "law.go:103", after := #[{ on := 6, ground := Ground.data }, { on := 7, ground := Ground.data }, { on := 5, ground := Ground.guard }], guard := some (5, true) }) (v := ?d53_7xv8) rfl (by kernel_rfl) (by kernel_rfl) (by kernel_rfl) (fun _ _ _ h => h) (Or.inl ⟨by rfl, ?d53_7xy8⟩) (by assumption) ?d53_7xr8
  case d53_7xy8 => (intro w hSw; (try dsimp only at hSw); go_simp; try with_reducible rfl)
  (try simp only [Act.put])
  (try simp only [List.setIfInBounds_toArray])
  (try simp only [List.set_cons_succ])
  (try simp only [List.set_cons_zero])
  refine wpAnyH_take (i := 9) (oi := { dst := some 32, op := Op.pick (Operand.tmp 28) (Operand.tmp 31) (Operand.const (Value.bool false)), type := 4, pos := "law.go:103", after := #[{ on := 5, ground := Ground.data }, { on := 8, ground := Ground.data }], guard := none }) (v := ?d53_8xv9) rfl (by kernel_rfl) (by kernel_rfl) (by kernel_rfl) (fun _ _ _ h => h) (Or.inl ⟨by rfl, ?d53_8xy9⟩) (by assumption) ?d53_8xr9
  case d53_8xy9 => (intro w hSw; (try dsimp only at hSw); go_simp; try with_reducible rfl)
  (try simp only [Act.put])
  (try simp only [List.setIfInBounds_toArray])
  (try simp only [List.set_cons_succ])
  (try simp only [List.set_cons_zero])
  refine wpAnyH_take (i := 10) (oi := { dst := some 33, op := Op.move (Operand.tmp 32), type := 4, pos := "law.go:103", after := #[{ on := 9, ground := Ground.data }, { on := 5, ground := Ground.chain }], guard := none }) (v := ?d53_9xv10) rfl (by kernel_rfl) (by kernel_rfl) (by kernel_rfl) (fun _ _ _ h => h) (Or.inl ⟨by rfl, ?d53_9xy10⟩) (by assumption) ?d53_9xr10
  case d53_9xy10 => (intro w hSw; (try dsimp only at hSw); go_simp; try with_reducible rfl)
  (try simp only [Act.put])
  (try simp only [List.setIfInBounds_toArray])
  (try simp only [List.set_cons_succ])
  (try simp only [List.set_cons_zero])
  refine wpAnyH_take (i := 11) (oi := { dst := some 34, op := Op.move (Operand.tmp 6), type := 23, pos := "law.go:103", after := #[{ on := 10, ground := Ground.guard }], guard := some (10, true) }) (v := ?d53_10xv11) rfl (by kernel_rfl) (by kernel_rfl) (by kernel_rfl) (fun _ _ _ h => h) (Or.inl ⟨by rfl, ?d53_10xy11⟩) (by assumption) ?d53_10xr11
  case d53_10xy11 => (intro w hSw; (try dsimp only at hSw); go_simp; try with_reducible rfl)
  (try simp only [Act.put])
  (try simp only [List.setIfInBounds_toArray])
  (try simp only [List.set_cons_succ])
  (try simp only [List.set_cons_zero])
  refine wpAnyH_take (i := 12) (oi := { dst := some 35, op := Op.binOp BinOp.eql 23 (Operand.tmp 34) (Operand.const (Value.int IntKind.i64 0)) 23, type := 4, pos := "law.go:103", after := #[{ on := 11, ground := Ground.data }, { on := 10, ground := Ground.guard }], guard := some (10, true) }) (v := ?d53_11xv12) rfl (by kernel_rfl) (by kernel_rfl) (by kernel_rfl) (fun _ _ _ h => h) (Or.inl ⟨by rfl, ?d53_11xy12⟩) (by assumption) ?d53_11xr12
  case d53_11xy12 => (intro w hSw; (try dsimp only at hSw); go_simp; try with_reducible rfl)
  (try simp only [Act.put])
  (try simp only [List.setIfInBounds_toArray])
  (try simp only [List.set_cons_succ])
  (try simp only [List.set_cons_zero])
  refine wpAnyH_take (i := 13) (oi := { dst := some 36, op := Op.move (Operand.tmp 8), type := 4, pos := "law.go:103", after := #[{ on := 10, ground := Ground.guard }], guard := some (10, true) }) (v := ?d53_12xv13) rfl (by kernel_rfl) (by kernel_rfl) (by kernel_rfl) (fun _ _ _ h => h) (Or.inl ⟨by rfl, ?d53_12xy13⟩) (by assumption) ?d53_12xr13
  case d53_12xy13 => (intro w hSw; (try dsimp only at hSw); go_simp; try with_reducible rfl)
  (try simp only [Act.put])
  (try simp only [List.setIfInBounds_toArray])
  (try simp only [List.set_cons_succ])
  (try simp only [List.set_cons_zero])
  refine wpAnyH_take (i := 14) (oi := { dst := some 37, op := Op.binOp BinOp.eql 4 (Operand.tmp 35) (Operand.tmp 36) 4, type := 4, pos := "law.go:103", after := #[{ on := 12, ground := Ground.data }, { on := 13, ground := Ground.data }, { on := 10, ground := Ground.guard }], guard := some (10, true) }) (v := ?d53_13xv14) rfl (by kernel_rfl) (by kernel_rfl) (by kernel_rfl) (fun _ _ _ h => h) (Or.inl ⟨by rfl, ?d53_13xy14⟩) (by assumption) ?d53_13xr14
  case d53_13xy14 => (intro w hSw; (try dsimp only at hSw); go_simp; try with_reducible rfl)
  (try simp only [Act.put])
  (try simp only [List.setIfInBounds_toArray])
  (try simp only [List.set_cons_succ])
  (try simp only [List.set_cons_zero])
  refine wpAnyH_take (i := 15) (oi := { dst := some 38, op := Op.pick (Operand.tmp 33) (Operand.tmp 37) (Operand.const (Value.bool false)), type := 4, pos := "law.go:103", after := #[{ on := 10, ground := Ground.data }, { on := 14, ground := Ground.data }], guard := none }) (v := ?d53_14xv15) rfl (by kernel_rfl) (by kernel_rfl) (by kernel_rfl) (fun _ _ _ h => h) (Or.inl ⟨by rfl, ?d53_14xy15⟩) (by assumption) ?d53_14xr15
  case d53_14xy15 => (intro w hSw; (try dsimp only at hSw); go_simp; try with_reducible rfl)
  (try simp only [Act.put])
  (try simp only [List.setIfInBounds_toArray])
  (try simp only [List.set_cons_succ])
  (try simp only [List.set_cons_zero])
  refine wpAnyH_take (i := 16) (oi := { dst := some 39, op := Op.move (Operand.tmp 38), type := 4, pos := "law.go:103", after := #[{ on := 15, ground := Ground.data }, { on := 10, ground := Ground.chain }], guard := none }) (v := ?d53_15xv16) rfl (by kernel_rfl) (by kernel_rfl) (by kernel_rfl) (fun _ _ _ h => h) (Or.inl ⟨by rfl, ?d53_15xy16⟩) (by assumption) ?d53_15xr16
  case d53_15xy16 => (intro w hSw; (try dsimp only at hSw); go_simp; try with_reducible rfl)
  (try simp only [Act.put])
  (try simp only [List.setIfInBounds_toArray])
  (try simp only [List.set_cons_succ])
  (try simp only [List.set_cons_zero])
  refine wpAnyH_take (i := 17) (oi := { dst := some 40, op := Op.move (Operand.tmp 8), type := 4, pos := "law.go:103", after := #[{ on := 16, ground := Ground.guard }], guard := some (16, true) }) (v := ?d53_16xv17) rfl (by kernel_rfl) (by kernel_rfl) (by kernel_rfl) (fun _ _ _ h => h) (Or.inl ⟨by rfl, ?d53_16xy17⟩) (by assumption) ?d53_16xr17
  case d53_16xy17 => (intro w hSw; (try dsimp only at hSw); go_simp; try with_reducible rfl)
  (try simp only [Act.put])
  (try simp only [List.setIfInBounds_toArray])
  (try simp only [List.set_cons_succ])
  (try simp only [List.set_cons_zero])
  refine wpAnyH_take (i := 18) (oi := { dst := some 41, op := Op.move (Operand.tmp 40), type := 4, pos := "law.go:103", after := #[{ on := 17, ground := Ground.data }, { on := 16, ground := Ground.chain }, { on := 16, ground := Ground.guard }], guard := some (16, true) }) (v := ?d53_17xv18) rfl (by kernel_rfl) (by kernel_rfl) (by kernel_rfl) (fun _ _ _ h => h) (Or.inl ⟨by rfl, ?d53_17xy18⟩) (by assumption) ?d53_17xr18
  case d53_17xy18 => (intro w hSw; (try dsimp only at hSw); go_simp; try with_reducible rfl)
  (try simp only [Act.put])
  (try simp only [List.setIfInBounds_toArray])
  (try simp only [List.set_cons_succ])
  (try simp only [List.set_cons_zero])
  refine wpAnyH_take (i := 19) (oi := { dst := some 42, op := Op.move (Operand.tmp 6), type := 23, pos := "law.go:103", after := #[{ on := 18, ground := Ground.guard }], guard := some (18, false) }) (v := undef) rfl (by kernel_rfl) (by kernel_rfl) (by kernel_rfl) (fun _ _ _ h => h) (Or.inr ⟨by kernel_rfl, rfl⟩) (by assumption) ?d53_18xr19
  (try simp only [Act.put])
  (try simp only [List.setIfInBounds_toArray])
  (try simp only [List.set_cons_succ])
  (try simp only [List.set_cons_zero])
  refine wpAnyH_take (i := 20) (oi := { dst := some 43, op := Op.binOp BinOp.eql 23 (Operand.tmp 42) (Operand.const (Value.int IntKind.i64 5)) 23, type := 4, pos := "law.go:103", after := #[{ on := 19, ground := Ground.data }, { on := 18, ground := Ground.guard }], guard := some (18, false) }) (v := undef) rfl (by kernel_rfl) (by kernel_rfl) (by kernel_rfl) (fun _ _ _ h => h) (Or.inr ⟨by kernel_rfl, rfl⟩) (by assumption) ?d53_19xr20
  (try simp only [Act.put])
  (try simp only [List.setIfInBounds_toArray])
  (try simp only [List.set_cons_succ])
  (try simp only [List.set_cons_zero])
  refine wpAnyH_take (i := 21) (oi := { dst := some 44, op := Op.pick (Operand.tmp 41) (Operand.const (Value.bool true)) (Operand.tmp 43), type := 4, pos := "law.go:103", after := #[{ on := 18, ground := Ground.data }, { on := 20, ground := Ground.data }, { on := 16, ground := Ground.guard }], guard := some (16, true) }) (v := ?d53_20xv21) rfl (by kernel_rfl) (by kernel_rfl) (by kernel_rfl) (fun _ _ _ h => h) (Or.inl ⟨by rfl, ?d53_20xy21⟩) (by assumption) ?d53_20xr21
  case d53_20xy21 => (intro w hSw; (try dsimp only at hSw); go_simp; try with_reducible rfl)
  (try simp only [Act.put])
  (try simp only [List.setIfInBounds_toArray])
  (try simp only [List.set_cons_succ])
  (try simp only [List.set_cons_zero])
  refine wpAnyH_take (i := 22) (oi := { dst := some 45, op := Op.pick (Operand.tmp 39) (Operand.tmp 44) (Operand.const (Value.bool false)), type := 4, pos := "law.go:103", after := #[{ on := 16, ground := Ground.data }, { on := 21, ground := Ground.data }], guard := none }) (v := ?d53_21xv22) rfl (by kernel_rfl) (by kernel_rfl) (by kernel_rfl) (fun _ _ _ h => h) (Or.inl ⟨by rfl, ?d53_21xy22⟩) (by assumption) ?d53_21xr22
  case d53_21xy22 => (intro w hSw; (try dsimp only at hSw); go_simp; try with_reducible rfl)
  (try simp only [Act.put])
  (try simp only [List.setIfInBounds_toArray])
  (try simp only [List.set_cons_succ])
  (try simp only [List.set_cons_zero])
  refine wpAnyH_take (i := 23) (oi := { dst := some 46, op := Op.move (Operand.tmp 45), type := 4, pos := "law.go:103", after := #[{ on := 22, ground := Ground.data }, { on := 18, ground := Ground.chain }], guard := none }) (v := ?d53_22xv23) rfl (by kernel_rfl) (by kernel_rfl) (by kernel_rfl) (fun _ _ _ h => h) (Or.inl ⟨by rfl, ?d53_22xy23⟩) (by assumption) ?d53_22xr23
  case d53_22xy23 => (intro w hSw; (try dsimp only at hSw); go_simp; try with_reducible rfl)
  (try simp only [Act.put])
  (try simp only [List.setIfInBounds_toArray])
  (try simp only [List.set_cons_succ])
  (try simp only [List.set_cons_zero])
  refine wpAnyH_ready (rs := [24]) (by kernel_rfl) (by simp) ?_
  refine AllReadyH.cons (o := { dst := some 47, op := Op.call { callee := Callee.value (Operand.func 13), args := #[], argTypes := #[] }, type := 4, pos := "law.go:103", after := #[{ on := 23, ground := Ground.chain }, { on := 23, ground := Ground.guard }], guard := some (23, true) }) rfl (fun K hK => ?_) AllReadyH.nil
  go_simp
  go_at_call 13
  refine (awake_any _).mono ?_
  rintro e v53 ⟨rfl, hb⟩
  replace T := Lib.hid (T.out.below (hb))
  clear hb
  go_simp
  refine hK.out _ _ ?_ (fun hHeld => ?_)
  · exact ⟨T.out.i.x.1.1, T.out.i.x.1.2.1, T.out.i.x.1.2.2, T.out.x.1.1, T.out.x.1.2.1, T.out.x.1.2.2, T.out.z.1.1, T.out.z.1.2.1, T.out.z.1.2.2⟩
  clear hK K
  (try simp only [Act.put])
  (try simp only [List.setIfInBounds_toArray])
  (try simp only [List.set_cons_succ])
  (try simp only [List.set_cons_zero])
  refine wpAnyH_take (i := 25) (oi := { dst := some 48, op := Op.pick (Operand.tmp 46) (Operand.tmp 47) (Operand.const (Value.bool false)), type := 4, pos := "law.go:103", after := #[{ on := 23, ground := Ground.data }, { on := 24, ground := Ground.data }], guard := none }) (v := ?d54_23xv25) rfl (by kernel_rfl) (by kernel_rfl) (by kernel_rfl) (fun _ _ _ h => h) (Or.inl ⟨by rfl, ?d54_23xy25⟩) (by assumption) ?d54_23xr25
  case d54_23xy25 => (intro w hSw; (try dsimp only at hSw); go_simp; try with_reducible rfl)
  (try simp only [Act.put])
  (try simp only [List.setIfInBounds_toArray])
  (try simp only [List.set_cons_succ])
  (try simp only [List.set_cons_zero])
  refine wpAnyH_ready (rs := [26]) (by kernel_rfl) (by simp) ?_
  refine AllReadyH.cons (o := { dst := some 4, op := Op.assign (Operand.tmp 48), type := 4, pos := "law.go:103", after := #[{ on := 25, ground := Ground.data }, { on := 24, ground := Ground.chain }, { on := 0, ground := Ground.phase }, { on := 1, ground := Ground.phase }, { on := 2, ground := Ground.phase }, { on := 3, ground := Ground.phase }, { on := 4, ground := Ground.phase }, { on := 5, ground := Ground.phase }, { on := 6, ground := Ground.phase }, { on := 7, ground := Ground.phase }, { on := 8, ground := Ground.phase }, { on := 9, ground := Ground.phase }, { on := 10, ground := Ground.phase }, { on := 11, ground := Ground.phase }, { on := 12, ground := Ground.phase }, { on := 13, ground := Ground.phase }, { on := 14, ground := Ground.phase }, { on := 15, ground := Ground.phase }, { on := 16, ground := Ground.phase }, { on := 17, ground := Ground.phase }, { on := 18, ground := Ground.phase }, { on := 19, ground := Ground.phase }, { on := 20, ground := Ground.phase }, { on := 21, ground := Ground.phase }, { on := 22, ground := Ground.phase }, { on := 23, ground := Ground.phase }, { on := 24, ground := Ground.phase }, { on := 25, ground := Ground.phase }], guard := none }) rfl (fun K hK => ?_) AllReadyH.nil
  go_simp
  refine hK.out _ _ ?_ (fun hHeld => ?_)
  · exact ⟨T.out.i.x.1.1, T.out.i.x.1.2.1, T.out.i.x.1.2.2, T.out.x.1.1, T.out.x.1.2.1, T.out.x.1.2.2, T.out.z.1.1, T.out.z.1.2.1, T.out.z.1.2.2⟩
  clear hK K
  (try simp only [Act.put])
  (try simp only [List.setIfInBounds_toArray])
  (try simp only [List.set_cons_succ])
  (try simp only [List.set_cons_zero])
  refine wpAnyH_done (by kernel_rfl) ?_ _
  go_wp2
  go_ret
  exact ⟨rfl, hb0 ▸ T.out.i.g⟩

set_option maxRecDepth 100000 in
set_option maxHeartbeats 3200000 in
theorem w_no (v n r : Int) (l : List UInt8) (w : World) (hs : l.length ≤ 300) (v0 : -9223372036854775808 ≤ v) (v1 : v ≤ 9223372036854775807) (n0 : 0 ≤ n) (n1 : n < 4294967296) (r0 : 0 ≤ r) (r1 : r < 4294967296)
    (hp : ∀ W, 3 ≤ W.heap.size → Sen W → Tab W → Calls Tryd.prog 17 #[.string ⟨l.toArray⟩] W fun e W' => e = .returned (.tuple #[.agg #[.int .i64 0, .int .u32 0, .int .u32 0], .int .i64 5]) ∧ Below W.heap.size W W')
    (hq : ∀ W, Calls Tryd.prog 18 #[.string ⟨l.toArray⟩] W fun e W' => e = .returned (.tuple #[.agg #[.int .i64 0, .int .u32 0, .int .u32 0], .bool false]) ∧ Below W.heap.size W W')
    (ht : Tab w) (hw : Sen w) :
    Calls Tryd.prog 6 #[.agg #[.int .i64 v, .int .u32 n, .int .u32 r], .string ⟨l.toArray⟩] w fun e w' => e = .returned (.bool true) ∧ Below w.heap.size w w' := by
  have I := Lib.hid (In.new v n r ht hw)
  have HP := Lib.hid hp
  have HQ := Lib.hid hq
  have gW := guardW
  have qE := eqlW
  clear ht hw hp hq
  go_enter Tryd.func6, Tryd.ntmps6
  go_wp2_with fail
  generalize w.alloc (.cells #[.int .i64 v, .int .u32 n, .int .u32 r] 33) = W0 at *
  obtain ⟨b, hb0⟩ : ∃ b, w.heap.size = b := ⟨_, rfl⟩
  rw [hb0] at I ⊢
  refine (HP.out _ I.out.big I.out.s I.out.t).mono ?_
  rintro e W1 ⟨rfl, hb⟩
  replace I := Lib.hid ((I.out.below hb).below ((Below.refl _ _).alloc (Nat.le_refl _) (a := W1) (.cells #[.int .i64 0, .int .u32 0, .int .u32 0] 33)))
  have X := Lib.hid (HasW.new W1 0 0 0)
  clear hb
  go_wp2_with fail
  generalize W1.alloc (.cells #[.int .i64 0, .int .u32 0, .int .u32 0] 33) = W2 at *
  generalize W1.heap.size = bx at *
  refine (HQ.out _).mono ?_
  rintro e W3 ⟨rfl, hb⟩
  have b4 := hb.trans ((((Below.refl _ _).alloc (Nat.le_refl _) (a := W3) (.cells #[.int .i64 0, .int .u32 0, .int .u32 0] 33))).mono hb.size)
  replace I := Lib.hid (I.out.below b4)
  replace X := Lib.hid (X.out.below b4)
  have Z := Lib.hid (HasW.new W3 0 0 0)
  clear hb b4
  go_wp2_with fail
  generalize W3.alloc (.cells #[.int .i64 0, .int .u32 0, .int .u32 0] 33) = W4 at *
  generalize W3.heap.size = bz at *
  have i0 : Three w b bx bz v n r 0 0 0 W4 := ⟨I.out, X.out, Z.out⟩
  have i1 := i0.drew
  clear I X Z HP HQ
  go_region_held3 (fun w' => (w'.cell? ⟨b, 0, none⟩ = some (.int .i64 v) ∧ w'.cell? ⟨b, 1, none⟩ = some (.int .u32 n) ∧ w'.cell? ⟨b, 2, none⟩ = some (.int .u32 r)) ∧ (w'.cell? ⟨bx, 0, none⟩ = some (.int .i64 0) ∧ w'.cell? ⟨bx, 1, none⟩ = some (.int .u32 0) ∧ w'.cell? ⟨bx, 2, none⟩ = some (.int .u32 0)) ∧ (w'.cell? ⟨bz, 0, none⟩ = some (.int .i64 0) ∧ w'.cell? ⟨bz, 1, none⟩ = some (.int .u32 0) ∧ w'.cell? ⟨bz, 2, none⟩ = some (.int .u32 0)))
    (first | exact ⟨i1.i.x.1, i1.x.1, i1.z.1⟩ | exact ⟨i0.i.x.1, i0.x.1, i0.z.1⟩)
    (first
      | (go_at_call 19; (with_reducible refine (text_any _ _ _ _ v0 v1 n0 n1 r0 r1 i1.i.t).mono ?_); rintro e w5 ⟨rfl, hb5⟩; have i2 := i1.below hb5; clear hb5 i1; have i1 := i2; clear i2)
      | (go_at_call 20; (with_reducible refine (rtext_any _ _ _ _ v0 v1 n0 n1 r0 r1).mono ?_); rintro e w5 ⟨rfl, hb5⟩; have i2 := i1.below hb5; clear hb5 i1; have i1 := i2; clear i2)
      | (go_at_call 13; (with_reducible refine (awake_any _).mono ?_); rintro e w5 ⟨rfl, hb5⟩; have i2 := i1.below hb5; clear hb5 i1; have i1 := i2; clear i2))
  go_wp2
  go_ret
  exact ⟨rfl, hb0 ▸ i1.i.g⟩

theorem w_long (v n r : Int) (s : ByteArray) (w : World) (hs : 300 < s.size) (hs2 : s.size ≤ 9223372036854775807) :
    Calls Tryd.prog 6 #[.agg #[.int .i64 v, .int .u32 n, .int .u32 r], .string s] w fun e w' => e = .returned (.bool true) ∧ Below w.heap.size w w' := by
  go_enter Tryd.func6, Tryd.ntmps6
  go_wp2_with fail
  refine (awake_any _).mono ?_
  rintro e w' ⟨rfl, hb⟩
  have B := Lib.hid (((Below.refl _ _).alloc (Nat.le_refl _) _).trans (hb.mono (by simp)))
  clear hb
  go_wp2
  go_ret
  exact ⟨rfl, B.out⟩

theorem walk (v n r : Int) (s : ByteArray) (w : World) (v0 : -9223372036854775808 ≤ v) (v1 : v ≤ 9223372036854775807) (n0 : 0 ≤ n) (n1 : n < 4294967296) (r0 : 0 ≤ r) (r1 : r < 4294967296) (hs : s.size ≤ 9223372036854775807) (ht : Tab w) (hw : Sen w) :
    Calls Tryd.prog 6 #[.agg #[.int .i64 v, .int .u32 n, .int .u32 r], .string s] w fun e w' => e = .returned (.bool true) ∧ Below w.heap.size w w' := by
  by_cases hl : 300 < s.size
  · exact w_long v n r s w hl hs
  · obtain ⟨l, hll⟩ : ∃ l, s.data.toList = l := ⟨_, rfl⟩
    obtain rfl : s = ⟨l.toArray⟩ := by rw [← hll]
    have hl3 : l.length ≤ 300 := by simpa [ByteArray.size] using hl
    clear hll
    by_cases hx : ∃ v' n' r', (-9223372036854775808 ≤ v' ∧ v' ≤ 9223372036854775807) ∧ (0 ≤ n' ∧ n' < 4294967296) ∧ (r' = 0 ∨ Good r') ∧ textOf v' n' r' = l
    · obtain ⟨v', n', r', hv', hn', hr', rfl⟩ := hx
      refine w_ok v n r v' n' r' _ w hl3 v0 v1 n0 n1 r0 r1 (fun W h3 hS hT => ?_) (fun W => ?_) ht hw
      · refine (parse_any _ W (by omega) h3 hS hT).mono ?_
        rintro e W' ⟨hp, hb⟩
        exact ⟨parsed_text hv'.1 hv'.2 hn'.1 hn'.2 hr' hp, hb⟩
      · exact rparse_yes v' n' r' _ W (by simpa [ByteArray.size] using hl3) hv'.1 hv'.2 hn'.1 hn'.2 hr' (by simp)
    · refine w_no v n r l w hl3 v0 v1 n0 n1 r0 r1 (fun W h3 hS hT => ?_) (fun W => ?_) ht hw
      · refine (parse_any _ W (by omega) h3 hS hT).mono ?_
        rintro e W' ⟨hp, hb⟩
        refine ⟨?_, hb⟩
        rcases hp with ⟨v', n', r', rfl, hv', hn', hr', hst, htx⟩ | ⟨h, -⟩
        · exfalso
          refine hx ⟨v', n', r', hv', hn', ?_, htx⟩
          by_cases hz : r' = 0
          · exact .inl hz
          · by_cases hg : Good r'
            · exact .inr hg
            · rw [← htx, text_bad' hz hg] at hst
              cases st1_nil hst
        · exact h
      · refine rparse_no _ W (by simpa [ByteArray.size] using hl3) (fun v' n' r' hv' hn' hr' htx => ?_)
        exact hx ⟨v', n', r', hv', hn', hr', by simpa using htx⟩
end Go.Proofs.YthcafhdokbejkaaDoor.wordPrints
