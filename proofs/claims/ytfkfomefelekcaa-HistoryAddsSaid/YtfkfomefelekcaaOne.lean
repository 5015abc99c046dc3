/- One of the statements on histories: a description of a message; make and is. -/
import Derived.Test.YtfkfomefelekcaaHistRead
import Derived.Test.YtfkfomefelekcaaViewSame
import Derived.Test.YtfkfomefelekcaaChoose
import Derived.Laws.StructEq
namespace Go.Proofs.Ytfkfomefelekcaa
open Go.RowKit Go.Shelf Go.Maps

structure One where
  val : Int
  ver : Int
  ref : Int
  thr : Int
  at_ : Int
  known : Int

def oneV (o : One) : Value := .agg #[.int .i64 o.val, .int .u32 o.ver, .int .u32 o.ref, .int .i64 o.thr, .int .u8 o.at_, .int .u8 o.known]
def One.view (o : One) : List (Int × Int) := withL [] o.at_ o.known
def One.msg (o : One) : Msg := ⟨o.val, o.ver, o.ref, o.thr, o.view⟩
def One.Ok (o : One) : Prop := (-9223372036854775808 ≤ o.val ∧ o.val < 9223372036854775808) ∧ (0 ≤ o.ver ∧ o.ver < 4294967296) ∧ (0 ≤ o.ref ∧ o.ref < 4294967296) ∧ (-9223372036854775808 ≤ o.thr ∧ o.thr < 9223372036854775808) ∧ (0 ≤ o.at_ ∧ o.at_ < 256) ∧ (0 ≤ o.known ∧ o.known < 256)

theorem guardW : Try.prog.eqGuardType Try.prog.depth 24 = false := by kernel_rfl
theorem equalW (a b c a' b' c' : Int) (w : World) : (Op.equalIn 10000 24 (.agg #[.int .i64 a, .int .u32 b, .int .u32 c]) (.agg #[.int .i64 a', .int .u32 b', .int .u32 c'])).run Try.prog w = .ok (a == a' && (b == b' && c == c')) w := by
  have u2 := Try.underlying2
  have u22 := Try.underlying22
  have a2 := Try.isAgg2
  have a22 := Try.isAgg22
  have z2 := Try.sizeOf2
  have z22 := Try.sizeOf22
  have hS : Try.prog.underlying 24 = some (.struct (Try.prog.fieldsOf 24)) := by kernel_rfl
  have hp : Try.prog.stoodInHeld 24 = false := by kernel_rfl
  rw [show (10000 : Nat) = 9999 + 1 from rfl, run_equalIn_agg w 9999 24 _ _ hS hp]
  simp only [Program.fieldsOf, Try.underlying24]
  go_simp
  by_cases h1 : a = a' <;> by_cases h2 : b = b' <;> by_cases h3 : c = c' <;> simp [h1, h2, h3]
theorem eqlW (a b c a' b' c' : Int) (w : World) : (binOp .eql 24 (.agg #[.int .i64 a, .int .u32 b, .int .u32 c]) (.agg #[.int .i64 a', .int .u32 b', .int .u32 c'])).run Try.prog w = .ok (.bool (a == a' && (b == b' && c == c'))) w := by
  rw [run_eql_struct, equalW]; rfl
theorem neqW (a b c a' b' c' : Int) (w : World) : (binOp .neq 24 (.agg #[.int .i64 a, .int .u32 b, .int .u32 c]) (.agg #[.int .i64 a', .int .u32 b', .int .u32 c'])).run Try.prog w = .ok (.bool (!(a == a' && (b == b' && c == c')))) w := by
  rw [run_neq_struct, equalW]; rfl
theorem fieldV (a b c d e : Value) (w : World) : (Instr.field 38 (.agg #[a, b, c, d, e]) 2).run Try.prog w = .ok (.agg #[e]) w := by
  have u := Try.underlying38
  have z := Try.sizeOf36
  have i := Try.isAgg36
  simp [Instr.field, run_underlying u, asAgg, part, z, i]

set_option maxRecDepth 100000 in
set_option maxHeartbeats 1600000 in
theorem make_any (o : One) (w : World) (ho : o.Ok) :
    Calls Try.prog 11 #[oneV o] w fun e w' => ∃ p, e = .returned (msgV (o.msg, p)) ∧ VW w' p o.view ∧ Below w.heap.size w w' := by
  obtain ⟨ov, ove, ore, oth, oat, okn⟩ := ho
  have K0 := Lib.hid (Box.alloc (Box.new w #[.int .i64 o.val, .int .u32 o.ver, .int .u32 o.ref, .int .i64 o.thr, .int .u8 o.at_, .int .u8 o.known] 32 rfl) (.cells #[.int .i64 0, .int .u32 0, .int .u32 0, .int .i64 0, .map none] 38))
  have R0 := Lib.hid (Box.new (w.alloc (.cells #[.int .i64 o.val, .int .u32 o.ver, .int .u32 o.ref, .int .i64 o.thr, .int .u8 o.at_, .int .u8 o.known] 32)) #[.int .i64 0, .int .u32 0, .int .u32 0, .int .i64 0, .map none] 38 (n := w.heap.size + 1) (by simp))
  have BB := Lib.hid (b2 w (.cells #[.int .i64 o.val, .int .u32 o.ver, .int .u32 o.ref, .int .i64 o.thr, .int .u8 o.at_, .int .u8 o.known] 32) (.cells #[.int .i64 0, .int .u32 0, .int .u32 0, .int .i64 0, .map none] 38))
  unfold oneV
  go_enter Try.func11, Try.ntmps11
  go_wp2_with fail
  generalize (w.alloc (.cells #[.int .i64 o.val, .int .u32 o.ver, .int .u32 o.ref, .int .i64 o.thr, .int .u8 o.at_, .int .u8 o.known] 32)).alloc (.cells #[.int .i64 0, .int .u32 0, .int .u32 0, .int .i64 0, .map none] 38) = W0 at *
  obtain ⟨br, hbr⟩ : ∃ br, w.heap.size + 1 = br := ⟨_, rfl⟩
  obtain ⟨bp, hbp⟩ : ∃ bp, w.heap.size = bp := ⟨_, rfl⟩
  rw [hbr] at R0 ⊢
  have hbq := hbp
  rw [hbp] at K0 hbr ⊢
  have K0' := Lib.hid (K0.out.below ((Below.refl _ _).drew))
  have R0' := Lib.hid (R0.out.below ((Below.refl _ _).drew))
  have BB' := Lib.hid (BB.out.trans (((Below.refl _ _).drew).mono BB.out.size))
  clear K0
  have K0 := K0'
  clear K0'
  clear R0
  have R0 := R0'
  clear R0'
  clear BB
  have BB := BB'
  clear BB'
  refine wp_region_held_drew (S := fun w' => w'.cell? ⟨bp, 0, none⟩ = some (.int .i64 o.val) ∧ w'.cell? ⟨bp, 1, none⟩ = some (.int .u32 o.ver) ∧ w'.cell? ⟨bp, 2, none⟩ = some (.int .u32 o.ref) ∧ w'.cell? ⟨bp, 3, none⟩ = some (.int .i64 o.thr) ∧ w'.cell? ⟨bp, 4, none⟩ = some (.int .u8 o.at_) ∧ w'.cell? ⟨bp, 5, none⟩ = some (.int .u8 o.known)) (by kernel_rfl) ⟨K0.out.cell 0, K0.out.cell 1, K0.out.cell 2, K0.out.cell 3, K0.out.cell 4, K0.out.cell 5⟩ (fun hHeld => ?_)
  generalize World.drew W0 = V0 at *
  refine wpAnyH_take (i := 0) (oi := { dst := some 3, op := Op.fieldAddr 32 (Operand.tmp 1) 0, type := 0, pos := "law.go:21", after := #[], guard := none }) (v := ?d1_1xv0) rfl (by kernel_rfl) (by kernel_rfl) (by kernel_rfl) (fun _ _ _ h => h) (Or.inl ⟨by rfl, ?d1_1xy0⟩) (by assumption) ?d1_1xr0
  case d1_1xy0 => (intro w hSw; (try dsimp only at hSw); go_simp; try with_reducible rfl)
  (try simp only [Act.put])
  (try simp only [List.setIfInBounds_toArray])
  (try simp only [List.set_cons_succ])
  (try simp only [List.set_cons_zero])
  refine wpAnyH_take (i := 1) (oi := { dst := some 4, op := Op.load 24 (Operand.tmp 3), type := 24, pos := "law.go:21", after := #[{ on := 0, ground := Ground.data }], guard := none }) (v := ?d1_2xv1) rfl (by kernel_rfl) (by kernel_rfl) (by kernel_rfl) (fun _ _ _ h => h) (Or.inl ⟨by rfl, ?d1_2xy1⟩) (by assumption) ?d1_2xr1
  case d1_2xy1 => (intro w hSw; (try dsimp only at hSw); go_simp; try with_reducible rfl)
  (try simp only [Act.put])
  (try simp only [List.setIfInBounds_toArray])
  (try simp only [List.set_cons_succ])
  (try simp only [List.set_cons_zero])
  refine wpAnyH_take (i := 2) (oi := { dst := some 5, op := Op.fieldAddr 32 (Operand.tmp 1) 1, type := 0, pos := "law.go:21", after := #[], guard := none }) (v := ?d1_3xv2) rfl (by kernel_rfl) (by kernel_rfl) (by kernel_rfl) (fun _ _ _ h => h) (Or.inl ⟨by rfl, ?d1_3xy2⟩) (by assumption) ?d1_3xr2
  case d1_3xy2 => (intro w hSw; (try dsimp only at hSw); go_simp; try with_reducible rfl)
  (try simp only [Act.put])
  (try simp only [List.setIfInBounds_toArray])
  (try simp only [List.set_cons_succ])
  (try simp only [List.set_cons_zero])
  refine wpAnyH_take (i := 3) (oi := { dst := some 6, op := Op.load 3 (Operand.tmp 5), type := 3, pos := "law.go:21", after := #[{ on := 2, ground := Ground.data }], guard := none }) (v := ?d1_4xv3) rfl (by kernel_rfl) (by kernel_rfl) (by kernel_rfl) (fun _ _ _ h => h) (Or.inl ⟨by rfl, ?d1_4xy3⟩) (by assumption) ?d1_4xr3
  case d1_4xy3 => (intro w hSw; (try dsimp only at hSw); go_simp; try with_reducible rfl)
  (try simp only [Act.put])
  (try simp only [List.setIfInBounds_toArray])
  (try simp only [List.set_cons_succ])
  (try simp only [List.set_cons_zero])
  refine wpAnyH_take (i := 4) (oi := { dst := some 7, op := Op.build 36 #[], type := 36, pos := "law.go:21", after := #[], guard := none }) (v := ?d1_5xv4) rfl (by kernel_rfl) (by kernel_rfl) (by kernel_rfl) (fun _ _ _ h => h) (Or.inl ⟨by rfl, ?d1_5xy4⟩) (by assumption) ?d1_5xr4
  case d1_5xy4 => (intro w hSw; (try dsimp only at hSw); go_simp; try with_reducible rfl)
  (try simp only [Act.put])
  (try simp only [List.setIfInBounds_toArray])
  (try simp only [List.set_cons_succ])
  (try simp only [List.set_cons_zero])
  refine wpAnyH_take (i := 5) (oi := { dst := some 8, op := Op.fieldAddr 32 (Operand.tmp 1) 2, type := 0, pos := "law.go:21", after := #[], guard := none }) (v := ?d1_6xv5) rfl (by kernel_rfl) (by kernel_rfl) (by kernel_rfl) (fun _ _ _ h => h) (Or.inl ⟨by rfl, ?d1_6xy5⟩) (by assumption) ?d1_6xr5
  case d1_6xy5 => (intro w hSw; (try dsimp only at hSw); go_simp; try with_reducible rfl)
  (try simp only [Act.put])
  (try simp only [List.setIfInBounds_toArray])
  (try simp only [List.set_cons_succ])
  (try simp only [List.set_cons_zero])
  refine wpAnyH_take (i := 6) (oi := { dst := some 9, op := Op.load 5 (Operand.tmp 8), type := 5, pos := "law.go:21", after := #[{ on := 5, ground := Ground.data }], guard := none }) (v := ?d1_7xv6) rfl (by kernel_rfl) (by kernel_rfl) (by kernel_rfl) (fun _ _ _ h => h) (Or.inl ⟨by rfl, ?d1_7xy6⟩) (by assumption) ?d1_7xr6
  case d1_7xy6 => (intro w hSw; (try dsimp only at hSw); go_simp; try with_reducible rfl)
  (try simp only [Act.put])
  (try simp only [List.setIfInBounds_toArray])
  (try simp only [List.set_cons_succ])
  (try simp only [List.set_cons_zero])
  refine wpAnyH_take (i := 7) (oi := { dst := some 10, op := Op.convert 5 55 (Operand.tmp 9), type := 55, pos := "law.go:21", after := #[{ on := 6, ground := Ground.data }], guard := none }) (v := ?d1_8xv7) rfl (by kernel_rfl) (by kernel_rfl) (by kernel_rfl) (fun _ _ _ h => h) (Or.inl ⟨by rfl, ?d1_8xy7⟩) (by assumption) ?d1_8xr7
  case d1_8xy7 => (intro w hSw; (try dsimp only at hSw); go_simp; try with_reducible rfl)
  (try simp only [Act.put])
  (try simp only [List.setIfInBounds_toArray])
  (try simp only [List.set_cons_succ])
  (try simp only [List.set_cons_zero])
  refine wpAnyH_take (i := 8) (oi := { dst := some 11, op := Op.fieldAddr 32 (Operand.tmp 1) 3, type := 0, pos := "law.go:21", after := #[], guard := none }) (v := ?d1_9xv8) rfl (by kernel_rfl) (by kernel_rfl) (by kernel_rfl) (fun _ _ _ h => h) (Or.inl ⟨by rfl, ?d1_9xy8⟩) (by assumption) ?d1_9xr8
  case d1_9xy8 => (intro w hSw; (try dsimp only at hSw); go_simp; try with_reducible rfl)
  (try simp only [Act.put])
  (try simp only [List.setIfInBounds_toArray])
  (try simp only [List.set_cons_succ])
  (try simp only [List.set_cons_zero])
  refine wpAnyH_take (i := 9) (oi := { dst := some 12, op := Op.load 5 (Operand.tmp 11), type := 5, pos := "law.go:21", after := #[{ on := 8, ground := Ground.data }], guard := none }) (v := ?d1_10xv9) rfl (by kernel_rfl) (by kernel_rfl) (by kernel_rfl) (fun _ _ _ h => h) (Or.inl ⟨by rfl, ?d1_10xy9⟩) (by assumption) ?d1_10xr9
  case d1_10xy9 => (intro w hSw; (try dsimp only at hSw); go_simp; try with_reducible rfl)
  (try simp only [Act.put])
  (try simp only [List.setIfInBounds_toArray])
  (try simp only [List.set_cons_succ])
  (try simp only [List.set_cons_zero])
  refine wpAnyH_take (i := 10) (oi := { dst := some 13, op := Op.convert 5 3 (Operand.tmp 12), type := 3, pos := "law.go:21", after := #[{ on := 9, ground := Ground.data }], guard := none }) (v := ?d1_11xv10) rfl (by kernel_rfl) (by kernel_rfl) (by kernel_rfl) (fun _ _ _ h => h) (Or.inl ⟨by rfl, ?d1_11xy10⟩) (by assumption) ?d1_11xr10
  case d1_11xy10 => (intro w hSw; (try dsimp only at hSw); go_simp; try with_reducible rfl)
  (try simp only [Act.put])
  (try simp only [List.setIfInBounds_toArray])
  (try simp only [List.set_cons_succ])
  (try simp only [List.set_cons_zero])
  refine wpAnyH_ready (rs := [11]) (by kernel_rfl) (by simp) ?_
  refine AllReadyH.cons (o := { dst := some 14, op := Op.call { callee := Callee.value (Operand.func 21), args := #[Operand.tmp 7, Operand.tmp 10, Operand.tmp 13], argTypes := #[36, 55, 3] }, type := 36, pos := "law.go:21", after := #[{ on := 4, ground := Ground.data }, { on := 7, ground := Ground.data }, { on := 10, ground := Ground.data }], guard := none }) rfl (fun K hK => ?_) AllReadyH.nil
  go_simp
  go_at_call 21
  rw [IntWalk.i64_in o.at_ (by omega), IntWalk.i64_in o.known (by omega)]
  refine (with_any none [] o.at_ o.known _ (by omega) (by omega) (by omega) (by omega) (VW.nil _)).mono ?_
  rintro e v1 ⟨b1, hb1, rfl, hv, hb⟩
  have K0' := Lib.hid (K0.out.below (hb))
  have R0' := Lib.hid (R0.out.below (hb))
  have BB' := Lib.hid (BB.out.trans ((hb).mono BB.out.size))
  clear K0
  have K0 := K0'
  clear K0'
  clear R0
  have R0 := R0'
  clear R0'
  clear BB
  have BB := BB'
  clear BB'
  clear hb
  have P := Lib.hid (hv)
  clear hv
  go_simp
  refine hK.out _ _ ?_ (fun hHeld => ?_)
  · exact ⟨K0.out.cell 0, K0.out.cell 1, K0.out.cell 2, K0.out.cell 3, K0.out.cell 4, K0.out.cell 5⟩
  clear hK K
  (try simp only [Act.put])
  (try simp only [List.setIfInBounds_toArray])
  (try simp only [List.set_cons_succ])
  (try simp only [List.set_cons_zero])
  refine wpAnyH_take (i := 12) (oi := { dst := some 15, op := Op.build 38 #[(0, Operand.tmp 4), (1, Operand.tmp 6), (2, Operand.tmp 14)], type := 38, pos := "law.go:21", after := #[{ on := 1, ground := Ground.data }, { on := 3, ground := Ground.data }, { on := 11, ground := Ground.data }], guard := none }) (v := ?d2_12xv12) rfl (by kernel_rfl) (by kernel_rfl) (by kernel_rfl) (fun _ _ _ h => h) (Or.inl ⟨by rfl, ?d2_12xy12⟩) (by assumption) ?d2_12xr12
  case d2_12xy12 => (intro w hSw; (try dsimp only at hSw); go_simp; try with_reducible rfl)
  (try simp only [Act.put])
  (try simp only [List.setIfInBounds_toArray])
  (try simp only [List.set_cons_succ])
  (try simp only [List.set_cons_zero])
  refine wpAnyH_ready (rs := [13]) (by kernel_rfl) (by simp) ?_
  refine AllReadyH.cons (o := { dst := none, op := Op.store 38 (Operand.tmp 2) (Operand.tmp 15), type := 0, pos := "law.go:21", after := #[{ on := 12, ground := Ground.data }, { on := 11, ground := Ground.chain }, { on := 0, ground := Ground.phase }, { on := 1, ground := Ground.phase }, { on := 2, ground := Ground.phase }, { on := 3, ground := Ground.phase }, { on := 4, ground := Ground.phase }, { on := 5, ground := Ground.phase }, { on := 6, ground := Ground.phase }, { on := 7, ground := Ground.phase }, { on := 8, ground := Ground.phase }, { on := 9, ground := Ground.phase }, { on := 10, ground := Ground.phase }, { on := 11, ground := Ground.phase }, { on := 12, ground := Ground.phase }], guard := none }) rfl (fun K hK => ?_) AllReadyH.nil
  obtain ⟨⟨m0, m1, m2, m3, m4⟩, g0, g1, g2, g3, g4⟩ := R0.out.cells5
  go_simp
  clear m0 g0 m1 g1 m2 g2 m3 g3 m4 g4
  have K0' := Lib.hid (K0.out.only (by omega) ((((((Only.refl br v1).set 0 (.int .i64 o.val)).set 1 (.int .u32 o.ver)).set 2 (.int .u32 o.ref)).set 3 (.int .i64 o.thr)).set 4 (.map (some b1))))
  have R0' := Lib.hid ((((((R0.out).set 0 (.int .i64 o.val)).set 1 (.int .u32 o.ver)).set 2 (.int .u32 o.ref)).set 3 (.int .i64 o.thr)).set 4 (.map (some b1)))
  have P' := Lib.hid (P.out.only R0.out ((((((Only.refl br v1).set 0 (.int .i64 o.val)).set 1 (.int .u32 o.ver)).set 2 (.int .u32 o.ref)).set 3 (.int .i64 o.thr)).set 4 (.map (some b1))))
  have BB' := Lib.hid ((((((BB.out).put br (by omega) 0 (.int .i64 o.val)).put br (by omega) 1 (.int .u32 o.ver)).put br (by omega) 2 (.int .u32 o.ref)).put br (by omega) 3 (.int .i64 o.thr)).put br (by omega) 4 (.map (some b1)))
  clear K0
  have K0 := K0'
  clear K0'
  clear R0
  have R0 := R0'
  clear R0'
  clear P
  have P := P'
  clear P'
  clear BB
  have BB := BB'
  clear BB'
  generalize (World.setCell (World.setCell (World.setCell (World.setCell (World.setCell v1 ⟨br, 0, none⟩ (.int .i64 o.val)) ⟨br, 1, none⟩ (.int .u32 o.ver)) ⟨br, 2, none⟩ (.int .u32 o.ref)) ⟨br, 3, none⟩ (.int .i64 o.thr)) ⟨br, 4, none⟩ (.map (some b1))) = v2 at *
  refine hK.out _ _ ?_ (fun hHeld => ?_)
  · exact ⟨K0.out.cell 0, K0.out.cell 1, K0.out.cell 2, K0.out.cell 3, K0.out.cell 4, K0.out.cell 5⟩
  clear hK K
  (try simp only [Act.put])
  (try simp only [List.setIfInBounds_toArray])
  (try simp only [List.set_cons_succ])
  (try simp only [List.set_cons_zero])
  refine wpAnyH_done (by kernel_rfl) ?_ _
  have BB2 := BB.out
  obtain ⟨⟨m0, m1, m2, m3, m4⟩, -⟩ := R0.out.cells5
  go_wp2
  refine bodyPost_ret (v := msgV (o.msg, some b1)) (by simp [results, Try.results11, go_sem, m0, m1, m2, m3, m4, msgV, One.msg]) rfl ?_
  exact ⟨some b1, rfl, P.out, BB2⟩

set_option maxRecDepth 100000 in
set_option maxHeartbeats 1600000 in
theorem one_is (o : One) (p : Option Nat) (w : World) (ho : o.Ok) (hv : VW w p o.view) :
    Calls Try.prog 22 #[oneV o, msgV (o.msg, p)] w fun e w' => e = .returned (.bool true) ∧ Below w.heap.size w w' := by
  have OO := Lib.hid ho
  have K0 := Lib.hid (Box.alloc (Box.new w #[.int .i64 o.val, .int .u32 o.ver, .int .u32 o.ref, .int .i64 o.thr, .int .u8 o.at_, .int .u8 o.known] 32 rfl) (.cells #[.int .i64 o.val, .int .u32 o.ver, .int .u32 o.ref, .int .i64 o.thr, .map p] 38))
  have M0 := Lib.hid (Box.new (w.alloc (.cells #[.int .i64 o.val, .int .u32 o.ver, .int .u32 o.ref, .int .i64 o.thr, .int .u8 o.at_, .int .u8 o.known] 32)) #[.int .i64 o.val, .int .u32 o.ver, .int .u32 o.ref, .int .i64 o.thr, .map p] 38 (n := w.heap.size + 1) (by simp))
  have P := Lib.hid (hv.below (b2 w (.cells #[.int .i64 o.val, .int .u32 o.ver, .int .u32 o.ref, .int .i64 o.thr, .int .u8 o.at_, .int .u8 o.known] 32) (.cells #[.int .i64 o.val, .int .u32 o.ver, .int .u32 o.ref, .int .i64 o.thr, .map p] 38)))
  have BB := Lib.hid (b2 w (.cells #[.int .i64 o.val, .int .u32 o.ver, .int .u32 o.ref, .int .i64 o.thr, .int .u8 o.at_, .int .u8 o.known] 32) (.cells #[.int .i64 o.val, .int .u32 o.ver, .int .u32 o.ref, .int .i64 o.thr, .map p] 38))
  have qW := eqlW
  have qF := fieldV
  clear ho hv
  unfold oneV msgV One.msg
  simp only
  go_enter Try.func22, Try.ntmps22
  go_wp2_with fail
  generalize (w.alloc (.cells #[.int .i64 o.val, .int .u32 o.ver, .int .u32 o.ref, .int .i64 o.thr, .int .u8 o.at_, .int .u8 o.known] 32)).alloc (.cells #[.int .i64 o.val, .int .u32 o.ver, .int .u32 o.ref, .int .i64 o.thr, .map p] 38) = W0 at *
  obtain ⟨bm, hbr⟩ : ∃ br, w.heap.size + 1 = br := ⟨_, rfl⟩
  obtain ⟨bp, hbp⟩ : ∃ bp, w.heap.size = bp := ⟨_, rfl⟩
  rw [hbr] at M0 ⊢
  have hbq := hbp
  rw [hbp] at K0 hbr ⊢
  have K0' := Lib.hid (K0.out.below ((Below.refl _ _).drew))
  have M0' := Lib.hid (M0.out.below ((Below.refl _ _).drew))
  have P' := Lib.hid (P.out.below ((Below.refl _ _).drew))
  have BB' := Lib.hid (BB.out.trans (((Below.refl _ _).drew).mono BB.out.size))
  clear K0
  have K0 := K0'
  clear K0'
  clear M0
  have M0 := M0'
  clear M0'
  clear P
  have P := P'
  clear P'
  clear BB
  have BB := BB'
  clear BB'
  refine wp_region_held_drew (S := fun w' => w'.cell? ⟨bp, 0, none⟩ = some (.int .i64 o.val) ∧ w'.cell? ⟨bp, 1, none⟩ = some (.int .u32 o.ver) ∧ w'.cell? ⟨bp, 2, none⟩ = some (.int .u32 o.ref) ∧ w'.cell? ⟨bp, 3, none⟩ = some (.int .i64 o.thr) ∧ w'.cell? ⟨bp, 4, none⟩ = some (.int .u8 o.at_) ∧ w'.cell? ⟨bp, 5, none⟩ = some (.int .u8 o.known) ∧ w'.cell? ⟨bm, 0, none⟩ = some (.int .i64 o.val) ∧ w'.cell? ⟨bm, 1, none⟩ = some (.int .u32 o.ver) ∧ w'.cell? ⟨bm, 2, none⟩ = some (.int .u32 o.ref) ∧ w'.cell? ⟨bm, 3, none⟩ = some (.int .i64 o.thr) ∧ w'.cell? ⟨bm, 4, none⟩ = some (.map p)) (by kernel_rfl) ⟨K0.out.cell 0, K0.out.cell 1, K0.out.cell 2, K0.out.cell 3, K0.out.cell 4, K0.out.cell 5, M0.out.cell 0, M0.out.cell 1, M0.out.cell 2, M0.out.cell 3, M0.out.cell 4⟩ (fun hHeld => ?_)
  generalize World.drew W0 = V0 at *
  refine wpAnyH_take (i := 0) (oi := { dst := some 5, op := Op.fieldAddr 38 (Operand.tmp 3) 0, type := 0, pos := "law.go:26", after := #[], guard := none }) (v := ?d1_1xv0) rfl (by kernel_rfl) (by kernel_rfl) (by kernel_rfl) (fun _ _ _ h => h) (Or.inl ⟨by rfl, ?d1_1xy0⟩) (by assumption) ?d1_1xr0
  case d1_1xy0 => (intro w hSw; (try dsimp only at hSw); go_simp; try with_reducible rfl)
  (try simp only [Act.put])
  (try simp only [List.setIfInBounds_toArray])
  (try simp only [List.set_cons_succ])
  (try simp only [List.set_cons_zero])
  refine wpAnyH_take (i := 1) (oi := { dst := some 6, op := Op.load 24 (Operand.tmp 5), type := 24, pos := "law.go:26", after := #[{ on := 0, ground := Ground.data }], guard := none }) (v := ?d1_2xv1) rfl (by kernel_rfl) (by kernel_rfl) (by kernel_rfl) (fun _ _ _ h => h) (Or.inl ⟨by rfl, ?d1_2xy1⟩) (by assumption) ?d1_2xr1
  case d1_2xy1 => (intro w hSw; (try dsimp only at hSw); go_simp; try with_reducible rfl)
  (try simp only [Act.put])
  (try simp only [List.setIfInBounds_toArray])
  (try simp only [List.set_cons_succ])
  (try simp only [List.set_cons_zero])
  refine wpAnyH_take (i := 2) (oi := { dst := some 7, op := Op.fieldAddr 32 (Operand.tmp 2) 0, type := 0, pos := "law.go:26", after := #[], guard := none }) (v := ?d1_3xv2) rfl (by kernel_rfl) (by kernel_rfl) (by kernel_rfl) (fun _ _ _ h => h) (Or.inl ⟨by rfl, ?d1_3xy2⟩) (by assumption) ?d1_3xr2
  case d1_3xy2 => (intro w hSw; (try dsimp only at hSw); go_simp; try with_reducible rfl)
  (try simp only [Act.put])
  (try simp only [List.setIfInBounds_toArray])
  (try simp only [List.set_cons_succ])
  (try simp only [List.set_cons_zero])
  refine wpAnyH_take (i := 3) (oi := { dst := some 8, op := Op.load 24 (Operand.tmp 7), type := 24, pos := "law.go:26", after := #[{ on := 2, ground := Ground.data }], guard := none }) (v := ?d1_4xv3) rfl (by kernel_rfl) (by kernel_rfl) (by kernel_rfl) (fun _ _ _ h => h) (Or.inl ⟨by rfl, ?d1_4xy3⟩) (by assumption) ?d1_4xr3
  case d1_4xy3 => (intro w hSw; (try dsimp only at hSw); go_simp; try with_reducible rfl)
  (try simp only [Act.put])
  (try simp only [List.setIfInBounds_toArray])
  (try simp only [List.set_cons_succ])
  (try simp only [List.set_cons_zero])
  refine wpAnyH_take (i := 4) (oi := { dst := some 9, op := Op.binOp BinOp.eql 24 (Operand.tmp 6) (Operand.tmp 8) 24, type := 4, pos := "law.go:26", after := #[{ on := 1, ground := Ground.data }, { on := 3, ground := Ground.data }], guard := none }) (v := ?d1_5xv4) rfl (by kernel_rfl) (by kernel_rfl) (by kernel_rfl) (fun _ _ _ h => h) (Or.inl ⟨by rfl, ?d1_5xy4⟩) (by assumption) ?d1_5xr4
  case d1_5xy4 => (intro w hSw; (try dsimp only at hSw); go_simp; try with_reducible rfl)
  (try simp only [Act.put])
  (try simp only [List.setIfInBounds_toArray])
  (try simp only [List.set_cons_succ])
  (try simp only [List.set_cons_zero])
  refine wpAnyH_take (i := 5) (oi := { dst := some 10, op := Op.move (Operand.tmp 9), type := 4, pos := "law.go:26", after := #[{ on := 4, ground := Ground.data }], guard := none }) (v := ?d1_6xv5) rfl (by kernel_rfl) (by kernel_rfl) (by kernel_rfl) (fun _ _ _ h => h) (Or.inl ⟨by rfl, ?d1_6xy5⟩) (by assumption) ?d1_6xr5
  case d1_6xy5 => (intro w hSw; (try dsimp only at hSw); go_simp; try with_reducible rfl)
  (try simp only [Act.put])
  (try simp only [List.setIfInBounds_toArray])
  (try simp only [List.set_cons_succ])
  (try simp only [List.set_cons_zero])
  refine wpAnyH_take (i := 6) (oi := { dst := some 11, op := Op.fieldAddr 38 (Operand.tmp 3) 1, type := 0, pos := "law.go:26", after := #[{ on := 5, ground := Ground.guard }], guard := some (5, true) }) (v := ?d1_7xv6) rfl (by kernel_rfl) (by kernel_rfl) (by kernel_rfl) (fun _ _ _ h => h) (Or.inl ⟨by rfl, ?d1_7xy6⟩) (by assumption) ?d1_7xr6
  case d1_7xy6 => (intro w hSw; (try dsimp only at hSw); go_simp; try with_reducible rfl)
  (try simp only [Act.put])
  (try simp only [List.setIfInBounds_toArray])
  (try simp only [List.set_cons_succ])
  (try simp only [List.set_cons_zero])
  refine wpAnyH_take (i := 7) (oi := { dst := some 12, op := Op.load 3 (Operand.tmp 11), type := 3, pos := "law.go:26", after := #[{ on := 6, ground := Ground.data }, { on := 5, ground := Ground.guard }], guard := some (5, true) }) (v := ?d1_8xv7) rfl (by kernel_rfl) (by kernel_rfl) (by kernel_rfl) (fun _ _ _ h => h) (Or.inl ⟨by rfl, ?d1_8xy7⟩) (by assumption) ?d1_8xr7
  case d1_8xy7 => (intro w hSw; (try dsimp only at hSw); go_simp; try with_reducible rfl)
  (try simp only [Act.put])
  (try simp only [List.setIfInBounds_toArray])
  (try simp only [List.set_cons_succ])
  (try simp only [List.set_cons_zero])
  refine wpAnyH_take (i := 8) (oi := { dst := some 13, op := Op.fieldAddr 32 (Operand.tmp 2) 1, type := 0, pos := "law.go:26", after := #[{ on := 5, ground := Ground.guard }], guard := some (5, true) }) (v := ?d1_9xv8) rfl (by kernel_rfl) (by kernel_rfl) (by kernel_rfl) (fun _ _ _ h => h) (Or.inl ⟨by rfl, ?d1_9xy8⟩) (by assumption) ?d1_9xr8
  case d1_9xy8 => (intro w hSw; (try dsimp only at hSw); go_simp; try with_reducible rfl)
  (try simp only [Act.put])
  (try simp only [List.setIfInBounds_toArray])
  (try simp only [List.set_cons_succ])
  (try simp only [List.set_cons_zero])
  refine wpAnyH_take (i := 9) (oi := { dst := some 14, op := Op.load 3 (Operand.tmp 13), type := 3, pos := "law.go:26", after := #[{ on := 8, ground := Ground.data }, { on := 5, ground := Ground.guard }], guard := some (5, true) }) (v := ?d1_10xv9) rfl (by kernel_rfl) (by kernel_rfl) (by kernel_rfl) (fun _ _ _ h => h) (Or.inl ⟨by rfl, ?d1_10xy9⟩) (by assumption) ?d1_10xr9
  case d1_10xy9 => (intro w hSw; (try dsimp only at hSw); go_simp; try with_reducible rfl)
  (try simp only [Act.put])
  (try simp only [List.setIfInBounds_toArray])
  (try simp only [List.set_cons_succ])
  (try simp only [List.set_cons_zero])
  refine wpAnyH_take (i := 10) (oi := { dst := some 15, op := Op.binOp BinOp.eql 3 (Operand.tmp 12) (Operand.tmp 14) 3, type := 4, pos := "law.go:26", after := #[{ on := 7, ground := Ground.data }, { on := 9, ground := Ground.data }, { on := 5, ground := Ground.guard }], guard := some (5, true) }) (v := ?d1_11xv10) rfl (by kernel_rfl) (by kernel_rfl) (by kernel_rfl) (fun _ _ _ h => h) (Or.inl ⟨by rfl, ?d1_11xy10⟩) (by assumption) ?d1_11xr10
  case d1_11xy10 => (intro w hSw; (try dsimp only at hSw); go_simp; try with_reducible rfl)
  (try simp only [Act.put])
  (try simp only [List.setIfInBounds_toArray])
  (try simp only [List.set_cons_succ])
  (try simp only [List.set_cons_zero])
  refine wpAnyH_take (i := 11) (oi := { dst := some 16, op := Op.pick (Operand.tmp 10) (Operand.tmp 15) (Operand.const (Value.bool false)), type := 4, pos := "law.go:26", after := #[{ on := 5, ground := Ground.data }, { on := 10, ground := Ground.data }], guard := none }) (v := ?d1_12xv11) rfl (by kernel_rfl) (by kernel_rfl) (by kernel_rfl) (fun _ _ _ h => h) (Or.inl ⟨by rfl, ?d1_12xy11⟩) (by assumption) ?d1_12xr11
  case d1_12xy11 => (intro w hSw; (try dsimp only at hSw); go_simp; try with_reducible rfl)
  (try simp only [Act.put])
  (try simp only [List.setIfInBounds_toArray])
  (try simp only [List.set_cons_succ])
  (try simp only [List.set_cons_zero])
  refine wpAnyH_take (i := 12) (oi := { dst := some 17, op := Op.move (Operand.tmp 16), type := 4, pos := "law.go:26", after := #[{ on := 11, ground := Ground.data }, { on := 5, ground := Ground.chain }], guard := none }) (v := ?d1_13xv12) rfl (by kernel_rfl) (by kernel_rfl) (by kernel_rfl) (fun _ _ _ h => h) (Or.inl ⟨by rfl, ?d1_13xy12⟩) (by assumption) ?d1_13xr12
  case d1_13xy12 => (intro w hSw; (try dsimp only at hSw); go_simp; try with_reducible rfl)
  (try simp only [Act.put])
  (try simp only [List.setIfInBounds_toArray])
  (try simp only [List.set_cons_succ])
  (try simp only [List.set_cons_zero])
  refine wpAnyH_take (i := 13) (oi := { dst := some 18, op := Op.fieldAddr 38 (Operand.tmp 3) 2, type := 0, pos := "law.go:26", after := #[{ on := 12, ground := Ground.guard }], guard := some (12, true) }) (v := ?d1_14xv13) rfl (by kernel_rfl) (by kernel_rfl) (by kernel_rfl) (fun _ _ _ h => h) (Or.inl ⟨by rfl, ?d1_14xy13⟩) (by assumption) ?d1_14xr13
  case d1_14xy13 => (intro w hSw; (try dsimp only at hSw); go_simp; try with_reducible rfl)
  (try simp only [Act.put])
  (try simp only [List.setIfInBounds_toArray])
  (try simp only [List.set_cons_succ])
  (try simp only [List.set_cons_zero])
  refine wpAnyH_take (i := 14) (oi := { dst := some 19, op := Op.load 36 (Operand.tmp 18), type := 36, pos := "law.go:26", after := #[{ on := 13, ground := Ground.data }, { on := 12, ground := Ground.guard }], guard := some (12, true) }) (v := ?d1_15xv14) rfl (by kernel_rfl) (by kernel_rfl) (by kernel_rfl) (fun _ _ _ h => h) (Or.inl ⟨by rfl, ?d1_15xy14⟩) (by assumption) ?d1_15xr14
  case d1_15xy14 => (intro w hSw; (try dsimp only at hSw); go_simp; try with_reducible rfl)
  (try simp only [Act.put])
  (try simp only [List.setIfInBounds_toArray])
  (try simp only [List.set_cons_succ])
  (try simp only [List.set_cons_zero])
  refine wpAnyH_take (i := 15) (oi := { dst := some 20, op := Op.load 32 (Operand.tmp 2), type := 32, pos := "law.go:26", after := #[{ on := 12, ground := Ground.guard }], guard := some (12, true) }) (v := ?d1_16xv15) rfl (by kernel_rfl) (by kernel_rfl) (by kernel_rfl) (fun _ _ _ h => h) (Or.inl ⟨by rfl, ?d1_16xy15⟩) (by assumption) ?d1_16xr15
  case d1_16xy15 => (intro w hSw; (try dsimp only at hSw); go_simp; try with_reducible rfl)
  (try simp only [Act.put])
  (try simp only [List.setIfInBounds_toArray])
  (try simp only [List.set_cons_succ])
  (try simp only [List.set_cons_zero])
  refine wpAnyH_ready (rs := [16]) (by kernel_rfl) (by simp) ?_
  refine AllReadyH.cons (o := { dst := some 21, op := Op.call { callee := Callee.value (Operand.func 11), args := #[Operand.tmp 20], argTypes := #[32] }, type := 38, pos := "law.go:26", after := #[{ on := 15, ground := Ground.data }, { on := 12, ground := Ground.chain }, { on := 12, ground := Ground.guard }], guard := some (12, true) }) rfl (fun K hK => ?_) AllReadyH.nil
  go_simp
  go_at_call 11
  refine (make_any o _ OO.out).mono ?_
  rintro e v1 ⟨p2, rfl, hv, hb⟩
  have K0' := Lib.hid (K0.out.below (hb))
  have M0' := Lib.hid (M0.out.below (hb))
  have P' := Lib.hid (P.out.below (hb))
  have BB' := Lib.hid (BB.out.trans ((hb).mono BB.out.size))
  clear K0
  have K0 := K0'
  clear K0'
  clear M0
  have M0 := M0'
  clear M0'
  clear P
  have P := P'
  clear P'
  clear BB
  have BB := BB'
  clear BB'
  clear hb
  have P2 := Lib.hid (hv)
  clear hv
  simp only [msgV, One.msg]
  go_simp
  refine hK.out _ _ ?_ (fun hHeld => ?_)
  · exact ⟨K0.out.cell 0, K0.out.cell 1, K0.out.cell 2, K0.out.cell 3, K0.out.cell 4, K0.out.cell 5, M0.out.cell 0, M0.out.cell 1, M0.out.cell 2, M0.out.cell 3, M0.out.cell 4⟩
  clear hK K
  (try simp only [Act.put])
  (try simp only [List.setIfInBounds_toArray])
  (try simp only [List.set_cons_succ])
  (try simp only [List.set_cons_zero])
  refine wpAnyH_take (i := 17) (oi := { dst := some 22, op := Op.field 38 (Operand.tmp 21) 2, type := 36, pos := "law.go:26", after := #[{ on := 16, ground := Ground.data }, { on := 12, ground := Ground.guard }], guard := some (12, true) }) (v := ?d2_17xv17) rfl (by kernel_rfl) (by kernel_rfl) (by kernel_rfl) (fun _ _ _ h => h) (Or.inl ⟨by rfl, ?d2_17xy17⟩) (by assumption) ?d2_17xr17
  case d2_17xy17 => (intro w hSw; (try dsimp only at hSw); go_simp; try with_reducible rfl)
  (try simp only [Act.put])
  (try simp only [List.setIfInBounds_toArray])
  (try simp only [List.set_cons_succ])
  (try simp only [List.set_cons_zero])
  refine wpAnyH_ready (rs := [18]) (by kernel_rfl) (by simp) ?_
  refine AllReadyH.cons (o := { dst := some 23, op := Op.call { callee := Callee.value (Operand.func 16), args := #[Operand.tmp 19, Operand.tmp 22], argTypes := #[36, 36] }, type := 4, pos := "law.go:26", after := #[{ on := 14, ground := Ground.data }, { on := 17, ground := Ground.data }, { on := 16, ground := Ground.chain }, { on := 12, ground := Ground.guard }], guard := some (12, true) }) rfl (fun K hK => ?_) AllReadyH.nil
  go_simp
  go_at_call 16
  refine (same_any p p2 o.view o.view _ P.out P2.out).mono ?_
  rintro e v2 ⟨rfl, hb⟩
  have K0' := Lib.hid (K0.out.below (hb))
  have M0' := Lib.hid (M0.out.below (hb))
  have P' := Lib.hid (P.out.below (hb))
  have P2' := Lib.hid (P2.out.below (hb))
  have BB' := Lib.hid (BB.out.trans ((hb).mono BB.out.size))
  clear K0
  have K0 := K0'
  clear K0'
  clear M0
  have M0 := M0'
  clear M0'
  clear P
  have P := P'
  clear P'
  clear P2
  have P2 := P2'
  clear P2'
  clear BB
  have BB := BB'
  clear BB'
  clear hb
  clear P
  clear P2
  rw [decide_eq_true (rfl : o.view = o.view)]
  go_simp
  refine hK.out _ _ ?_ (fun hHeld => ?_)
  · exact ⟨K0.out.cell 0, K0.out.cell 1, K0.out.cell 2, K0.out.cell 3, K0.out.cell 4, K0.out.cell 5, M0.out.cell 0, M0.out.cell 1, M0.out.cell 2, M0.out.cell 3, M0.out.cell 4⟩
  clear hK K
  (try simp only [Act.put])
  (try simp only [List.setIfInBounds_toArray])
  (try simp only [List.set_cons_succ])
  (try simp only [List.set_cons_zero])
  refine wpAnyH_take (i := 19) (oi := { dst := some 24, op := Op.pick (Operand.tmp 17) (Operand.tmp 23) (Operand.const (Value.bool false)), type := 4, pos := "law.go:26", after := #[{ on := 12, ground := Ground.data }, { on := 18, ground := Ground.data }], guard := none }) (v := ?d3_18xv19) rfl (by kernel_rfl) (by kernel_rfl) (by kernel_rfl) (fun _ _ _ h => h) (Or.inl ⟨by rfl, ?d3_18xy19⟩) (by assumption) ?d3_18xr19
  case d3_18xy19 => (intro w hSw; (try dsimp only at hSw); go_simp; try with_reducible rfl)
  (try simp only [Act.put])
  (try simp only [List.setIfInBounds_toArray])
  (try simp only [List.set_cons_succ])
  (try simp only [List.set_cons_zero])
  refine wpAnyH_ready (rs := [20]) (by kernel_rfl) (by simp) ?_
  refine AllReadyH.cons (o := { dst := some 4, op := Op.assign (Operand.tmp 24), type := 4, pos := "law.go:26", after := #[{ on := 19, ground := Ground.data }, { on := 18, ground := Ground.chain }, { on := 0, ground := Ground.phase }, { on := 1, ground := Ground.phase }, { on := 2, ground := Ground.phase }, { on := 3, ground := Ground.phase }, { on := 4, ground := Ground.phase }, { on := 5, ground := Ground.phase }, { on := 6, ground := Ground.phase }, { on := 7, ground := Ground.phase }, { on := 8, ground := Ground.phase }, { on := 9, ground := Ground.phase }, { on := 10, ground := Ground.phase }, { on := 11, ground := Ground.phase }, { on := 12, ground := Ground.phase }, { on := 13, ground := Ground.phase }, { on := 14, ground := Ground.phase }, { on := 15, ground := Ground.phase }, { on := 16, ground := Ground.phase }, { on := 17, ground := Ground.phase }, { on := 18, ground := Ground.phase }, { on := 19, ground := Ground.phase }], guard := none }) rfl (fun K hK => ?_) AllReadyH.nil
  go_simp
  refine hK.out _ _ ?_ (fun hHeld => ?_)
  · exact ⟨K0.out.cell 0, K0.out.cell 1, K0.out.cell 2, K0.out.cell 3, K0.out.cell 4, K0.out.cell 5, M0.out.cell 0, M0.out.cell 1, M0.out.cell 2, M0.out.cell 3, M0.out.cell 4⟩
  clear hK K
  (try simp only [Act.put])
  (try simp only [List.setIfInBounds_toArray])
  (try simp only [List.set_cons_succ])
  (try simp only [List.set_cons_zero])
  refine wpAnyH_done (by kernel_rfl) ?_ _
  have BB2 := BB.out
  go_wp2
  go_ret
  exact ⟨rfl, BB2⟩
end Go.Proofs.Ytfkfomefelekcaa
