/- ViewOutside: the walk. -/
import Derived.Test.YtapaimoahiplcaaMore
namespace Go.Proofs.Ytapaimoahiplcaa
open Go.RowKit Go.Shelf Go.Maps

/-- The block g holds three numbers. -/
def Row3 (W : World) (g : Nat) : Prop :=
  g < W.heap.size ∧ ∀ k, k < 3 → ∃ z : Int, (-9223372036854775808 ≤ z ∧ z < 9223372036854775808) ∧ W.cell? ⟨g, k, none⟩ = some (.int .i64 z)
theorem Row3.below {W W' : World} {g : Nat} (h : Row3 W g) (hb : Below W.heap.size W W') : Row3 W' g :=
  ⟨Nat.lt_of_lt_of_le h.1 hb.size, fun k hk => by
    obtain ⟨z, hz, hc⟩ := h.2 k hk
    exact ⟨z, hz, (hb.cell (p := ⟨g, k, none⟩) h.1).trans hc⟩⟩
theorem Row3.new (W : World) (f : Int) (f0 : -9223372036854775808 ≤ f) (f1 : f < 9223372036854775808) : Row3 (W.alloc (.cells #[.int .i64 (-1), .int .i64 4096, .int .i64 f] 23)) W.heap.size := by
  refine ⟨by simp, fun k hk => ?_⟩
  match k, hk with
  | 0, _ => exact ⟨-1, by omega, by simp [go_sem]⟩
  | 1, _ => exact ⟨4096, by omega, by simp [go_sem]⟩
  | 2, _ => exact ⟨f, ⟨f0, f1⟩, by simp [go_sem]⟩
  | k + 3, h => omega

def HeadO (w : World) (b1 g : Nat) (p1 : Option Nat) (m1 : Value) (m : List (Int × Int)) (iv : Value) (wr : World) : Prop :=
  ∃ k : Nat, k ≤ 3 ∧ iv = .int .i64 k ∧ Bx wr b1 p1 m ∧ IsP wr m1 m ∧ Row3 wr g ∧ Below w.heap.size w wr

theorem joinL_left (m : List (Int × Int)) (h : Ok m) : joinL [] m = m :=
  ext_atL (ok_join ok_nil h) h fun l => by
    rw [atL_joinL ok_nil h]
    have := (atL_bd h l).1
    simp [atL]
    omega

set_option maxRecDepth 100000 in
set_option maxHeartbeats 1600000 in
theorem outside (n f : Int) (v : Value) (ops : List (Int × Int)) (w : World) (n0 : -9223372036854775808 ≤ n) (n1 : n < 9223372036854775808) (f0 : -9223372036854775808 ≤ f) (f1 : f < 9223372036854775808) (h : IsOps w v ops) (ho : OpsOk ops) :
    Calls Try.prog 8 #[.int .i64 n, .int .i64 f, v] w fun e w' => e = .returned (.bool true) ∧ Below w.heap.size w w' := by
  have H0 := Lib.hid h
  have OO := Lib.hid ho
  have BB := Lib.hid (Below.refl w.heap.size w)
  clear h ho
  go_enter Try.func8, Try.ntmps8
  go_wp2_with fail
  by_cases hg : 100 < ops.length
  · skip
    refine (great_is (r := true) (by simp; omega) H0.out).mono ?_
    rintro e wn ⟨rfl, rfl⟩
    go_wp2_with fail
    refine (awake_any _).mono ?_
    rintro e wn ⟨rfl, hb⟩
    have H0' := Lib.hid (H0.out.below (hb))
    have BB' := Lib.hid (BB.out.trans ((hb).mono BB.out.size))
    clear H0
    have H0 := H0'
    clear H0'
    clear BB
    have BB := BB'
    clear BB'
    clear hb
    go_wp2
    go_ret
    exact ⟨rfl, BB.out⟩
  · skip
    refine (great_is (r := false) (by simp; omega) H0.out).mono ?_
    rintro e wn ⟨rfl, rfl⟩
    go_wp2_with fail
    have OM := Lib.hid (ok_made OO.out)
    have hlm := ok_length OM.out
    refine (made_any _ _ _ H0.out (by omega) OO.out).mono ?_
    rintro e w1 ⟨p1, m1, rfl, va, qa, hb⟩
    have H0' := Lib.hid (H0.out.below (hb))
    have BB' := Lib.hid (BB.out.trans ((hb).mono BB.out.size))
    clear H0
    have H0 := H0'
    clear H0'
    clear BB
    have BB := BB'
    clear BB'
    clear hb
    have H0' := Lib.hid (H0.out.below (below_new w1 (.cells #[.map p1] 28)))
    have BB' := Lib.hid (BB.out.trans ((below_new w1 (.cells #[.map p1] 28)).mono BB.out.size))
    clear H0
    have H0 := H0'
    clear H0'
    clear BB
    have BB := BB'
    clear BB'
    have A1 := Lib.hid (Bx.new va)
    have P1 := Lib.hid (IsP.below qa (below_new w1 (.cells #[.map p1] 28)))
    clear va qa H0
    generalize madeL ops = m at *
    clear OO hg
    have R0 : Hid (Row3 ((w1.alloc (.cells #[.map p1] 28)).alloc (.cells #[.int .i64 (-1), .int .i64 4096, .int .i64 f] 23)) (w1.heap.size + 1)) := by
      have := Row3.new (w1.alloc (.cells #[.map p1] 28)) f f0 f1
      exact Lib.hid (by simpa using this)
    have A1' := Lib.hid (A1.out.below (below_new (w1.alloc (.cells #[.map p1] 28)) (.cells #[.int .i64 (-1), .int .i64 4096, .int .i64 f] 23)))
    have P1' := Lib.hid (P1.out.below (below_new (w1.alloc (.cells #[.map p1] 28)) (.cells #[.int .i64 (-1), .int .i64 4096, .int .i64 f] 23)))
    have BB' := Lib.hid (BB.out.trans ((below_new (w1.alloc (.cells #[.map p1] 28)) (.cells #[.int .i64 (-1), .int .i64 4096, .int .i64 f] 23)).mono BB.out.size))
    clear A1
    have A1 := A1'
    clear A1'
    clear P1
    have P1 := P1'
    clear P1'
    clear BB
    have BB := BB'
    clear BB'
    go_wp2_with fail
    generalize (w1.alloc (.cells #[.map p1] 28)).alloc (.cells #[.int .i64 (-1), .int .i64 4096, .int .i64 f] 23) = w3 at *
    generalize w1.heap.size + 1 = g at *
    generalize w1.heap.size = b1 at *
    go_loopw [23] (fun iv wr => HeadO w b1 g p1 m1 m iv wr) (fun iv _ => 3 - (intOf iv).toNat)
    case atStart => exact ⟨0, by omega, rfl, A1.out, P1.out, R0.out, BB.out⟩
    case round =>
      obtain ⟨k, hk, rfl, a1, q1, r1, bb⟩ := hrel
      clear A1 P1 R0 BB
      have A1 := Lib.hid a1
      have P1 := Lib.hid q1
      have R0 := Lib.hid r1
      have BB := Lib.hid bb
      clear a1 q1 r1 bb
      by_cases hlt : k < 3
      · skip
        obtain ⟨z, ⟨z0, z1⟩, c0⟩ := R0.out.2 k hlt
        have hk0 : (0 : Int) ≤ (k : Int) := by omega
        have hk1 : (k : Int) < 3 := by omega
        by_cases hv0 : 0 ≤ z
        · skip
          by_cases hv1 : z < 4096
          · skip
            go_wp2
            go_roundw
            case rel => exact ⟨k + 1, by omega, by go_num, A1.out, P1.out, R0.out, BB.out⟩
            case measure => simp [intOf]; omega
          · skip
            have hz : atL m z = 0 := atL_out OM.out z (by omega)
            have hw : withL m z n = m := by unfold withL; rw [if_pos (by omega)]
            have HZ := Lib.hid hz
            have HW := Lib.hid hw
            clear hz hw
            have kc0 := A1.out.cell
            go_wp2_with fail
            clear kc0
            clear c0
            refine (at_isB z0 z1 HZ.out A1.out.v).mono ?_
            rintro e wn ⟨rfl, hb⟩
            have A1' := Lib.hid (A1.out.below (hb))
            have P1' := Lib.hid (P1.out.below (hb))
            have R0' := Lib.hid (R0.out.below (hb))
            have BB' := Lib.hid (BB.out.trans ((hb).mono BB.out.size))
            clear A1
            have A1 := A1'
            clear A1'
            clear P1
            have P1 := P1'
            clear P1'
            clear R0
            have R0 := R0'
            clear R0'
            clear BB
            have BB := BB'
            clear BB'
            clear hb
            have kc0 := A1.out.cell
            go_wp2_with fail
            clear kc0
            refine (with_any _ _ _ _ _ z0 z1 n0 n1 A1.out.v).mono ?_
            rintro e wm ⟨q, hq, rfl, va, hb⟩
            rw [HW.out] at va
            have A1' := Lib.hid (A1.out.below (hb))
            have P1' := Lib.hid (P1.out.below (hb))
            have R0' := Lib.hid (R0.out.below (hb))
            have BB' := Lib.hid (BB.out.trans ((hb).mono BB.out.size))
            clear A1
            have A1 := A1'
            clear A1'
            clear P1
            have P1 := P1'
            clear P1'
            clear R0
            have R0 := R0'
            clear R0'
            clear BB
            have BB := BB'
            clear BB'
            clear hb
            clear hq
            have VV := Lib.hid va
            clear va
            go_wp2_with fail
            refine (is_any _ _ _ _ VV.out P1.out).mono ?_
            rintro e wn ⟨rfl, hb⟩
            have A1' := Lib.hid (A1.out.below (hb))
            have P1' := Lib.hid (P1.out.below (hb))
            have R0' := Lib.hid (R0.out.below (hb))
            have VV' := Lib.hid (VV.out.below (hb))
            have BB' := Lib.hid (BB.out.trans ((hb).mono BB.out.size))
            clear A1
            have A1 := A1'
            clear A1'
            clear P1
            have P1 := P1'
            clear P1'
            clear R0
            have R0 := R0'
            clear R0'
            clear VV
            have VV := VV'
            clear VV'
            clear BB
            have BB := BB'
            clear BB'
            clear hb
            go_wp2
            go_roundw
            case rel => exact ⟨k + 1, by omega, by go_num, A1.out, P1.out, R0.out, BB.out⟩
            case measure => simp [intOf]; omega
        · skip
          have hz : atL m z = 0 := atL_out OM.out z (by omega)
          have hw : withL m z n = m := by unfold withL; rw [if_pos (by omega)]
          have HZ := Lib.hid hz
          have HW := Lib.hid hw
          clear hz hw
          have kc0 := A1.out.cell
          go_wp2_with fail
          clear kc0
          clear c0
          refine (at_isB z0 z1 HZ.out A1.out.v).mono ?_
          rintro e wn ⟨rfl, hb⟩
          have A1' := Lib.hid (A1.out.below (hb))
          have P1' := Lib.hid (P1.out.below (hb))
          have R0' := Lib.hid (R0.out.below (hb))
          have BB' := Lib.hid (BB.out.trans ((hb).mono BB.out.size))
          clear A1
          have A1 := A1'
          clear A1'
          clear P1
          have P1 := P1'
          clear P1'
          clear R0
          have R0 := R0'
          clear R0'
          clear BB
          have BB := BB'
          clear BB'
          clear hb
          have kc0 := A1.out.cell
          go_wp2_with fail
          clear kc0
          refine (with_any _ _ _ _ _ z0 z1 n0 n1 A1.out.v).mono ?_
          rintro e wm ⟨q, hq, rfl, va, hb⟩
          rw [HW.out] at va
          have A1' := Lib.hid (A1.out.below (hb))
          have P1' := Lib.hid (P1.out.below (hb))
          have R0' := Lib.hid (R0.out.below (hb))
          have BB' := Lib.hid (BB.out.trans ((hb).mono BB.out.size))
          clear A1
          have A1 := A1'
          clear A1'
          clear P1
          have P1 := P1'
          clear P1'
          clear R0
          have R0 := R0'
          clear R0'
          clear BB
          have BB := BB'
          clear BB'
          clear hb
          clear hq
          have VV := Lib.hid va
          clear va
          go_wp2_with fail
          refine (is_any _ _ _ _ VV.out P1.out).mono ?_
          rintro e wn ⟨rfl, hb⟩
          have A1' := Lib.hid (A1.out.below (hb))
          have P1' := Lib.hid (P1.out.below (hb))
          have R0' := Lib.hid (R0.out.below (hb))
          have VV' := Lib.hid (VV.out.below (hb))
          have BB' := Lib.hid (BB.out.trans ((hb).mono BB.out.size))
          clear A1
          have A1 := A1'
          clear A1'
          clear P1
          have P1 := P1'
          clear P1'
          clear R0
          have R0 := R0'
          clear R0'
          clear VV
          have VV := VV'
          clear VV'
          clear BB
          have BB := BB'
          clear BB'
          clear hb
          go_wp2
          go_roundw
          case rel => exact ⟨k + 1, by omega, by go_num, A1.out, P1.out, R0.out, BB.out⟩
          case measure => simp [intOf]; omega
      · skip
        have hk3 : (3 : Int) ≤ (k : Int) := by omega
        clear P1 R0
        have hne : b1 ≠ wr.heap.size := Nat.ne_of_lt A1.out.l
        have A1' := Lib.hid (A1.out.below (below_new wr (.cells #[.map none] 28)))
        have BB' := Lib.hid (BB.out.trans ((below_new wr (.cells #[.map none] 28)).mono BB.out.size))
        clear A1
        have A1 := A1'
        clear A1'
        clear BB
        have BB := BB'
        clear BB'
        have A6 := Lib.hid (Bx.new (VW.nil wr))
        go_wp2_with fail
        generalize wr.alloc (.cells #[.map none] 28) = w5 at *
        generalize wr.heap.size = b6 at *
        have A1' := Lib.hid (A1.out.below (Below.refl _ _).drew)
        have A6' := Lib.hid (A6.out.below (Below.refl _ _).drew)
        have BB' := Lib.hid (BB.out.drew)
        clear A1
        have A1 := A1'
        clear A1'
        clear A6
        have A6 := A6'
        clear A6'
        clear BB
        have BB := BB'
        clear BB'
        refine wp_region_held_drew (S := fun w' => w'.cell? ⟨b1, 0, none⟩ = some (.map p1) ∧ w'.cell? ⟨b6, 0, none⟩ = some (.map none)) (by kernel_rfl) ⟨A1.out.cell, A6.out.cell⟩ (fun hHeld => ?_)
        refine wpAnyH_take (i := 0) (oi := { dst := some 47, op := Op.load 28 (Operand.tmp 11), type := 28, pos := "law.go:138", after := #[], guard := none }) (v := ?d1xv0) rfl (by kernel_rfl) (by kernel_rfl) (by kernel_rfl) (fun _ _ _ h => h) (Or.inl ⟨by rfl, ?d1xy0⟩) (by assumption) ?d1xr0
        case d1xy0 => (intro w hSw; (try dsimp only at hSw); go_simp; try with_reducible rfl)
        (try simp only [Act.put])
        (try simp only [List.setIfInBounds_toArray])
        (try simp only [List.set_cons_succ])
        (try simp only [List.set_cons_zero])
        refine wpAnyH_ready (rs := [1]) (by kernel_rfl) (by simp) ?_
        refine AllReadyH.cons (o := { dst := some 48, op := Op.call { callee := Callee.value (Operand.func 14), args := #[Operand.tmp 47, Operand.const (Value.int IntKind.i64 0)], argTypes := #[28, 23] }, type := 3, pos := "law.go:138", after := #[{ on := 0, ground := Ground.data }], guard := none }) rfl (fun K hK => ?_) AllReadyH.nil
        go_simp
        go_at_call 14
        refine (at_isB (x := 0) (y := 0) (by omega) (by omega) (by decide) A6.out.v).mono ?_
        rintro e wn ⟨rfl, hb⟩
        have A1' := Lib.hid (A1.out.below hb)
        have A6' := Lib.hid (A6.out.below hb)
        have BB' := Lib.hid (BB.out.trans (hb.mono BB.out.size))
        clear A1
        have A1 := A1'
        clear A1'
        clear A6
        have A6 := A6'
        clear A6'
        clear BB
        have BB := BB'
        clear BB'
        clear hb
        go_simp
        refine hK.out _ _ ?_ (fun hHeld => ?_)
        · exact ⟨A1.out.cell, A6.out.cell⟩
        clear hK K
        (try simp only [Act.put])
        (try simp only [List.setIfInBounds_toArray])
        (try simp only [List.set_cons_succ])
        (try simp only [List.set_cons_zero])
        refine wpAnyH_take (i := 2) (oi := { dst := some 49, op := Op.binOp BinOp.eql 3 (Operand.tmp 48) (Operand.const (Value.int IntKind.i64 0)) 3, type := 4, pos := "law.go:138", after := #[{ on := 1, ground := Ground.data }], guard := none }) (v := ?d2xv2) rfl (by kernel_rfl) (by kernel_rfl) (by kernel_rfl) (fun _ _ _ h => h) (Or.inl ⟨by rfl, ?d2xy2⟩) (by assumption) ?d2xr2
        case d2xy2 => (intro w hSw; (try dsimp only at hSw); go_simp; try with_reducible rfl)
        (try simp only [Act.put])
        (try simp only [List.setIfInBounds_toArray])
        (try simp only [List.set_cons_succ])
        (try simp only [List.set_cons_zero])
        refine wpAnyH_take (i := 3) (oi := { dst := some 50, op := Op.move (Operand.tmp 49), type := 4, pos := "law.go:138", after := #[{ on := 2, ground := Ground.data }, { on := 1, ground := Ground.chain }], guard := none }) (v := ?d3xv3) rfl (by kernel_rfl) (by kernel_rfl) (by kernel_rfl) (fun _ _ _ h => h) (Or.inl ⟨by rfl, ?d3xy3⟩) (by assumption) ?d3xr3
        case d3xy3 => (intro w hSw; (try dsimp only at hSw); go_simp; try with_reducible rfl)
        (try simp only [Act.put])
        (try simp only [List.setIfInBounds_toArray])
        (try simp only [List.set_cons_succ])
        (try simp only [List.set_cons_zero])
        refine wpAnyH_take (i := 4) (oi := { dst := some 51, op := Op.load 28 (Operand.tmp 11), type := 28, pos := "law.go:138", after := #[{ on := 3, ground := Ground.guard }], guard := some (3, true) }) (v := ?d4xv4) rfl (by kernel_rfl) (by kernel_rfl) (by kernel_rfl) (fun _ _ _ h => h) (Or.inl ⟨by rfl, ?d4xy4⟩) (by assumption) ?d4xr4
        case d4xy4 => (intro w hSw; (try dsimp only at hSw); go_simp; try with_reducible rfl)
        (try simp only [Act.put])
        (try simp only [List.setIfInBounds_toArray])
        (try simp only [List.set_cons_succ])
        (try simp only [List.set_cons_zero])
        refine wpAnyH_ready (rs := [5]) (by kernel_rfl) (by simp) ?_
        refine AllReadyH.cons (o := { dst := some 52, op := Op.call { callee := Callee.value (Operand.func 23), args := #[Operand.tmp 51], argTypes := #[28] }, type := 48, pos := "law.go:138", after := #[{ on := 4, ground := Ground.data }, { on := 3, ground := Ground.chain }, { on := 3, ground := Ground.guard }], guard := some (3, true) }) rfl (fun K hK => ?_) AllReadyH.nil
        go_simp
        go_at_call 23
        refine (locs_any _ _ _ A6.out.v).mono ?_
        rintro e wn ⟨vv, rfl, hown, hnil, hb⟩
        have A1' := Lib.hid (A1.out.below hb)
        have A6' := Lib.hid (A6.out.below hb)
        have BB' := Lib.hid (BB.out.trans (hb.mono BB.out.size))
        clear A1
        have A1 := A1'
        clear A1'
        clear A6
        have A6 := A6'
        clear A6'
        clear BB
        have BB := BB'
        clear BB'
        clear hb
        have hvv := hnil.2 rfl
        subst hvv
        clear hown hnil
        go_simp
        refine hK.out _ _ ?_ (fun hHeld => ?_)
        · exact ⟨A1.out.cell, A6.out.cell⟩
        clear hK K
        (try simp only [Act.put])
        (try simp only [List.setIfInBounds_toArray])
        (try simp only [List.set_cons_succ])
        (try simp only [List.set_cons_zero])
        refine wpAnyH_take (i := 6) (oi := { dst := some 53, op := Op.call { callee := Callee.builtin Builtin.len, args := #[Operand.tmp 52], argTypes := #[48] }, type := 3, pos := "law.go:138", after := #[{ on := 5, ground := Ground.data }, { on := 3, ground := Ground.guard }], guard := some (3, true) }) (v := ?d5xv6) rfl (by kernel_rfl) (by kernel_rfl) (by kernel_rfl) (fun _ _ _ h => h) (Or.inl ⟨by rfl, ?d5xy6⟩) (by assumption) ?d5xr6
        case d5xy6 => (intro w hSw; (try dsimp only at hSw); go_simp; try with_reducible rfl)
        (try simp only [Act.put])
        (try simp only [List.setIfInBounds_toArray])
        (try simp only [List.set_cons_succ])
        (try simp only [List.set_cons_zero])
        refine wpAnyH_take (i := 7) (oi := { dst := some 54, op := Op.binOp BinOp.eql 3 (Operand.tmp 53) (Operand.const (Value.int IntKind.i64 0)) 3, type := 4, pos := "law.go:138", after := #[{ on := 6, ground := Ground.data }, { on := 3, ground := Ground.guard }], guard := some (3, true) }) (v := ?d6xv7) rfl (by kernel_rfl) (by kernel_rfl) (by kernel_rfl) (fun _ _ _ h => h) (Or.inl ⟨by rfl, ?d6xy7⟩) (by assumption) ?d6xr7
        case d6xy7 => (intro w hSw; (try dsimp only at hSw); go_simp; try with_reducible rfl)
        (try simp only [Act.put])
        (try simp only [List.setIfInBounds_toArray])
        (try simp only [List.set_cons_succ])
        (try simp only [List.set_cons_zero])
        refine wpAnyH_take (i := 8) (oi := { dst := some 55, op := Op.pick (Operand.tmp 50) (Operand.tmp 54) (Operand.const (Value.bool false)), type := 4, pos := "law.go:138", after := #[{ on := 3, ground := Ground.data }, { on := 7, ground := Ground.data }], guard := none }) (v := ?d7xv8) rfl (by kernel_rfl) (by kernel_rfl) (by kernel_rfl) (fun _ _ _ h => h) (Or.inl ⟨by rfl, ?d7xy8⟩) (by assumption) ?d7xr8
        case d7xy8 => (intro w hSw; (try dsimp only at hSw); go_simp; try with_reducible rfl)
        (try simp only [Act.put])
        (try simp only [List.setIfInBounds_toArray])
        (try simp only [List.set_cons_succ])
        (try simp only [List.set_cons_zero])
        refine wpAnyH_take (i := 9) (oi := { dst := some 56, op := Op.move (Operand.tmp 55), type := 4, pos := "law.go:138", after := #[{ on := 8, ground := Ground.data }, { on := 5, ground := Ground.chain }], guard := none }) (v := ?d8xv9) rfl (by kernel_rfl) (by kernel_rfl) (by kernel_rfl) (fun _ _ _ h => h) (Or.inl ⟨by rfl, ?d8xy9⟩) (by assumption) ?d8xr9
        case d8xy9 => (intro w hSw; (try dsimp only at hSw); go_simp; try with_reducible rfl)
        (try simp only [Act.put])
        (try simp only [List.setIfInBounds_toArray])
        (try simp only [List.set_cons_succ])
        (try simp only [List.set_cons_zero])
        refine wpAnyH_take (i := 10) (oi := { dst := some 57, op := Op.load 28 (Operand.tmp 11), type := 28, pos := "law.go:138", after := #[{ on := 9, ground := Ground.guard }], guard := some (9, true) }) (v := ?d9xv10) rfl (by kernel_rfl) (by kernel_rfl) (by kernel_rfl) (fun _ _ _ h => h) (Or.inl ⟨by rfl, ?d9xy10⟩) (by assumption) ?d9xr10
        case d9xy10 => (intro w hSw; (try dsimp only at hSw); go_simp; try with_reducible rfl)
        (try simp only [Act.put])
        (try simp only [List.setIfInBounds_toArray])
        (try simp only [List.set_cons_succ])
        (try simp only [List.set_cons_zero])
        refine wpAnyH_take (i := 11) (oi := { dst := some 58, op := Op.load 28 (Operand.tmp 7), type := 28, pos := "law.go:138", after := #[{ on := 9, ground := Ground.guard }], guard := some (9, true) }) (v := ?d10xv11) rfl (by kernel_rfl) (by kernel_rfl) (by kernel_rfl) (fun _ _ _ h => h) (Or.inl ⟨by rfl, ?d10xy11⟩) (by assumption) ?d10xr11
        case d10xy11 => (intro w hSw; (try dsimp only at hSw); go_simp; try with_reducible rfl)
        (try simp only [Act.put])
        (try simp only [List.setIfInBounds_toArray])
        (try simp only [List.set_cons_succ])
        (try simp only [List.set_cons_zero])
        refine wpAnyH_ready (rs := [12]) (by kernel_rfl) (by simp) ?_
        refine AllReadyH.cons (o := { dst := some 59, op := Op.call { callee := Callee.value (Operand.func 18), args := #[Operand.tmp 57, Operand.tmp 58], argTypes := #[28, 28] }, type := 4, pos := "law.go:138", after := #[{ on := 10, ground := Ground.data }, { on := 11, ground := Ground.data }, { on := 9, ground := Ground.chain }, { on := 9, ground := Ground.guard }], guard := some (9, true) }) rfl (fun K hK => ?_) AllReadyH.nil
        go_simp
        go_at_call 18
        refine (below_is (r := true) (by rfl) A6.out.v A1.out.v).mono ?_
        rintro e wn ⟨rfl, hb⟩
        have A1' := Lib.hid (A1.out.below hb)
        have A6' := Lib.hid (A6.out.below hb)
        have BB' := Lib.hid (BB.out.trans (hb.mono BB.out.size))
        clear A1
        have A1 := A1'
        clear A1'
        clear A6
        have A6 := A6'
        clear A6'
        clear BB
        have BB := BB'
        clear BB'
        clear hb
        go_simp
        refine hK.out _ _ ?_ (fun hHeld => ?_)
        · exact ⟨A1.out.cell, A6.out.cell⟩
        clear hK K
        (try simp only [Act.put])
        (try simp only [List.setIfInBounds_toArray])
        (try simp only [List.set_cons_succ])
        (try simp only [List.set_cons_zero])
        refine wpAnyH_take (i := 13) (oi := { dst := some 60, op := Op.pick (Operand.tmp 56) (Operand.tmp 59) (Operand.const (Value.bool false)), type := 4, pos := "law.go:138", after := #[{ on := 9, ground := Ground.data }, { on := 12, ground := Ground.data }], guard := none }) (v := ?d11xv13) rfl (by kernel_rfl) (by kernel_rfl) (by kernel_rfl) (fun _ _ _ h => h) (Or.inl ⟨by rfl, ?d11xy13⟩) (by assumption) ?d11xr13
        case d11xy13 => (intro w hSw; (try dsimp only at hSw); go_simp; try with_reducible rfl)
        (try simp only [Act.put])
        (try simp only [List.setIfInBounds_toArray])
        (try simp only [List.set_cons_succ])
        (try simp only [List.set_cons_zero])
        refine wpAnyH_take (i := 14) (oi := { dst := some 61, op := Op.move (Operand.tmp 60), type := 4, pos := "law.go:138", after := #[{ on := 13, ground := Ground.data }, { on := 12, ground := Ground.chain }], guard := none }) (v := ?d12xv14) rfl (by kernel_rfl) (by kernel_rfl) (by kernel_rfl) (fun _ _ _ h => h) (Or.inl ⟨by rfl, ?d12xy14⟩) (by assumption) ?d12xr14
        case d12xy14 => (intro w hSw; (try dsimp only at hSw); go_simp; try with_reducible rfl)
        (try simp only [Act.put])
        (try simp only [List.setIfInBounds_toArray])
        (try simp only [List.set_cons_succ])
        (try simp only [List.set_cons_zero])
        refine wpAnyH_take (i := 15) (oi := { dst := some 62, op := Op.load 28 (Operand.tmp 11), type := 28, pos := "law.go:138", after := #[{ on := 14, ground := Ground.guard }], guard := some (14, true) }) (v := ?d13xv15) rfl (by kernel_rfl) (by kernel_rfl) (by kernel_rfl) (fun _ _ _ h => h) (Or.inl ⟨by rfl, ?d13xy15⟩) (by assumption) ?d13xr15
        case d13xy15 => (intro w hSw; (try dsimp only at hSw); go_simp; try with_reducible rfl)
        (try simp only [Act.put])
        (try simp only [List.setIfInBounds_toArray])
        (try simp only [List.set_cons_succ])
        (try simp only [List.set_cons_zero])
        refine wpAnyH_take (i := 16) (oi := { dst := some 63, op := Op.load 28 (Operand.tmp 7), type := 28, pos := "law.go:138", after := #[{ on := 14, ground := Ground.guard }], guard := some (14, true) }) (v := ?d14xv16) rfl (by kernel_rfl) (by kernel_rfl) (by kernel_rfl) (fun _ _ _ h => h) (Or.inl ⟨by rfl, ?d14xy16⟩) (by assumption) ?d14xr16
        case d14xy16 => (intro w hSw; (try dsimp only at hSw); go_simp; try with_reducible rfl)
        (try simp only [Act.put])
        (try simp only [List.setIfInBounds_toArray])
        (try simp only [List.set_cons_succ])
        (try simp only [List.set_cons_zero])
        refine wpAnyH_take (i := 18) (oi := { dst := some 65, op := Op.load 28 (Operand.tmp 7), type := 28, pos := "law.go:138", after := #[{ on := 14, ground := Ground.guard }], guard := some (14, true) }) (v := ?d15xv18) rfl (by kernel_rfl) (by kernel_rfl) (by kernel_rfl) (fun _ _ _ h => h) (Or.inl ⟨by rfl, ?d15xy18⟩) (by assumption) ?d15xr18
        case d15xy18 => (intro w hSw; (try dsimp only at hSw); go_simp; try with_reducible rfl)
        (try simp only [Act.put])
        (try simp only [List.setIfInBounds_toArray])
        (try simp only [List.set_cons_succ])
        (try simp only [List.set_cons_zero])
        refine wpAnyH_ready (rs := [17]) (by kernel_rfl) (by simp) ?_
        refine AllReadyH.cons (o := { dst := some 64, op := Op.call { callee := Callee.value (Operand.func 20), args := #[Operand.tmp 62, Operand.tmp 63], argTypes := #[28, 28] }, type := 28, pos := "law.go:138", after := #[{ on := 15, ground := Ground.data }, { on := 16, ground := Ground.data }, { on := 14, ground := Ground.chain }, { on := 14, ground := Ground.guard }], guard := some (14, true) }) rfl (fun K hK => ?_) AllReadyH.nil
        go_simp
        go_at_call 20
        refine (join_any _ _ _ _ _ A6.out.v A1.out.v).mono ?_
        rintro e wn ⟨q, hq, rfl, va, hb⟩
        have A1' := Lib.hid (A1.out.below hb)
        have A6' := Lib.hid (A6.out.below hb)
        have BB' := Lib.hid (BB.out.trans (hb.mono BB.out.size))
        clear A1
        have A1 := A1'
        clear A1'
        clear A6
        have A6 := A6'
        clear A6'
        clear BB
        have BB := BB'
        clear BB'
        clear hb
        clear hq
        rw [joinL_left m OM.out] at va
        have VV := Lib.hid va
        clear va
        go_simp
        refine hK.out _ _ ?_ (fun hHeld => ?_)
        · exact ⟨A1.out.cell, A6.out.cell⟩
        clear hK K
        (try simp only [Act.put])
        (try simp only [List.setIfInBounds_toArray])
        (try simp only [List.set_cons_succ])
        (try simp only [List.set_cons_zero])
        refine wpAnyH_ready (rs := [19]) (by kernel_rfl) (by simp) ?_
        refine AllReadyH.cons (o := { dst := some 66, op := Op.call { callee := Callee.value (Operand.func 22), args := #[Operand.tmp 64, Operand.tmp 65], argTypes := #[28, 28] }, type := 4, pos := "law.go:138", after := #[{ on := 17, ground := Ground.data }, { on := 18, ground := Ground.data }, { on := 17, ground := Ground.chain }, { on := 14, ground := Ground.guard }], guard := some (14, true) }) rfl (fun K hK => ?_) AllReadyH.nil
        go_simp
        go_at_call 22
        refine (same_is (r := true) (by simp) VV.out A1.out.v).mono ?_
        rintro e wn ⟨rfl, hb⟩
        have A1' := Lib.hid (A1.out.below hb)
        have A6' := Lib.hid (A6.out.below hb)
        have VV' := Lib.hid (VV.out.below hb)
        have BB' := Lib.hid (BB.out.trans (hb.mono BB.out.size))
        clear A1
        have A1 := A1'
        clear A1'
        clear A6
        have A6 := A6'
        clear A6'
        clear VV
        have VV := VV'
        clear VV'
        clear BB
        have BB := BB'
        clear BB'
        clear hb
        go_simp
        refine hK.out _ _ ?_ (fun hHeld => ?_)
        · exact ⟨A1.out.cell, A6.out.cell⟩
        clear hK K
        (try simp only [Act.put])
        (try simp only [List.setIfInBounds_toArray])
        (try simp only [List.set_cons_succ])
        (try simp only [List.set_cons_zero])
        refine wpAnyH_take (i := 20) (oi := { dst := some 67, op := Op.pick (Operand.tmp 61) (Operand.tmp 66) (Operand.const (Value.bool false)), type := 4, pos := "law.go:138", after := #[{ on := 14, ground := Ground.data }, { on := 19, ground := Ground.data }], guard := none }) (v := ?d16xv20) rfl (by kernel_rfl) (by kernel_rfl) (by kernel_rfl) (fun _ _ _ h => h) (Or.inl ⟨by rfl, ?d16xy20⟩) (by assumption) ?d16xr20
        case d16xy20 => (intro w hSw; (try dsimp only at hSw); go_simp; try with_reducible rfl)
        (try simp only [Act.put])
        (try simp only [List.setIfInBounds_toArray])
        (try simp only [List.set_cons_succ])
        (try simp only [List.set_cons_zero])
        refine wpAnyH_take (i := 21) (oi := { dst := some 68, op := Op.move (Operand.tmp 67), type := 4, pos := "law.go:138", after := #[{ on := 20, ground := Ground.data }, { on := 19, ground := Ground.chain }], guard := none }) (v := ?d17xv21) rfl (by kernel_rfl) (by kernel_rfl) (by kernel_rfl) (fun _ _ _ h => h) (Or.inl ⟨by rfl, ?d17xy21⟩) (by assumption) ?d17xr21
        case d17xy21 => (intro w hSw; (try dsimp only at hSw); go_simp; try with_reducible rfl)
        (try simp only [Act.put])
        (try simp only [List.setIfInBounds_toArray])
        (try simp only [List.set_cons_succ])
        (try simp only [List.set_cons_zero])
        refine wpAnyH_ready (rs := [22]) (by kernel_rfl) (by simp) ?_
        refine AllReadyH.cons (o := { dst := some 69, op := Op.call { callee := Callee.value (Operand.func 11), args := #[], argTypes := #[] }, type := 4, pos := "law.go:138", after := #[{ on := 21, ground := Ground.chain }, { on := 21, ground := Ground.guard }], guard := some (21, true) }) rfl (fun K hK => ?_) AllReadyH.nil
        go_simp
        go_at_call 11
        refine (awake_any _).mono ?_
        rintro e wn ⟨rfl, hb⟩
        have A1' := Lib.hid (A1.out.below hb)
        have A6' := Lib.hid (A6.out.below hb)
        have VV' := Lib.hid (VV.out.below hb)
        have BB' := Lib.hid (BB.out.trans (hb.mono BB.out.size))
        clear A1
        have A1 := A1'
        clear A1'
        clear A6
        have A6 := A6'
        clear A6'
        clear VV
        have VV := VV'
        clear VV'
        clear BB
        have BB := BB'
        clear BB'
        clear hb
        go_simp
        refine hK.out _ _ ?_ (fun hHeld => ?_)
        · exact ⟨A1.out.cell, A6.out.cell⟩
        clear hK K
        (try simp only [Act.put])
        (try simp only [List.setIfInBounds_toArray])
        (try simp only [List.set_cons_succ])
        (try simp only [List.set_cons_zero])
        refine wpAnyH_take (i := 23) (oi := { dst := some 70, op := Op.pick (Operand.tmp 68) (Operand.tmp 69) (Operand.const (Value.bool false)), type := 4, pos := "law.go:138", after := #[{ on := 21, ground := Ground.data }, { on := 22, ground := Ground.data }], guard := none }) (v := ?d18xv23) rfl (by kernel_rfl) (by kernel_rfl) (by kernel_rfl) (fun _ _ _ h => h) (Or.inl ⟨by rfl, ?d18xy23⟩) (by assumption) ?d18xr23
        case d18xy23 => (intro w hSw; (try dsimp only at hSw); go_simp; try with_reducible rfl)
        (try simp only [Act.put])
        (try simp only [List.setIfInBounds_toArray])
        (try simp only [List.set_cons_succ])
        (try simp only [List.set_cons_zero])
        refine wpAnyH_ready (rs := [24]) (by kernel_rfl) (by simp) ?_
        refine AllReadyH.cons (o := _) rfl (fun K hK => ?_) AllReadyH.nil
        go_simp
        refine hK.out _ _ ?_ (fun hHeld => ?_)
        · exact ⟨A1.out.cell, A6.out.cell⟩
        clear hK K
        (try simp only [Act.put])
        (try simp only [List.setIfInBounds_toArray])
        (try simp only [List.set_cons_succ])
        (try simp only [List.set_cons_zero])
        refine wpAnyH_done (by kernel_rfl) ?_ _
        go_wp2
        go_ret
        exact ⟨rfl, BB.out⟩
end Go.Proofs.Ytapaimoahiplcaa
