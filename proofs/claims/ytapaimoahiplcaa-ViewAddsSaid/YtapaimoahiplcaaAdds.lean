/- ViewAdds: the walk. -/
import Derived.Test.YtapaimoahiplcaaMore
namespace Go.Proofs.Ytapaimoahiplcaa
open Go.RowKit Go.Shelf Go.Maps

set_option maxRecDepth 100000 in
set_option maxHeartbeats 1600000 in
theorem adds (v : Value) (ops : List (Int × Int)) (x y a : Int) (w : World) (h : IsOps w v ops) (ho : OpsOk ops) (x0 : -9223372036854775808 ≤ x) (x1 : x < 9223372036854775808) (y0 : -9223372036854775808 ≤ y) (y1 : y < 9223372036854775808) (a0 : -9223372036854775808 ≤ a) (a1 : a < 9223372036854775808) :
    Calls Try.prog 4 #[v, .agg #[.int .i64 x, .int .i64 y], .int .i64 a] w fun e w' => e = .returned (.bool true) ∧ Below w.heap.size w w' := by
  have H0 := Lib.hid (h.below (below_new w (.cells #[.int .i64 x, .int .i64 y] 37)))
  have OB := Lib.hid (HasO.new w x y)
  have OO := Lib.hid ho
  have BB := Lib.hid (below_new w (.cells #[.int .i64 x, .int .i64 y] 37))
  clear h ho
  go_enter Try.func4, Try.ntmps4
  go_wp2_with fail
  generalize w.alloc (.cells #[.int .i64 x, .int .i64 y] 37) = w0 at *
  by_cases hg : 100 < ops.length
  · skip
    refine (great_is (r := true) (by simp; omega) H0.out).mono ?_
    rintro e wn ⟨rfl, rfl⟩
    go_wp2_with fail
    refine (awake_any _).mono ?_
    rintro e wn ⟨rfl, hb⟩
    have H0' := Lib.hid (H0.out.below (hb))
    have OB' := Lib.hid (OB.out.below (hb))
    have BB' := Lib.hid (BB.out.trans ((hb).mono BB.out.size))
    clear H0
    have H0 := H0'
    clear H0'
    clear OB
    have OB := OB'
    clear OB'
    clear BB
    have BB := BB'
    clear BB'
    clear hb
    go_wp2
    go_ret
    exact ⟨rfl, BB.out⟩
  · skip
    refine (great_is (r := false) (by simp; omega) H0.out).mono ?_
    rintro e wn ⟨rfl, rfl⟩
    go_wp2_with fail
    have OM := Lib.hid (ok_made OO.out)
    have OW := Lib.hid (ok_withL (l := x) OM.out y1)
    refine (made_any _ _ _ H0.out (by omega) OO.out).mono ?_
    rintro e w1 ⟨p1, m1, rfl, va, qa, hb⟩
    have H0' := Lib.hid (H0.out.below (hb))
    have OB' := Lib.hid (OB.out.below (hb))
    have BB' := Lib.hid (BB.out.trans ((hb).mono BB.out.size))
    clear H0
    have H0 := H0'
    clear H0'
    clear OB
    have OB := OB'
    clear OB'
    clear BB
    have BB := BB'
    clear BB'
    clear hb
    have H0' := Lib.hid (H0.out.below (below_new w1 (.cells #[.map p1] 28)))
    have OB' := Lib.hid (OB.out.below (below_new w1 (.cells #[.map p1] 28)))
    have BB' := Lib.hid (BB.out.trans ((below_new w1 (.cells #[.map p1] 28)).mono BB.out.size))
    clear H0
    have H0 := H0'
    clear H0'
    clear OB
    have OB := OB'
    clear OB'
    clear BB
    have BB := BB'
    clear BB'
    have A1 := Lib.hid (Bx.new va)
    have P1 := Lib.hid (IsP.below qa (below_new w1 (.cells #[.map p1] 28)))
    clear va qa
    have kc0 := A1.out.cell
    have kc1 := OB.out.1.1
    have kc2 := OB.out.1.2
    go_wp2_with fail
    clear kc0
    clear kc1
    clear kc2
    generalize w1.alloc (.cells #[.map p1] 28) = w1' at *
    generalize w1.heap.size = b1 at *
    refine (with_any _ _ _ _ _ x0 x1 y0 y1 A1.out.v).mono ?_
    rintro e w2 ⟨p2, h2, rfl, va, hb⟩
    have H0' := Lib.hid (H0.out.below (hb))
    have OB' := Lib.hid (OB.out.below (hb))
    have A1' := Lib.hid (A1.out.below (hb))
    have P1' := Lib.hid (P1.out.below (hb))
    have BB' := Lib.hid (BB.out.trans ((hb).mono BB.out.size))
    clear H0
    have H0 := H0'
    clear H0'
    clear OB
    have OB := OB'
    clear OB'
    clear A1
    have A1 := A1'
    clear A1'
    clear P1
    have P1 := P1'
    clear P1'
    clear BB
    have BB := BB'
    clear BB'
    clear hb
    clear h2
    have H0' := Lib.hid (H0.out.below (below_new w2 (.cells #[.map (some p2)] 28)))
    have OB' := Lib.hid (OB.out.below (below_new w2 (.cells #[.map (some p2)] 28)))
    have A1' := Lib.hid (A1.out.below (below_new w2 (.cells #[.map (some p2)] 28)))
    have P1' := Lib.hid (P1.out.below (below_new w2 (.cells #[.map (some p2)] 28)))
    have BB' := Lib.hid (BB.out.trans ((below_new w2 (.cells #[.map (some p2)] 28)).mono BB.out.size))
    clear H0
    have H0 := H0'
    clear H0'
    clear OB
    have OB := OB'
    clear OB'
    clear A1
    have A1 := A1'
    clear A1'
    clear P1
    have P1 := P1'
    clear P1'
    clear BB
    have BB := BB'
    clear BB'
    have A2 := Lib.hid (Bx.new va)
    clear va 
    go_wp2_with fail
    generalize w2.alloc (.cells #[.map (some p2)] 28) = w2' at *
    generalize w2.heap.size = b2 at *
    have hle : atL (madeL ops) x ≤ atL (withL (madeL ops) x y) x := by rw [atL_withL OM.out]; split <;> omega
    have hout : a ≠ x → atL (withL (madeL ops) x y) a = atL (madeL ops) a := fun hn => by rw [atL_withL OM.out, if_neg (by omega)]
    have hbel : belowL (madeL ops) (withL (madeL ops) x y) = true := (belowL_iff OM.out OW.out).2 fun l => by rw [atL_withL OM.out]; split <;> omega
    have HO := Lib.hid hout
    have HB := Lib.hid hbel
    clear hout hbel
    generalize madeL ops = m at *
    generalize hm' : withL m x y = m' at *
    have HM := Lib.hid hm'
    clear hm'
    generalize hc1 : atL m x = c1 at *
    generalize hc2 : atL m' x = c2 at *
    have C1 := Lib.hid hc1
    have C2 := Lib.hid hc2
    clear hc1 hc2
    clear H0
    have OB' := Lib.hid (OB.out.below (Below.refl _ _).drew)
    have A1' := Lib.hid (A1.out.below (Below.refl _ _).drew)
    have P1' := Lib.hid (P1.out.below (Below.refl _ _).drew)
    have A2' := Lib.hid (A2.out.below (Below.refl _ _).drew)
    have BB' := Lib.hid (BB.out.drew)
    clear OB
    have OB := OB'
    clear OB'
    clear A1
    have A1 := A1'
    clear A1'
    clear P1
    have P1 := P1'
    clear P1'
    clear A2
    have A2 := A2'
    clear A2'
    clear BB
    have BB := BB'
    clear BB'
    go_region_held3 (fun w' => w'.cell? ⟨b1, 0, none⟩ = some (.map p1) ∧ w'.cell? ⟨b2, 0, none⟩ = some (.map (some p2)) ∧ w'.cell? ⟨w.heap.size, 0, none⟩ = some (.int .i64 x) ∧ w'.cell? ⟨w.heap.size, 1, none⟩ = some (.int .i64 y))
      (exact ⟨A1.out.cell, A2.out.cell, OB.out.1.1, OB.out.1.2⟩)
      (first
        | (go_at_call 17; (with_reducible refine (rwith_any _ m x y _ OM.out y1 P1.out).mono ?_); rintro e wn ⟨m3, rfl, pa, hb⟩; (first | (have OB' := Lib.hid (OB.out.below hb); clear OB; have OB := OB'; clear OB') | skip); (first | (have A1' := Lib.hid (A1.out.below hb); clear A1; have A1 := A1'; clear A1') | skip); (first | (have P1' := Lib.hid (P1.out.below hb); clear P1; have P1 := P1'; clear P1') | skip); (first | (have A2' := Lib.hid (A2.out.below hb); clear A2; have A2 := A2'; clear A2') | skip); have BB' := Lib.hid (BB.out.trans (hb.mono BB.out.size)); clear BB; have BB := BB'; clear BB'; have P3 := Lib.hid pa; clear pa; rw [HM.out] at P3; clear hb)
        | (go_at_call 13; (with_reducible refine (is_any _ _ m' _ A2.out.v P3.out).mono ?_); rintro e wn ⟨rfl, hb⟩; (first | (have OB' := Lib.hid (OB.out.below hb); clear OB; have OB := OB'; clear OB') | skip); (first | (have A1' := Lib.hid (A1.out.below hb); clear A1; have A1 := A1'; clear A1') | skip); (first | (have P1' := Lib.hid (P1.out.below hb); clear P1; have P1 := P1'; clear P1') | skip); (first | (have A2' := Lib.hid (A2.out.below hb); clear A2; have A2 := A2'; clear A2') | skip); have BB' := Lib.hid (BB.out.trans (hb.mono BB.out.size)); clear BB; have BB := BB'; clear BB'; clear hb)
        | (go_at_call 13; (with_reducible refine (is_any _ _ m _ A1.out.v P1.out).mono ?_); rintro e wn ⟨rfl, hb⟩; (first | (have OB' := Lib.hid (OB.out.below hb); clear OB; have OB := OB'; clear OB') | skip); (first | (have A1' := Lib.hid (A1.out.below hb); clear A1; have A1 := A1'; clear A1') | skip); (first | (have P1' := Lib.hid (P1.out.below hb); clear P1; have P1 := P1'; clear P1') | skip); (first | (have A2' := Lib.hid (A2.out.below hb); clear A2; have A2 := A2'; clear A2') | skip); have BB' := Lib.hid (BB.out.trans (hb.mono BB.out.size)); clear BB; have BB := BB'; clear BB'; clear hb)
        | (go_at_call 14; (with_reducible refine (at_isB x0 x1 C2.out A2.out.v).mono ?_); rintro e wn ⟨rfl, hb⟩; (first | (have OB' := Lib.hid (OB.out.below hb); clear OB; have OB := OB'; clear OB') | skip); (first | (have A1' := Lib.hid (A1.out.below hb); clear A1; have A1 := A1'; clear A1') | skip); (first | (have P1' := Lib.hid (P1.out.below hb); clear P1; have P1 := P1'; clear P1') | skip); (first | (have A2' := Lib.hid (A2.out.below hb); clear A2; have A2 := A2'; clear A2') | skip); have BB' := Lib.hid (BB.out.trans (hb.mono BB.out.size)); clear BB; have BB := BB'; clear BB'; clear hb)
        | (go_at_call 14; (with_reducible refine (at_isB x0 x1 C1.out A1.out.v).mono ?_); rintro e wn ⟨rfl, hb⟩; (first | (have OB' := Lib.hid (OB.out.below hb); clear OB; have OB := OB'; clear OB') | skip); (first | (have A1' := Lib.hid (A1.out.below hb); clear A1; have A1 := A1'; clear A1') | skip); (first | (have P1' := Lib.hid (P1.out.below hb); clear P1; have P1 := P1'; clear P1') | skip); (first | (have A2' := Lib.hid (A2.out.below hb); clear A2; have A2 := A2'; clear A2') | skip); have BB' := Lib.hid (BB.out.trans (hb.mono BB.out.size)); clear BB; have BB := BB'; clear BB'; clear hb))
    clear P3
    have hnl : ¬ c2 < c1 := by omega
    go_wp2_with fail
    by_cases hax : a = x
    · skip
      subst hax
      clear hnl hle
      have OB' := Lib.hid (OB.out.below (Below.refl _ _).drew)
      have A1' := Lib.hid (A1.out.below (Below.refl _ _).drew)
      have P1' := Lib.hid (P1.out.below (Below.refl _ _).drew)
      have A2' := Lib.hid (A2.out.below (Below.refl _ _).drew)
      have BB' := Lib.hid (BB.out.drew)
      clear OB
      have OB := OB'
      clear OB'
      clear A1
      have A1 := A1'
      clear A1'
      clear P1
      have P1 := P1'
      clear P1'
      clear A2
      have A2 := A2'
      clear A2'
      clear BB
      have BB := BB'
      clear BB'
      refine wp_region_held_drew (S := fun w' => w'.cell? ⟨b1, 0, none⟩ = some (.map p1) ∧ w'.cell? ⟨b2, 0, none⟩ = some (.map (some p2)) ∧ w'.cell? ⟨w.heap.size, 0, none⟩ = some (.int .i64 a) ∧ w'.cell? ⟨w.heap.size, 1, none⟩ = some (.int .i64 y)) (by kernel_rfl) ⟨A1.out.cell, A2.out.cell, OB.out.1.1, OB.out.1.2⟩ (fun hHeld => ?_)
      refine wpAnyH_take (i := 0) (oi := { dst := some 50, op := Op.move (Operand.tmp 2), type := 23, pos := "law.go:72", after := #[], guard := none }) (v := ?dv0) rfl (by kernel_rfl) (by kernel_rfl) (by kernel_rfl) (fun _ _ _ h => h) (Or.inl ⟨by rfl, ?dy0⟩) (by assumption) ?dr0
      case dy0 => (intro w hSw; (try dsimp only at hSw); go_simp; try with_reducible rfl)
      (try simp only [Act.put])
      (try simp only [List.setIfInBounds_toArray])
      (try simp only [List.set_cons_succ])
      (try simp only [List.set_cons_zero])
      refine wpAnyH_take (i := 1) (oi := { dst := some 51, op := Op.fieldAddr 37 (Operand.tmp 4) 0, type := 0, pos := "law.go:72", after := #[], guard := none }) (v := ?dv1) rfl (by kernel_rfl) (by kernel_rfl) (by kernel_rfl) (fun _ _ _ h => h) (Or.inl ⟨by rfl, ?dy1⟩) (by assumption) ?dr1
      case dy1 => (intro w hSw; (try dsimp only at hSw); go_simp; try with_reducible rfl)
      (try simp only [Act.put])
      (try simp only [List.setIfInBounds_toArray])
      (try simp only [List.set_cons_succ])
      (try simp only [List.set_cons_zero])
      refine wpAnyH_take (i := 2) (oi := { dst := some 52, op := Op.load 23 (Operand.tmp 51), type := 23, pos := "law.go:72", after := #[{ on := 1, ground := Ground.data }], guard := none }) (v := ?dv2) rfl (by kernel_rfl) (by kernel_rfl) (by kernel_rfl) (fun _ _ _ h => h) (Or.inl ⟨by rfl, ?dy2⟩) (by assumption) ?dr2
      case dy2 => (intro w hSw; (try dsimp only at hSw); go_simp; try with_reducible rfl)
      (try simp only [Act.put])
      (try simp only [List.setIfInBounds_toArray])
      (try simp only [List.set_cons_succ])
      (try simp only [List.set_cons_zero])
      refine wpAnyH_take (i := 3) (oi := { dst := some 53, op := Op.binOp BinOp.eql 23 (Operand.tmp 50) (Operand.tmp 52) 23, type := 4, pos := "law.go:72", after := #[{ on := 0, ground := Ground.data }, { on := 2, ground := Ground.data }], guard := none }) (v := ?dv3) rfl (by kernel_rfl) (by kernel_rfl) (by kernel_rfl) (fun _ _ _ h => h) (Or.inl ⟨by rfl, ?dy3⟩) (by assumption) ?dr3
      case dy3 => (intro w hSw; (try dsimp only at hSw); go_simp; try with_reducible rfl)
      (try simp only [Act.put])
      (try simp only [List.setIfInBounds_toArray])
      (try simp only [List.set_cons_succ])
      (try simp only [List.set_cons_zero])
      refine wpAnyH_take (i := 4) (oi := { dst := some 54, op := Op.move (Operand.tmp 53), type := 4, pos := "law.go:72", after := #[{ on := 3, ground := Ground.data }], guard := none }) (v := ?dv4) rfl (by kernel_rfl) (by kernel_rfl) (by kernel_rfl) (fun _ _ _ h => h) (Or.inl ⟨by rfl, ?dy4⟩) (by assumption) ?dr4
      case dy4 => (intro w hSw; (try dsimp only at hSw); go_simp; try with_reducible rfl)
      (try simp only [Act.put])
      (try simp only [List.setIfInBounds_toArray])
      (try simp only [List.set_cons_succ])
      (try simp only [List.set_cons_zero])
      refine wpAnyH_take (i := 5) (oi := { dst := some 55, op := Op.load 28 (Operand.tmp 9), type := 28, pos := "law.go:72", after := #[{ on := 4, ground := Ground.guard }], guard := some (4, false) }) (v := undef) rfl (by kernel_rfl) (by kernel_rfl) (by kernel_rfl) (fun _ _ _ h => h) (Or.inr ⟨by kernel_rfl, rfl⟩) (by assumption) ?dr5
      (try simp only [Act.put])
      (try simp only [List.setIfInBounds_toArray])
      (try simp only [List.set_cons_succ])
      (try simp only [List.set_cons_zero])
      refine wpAnyH_take (i := 6) (oi := { dst := some 56, op := Op.move (Operand.tmp 2), type := 23, pos := "law.go:72", after := #[{ on := 4, ground := Ground.guard }], guard := some (4, false) }) (v := undef) rfl (by kernel_rfl) (by kernel_rfl) (by kernel_rfl) (fun _ _ _ h => h) (Or.inr ⟨by kernel_rfl, rfl⟩) (by assumption) ?dr6
      (try simp only [Act.put])
      (try simp only [List.setIfInBounds_toArray])
      (try simp only [List.set_cons_succ])
      (try simp only [List.set_cons_zero])
      refine wpAnyH_take (i := 7) (oi := { dst := some 57, op := Op.call { callee := Callee.value (Operand.func 14), args := #[Operand.tmp 55, Operand.tmp 56], argTypes := #[28, 23] }, type := 3, pos := "law.go:72", after := #[{ on := 5, ground := Ground.data }, { on := 6, ground := Ground.data }, { on := 4, ground := Ground.chain }, { on := 4, ground := Ground.guard }], guard := some (4, false) }) (v := undef) rfl (by kernel_rfl) (by kernel_rfl) (by kernel_rfl) (fun _ _ _ h => h) (Or.inr ⟨by kernel_rfl, rfl⟩) (by assumption) ?dr7
      (try simp only [Act.put])
      (try simp only [List.setIfInBounds_toArray])
      (try simp only [List.set_cons_succ])
      (try simp only [List.set_cons_zero])
      refine wpAnyH_take (i := 8) (oi := { dst := some 58, op := Op.load 28 (Operand.tmp 7), type := 28, pos := "law.go:72", after := #[{ on := 4, ground := Ground.guard }], guard := some (4, false) }) (v := undef) rfl (by kernel_rfl) (by kernel_rfl) (by kernel_rfl) (fun _ _ _ h => h) (Or.inr ⟨by kernel_rfl, rfl⟩) (by assumption) ?dr8
      (try simp only [Act.put])
      (try simp only [List.setIfInBounds_toArray])
      (try simp only [List.set_cons_succ])
      (try simp only [List.set_cons_zero])
      refine wpAnyH_take (i := 9) (oi := { dst := some 59, op := Op.move (Operand.tmp 2), type := 23, pos := "law.go:72", after := #[{ on := 4, ground := Ground.guard }], guard := some (4, false) }) (v := undef) rfl (by kernel_rfl) (by kernel_rfl) (by kernel_rfl) (fun _ _ _ h => h) (Or.inr ⟨by kernel_rfl, rfl⟩) (by assumption) ?dr9
      (try simp only [Act.put])
      (try simp only [List.setIfInBounds_toArray])
      (try simp only [List.set_cons_succ])
      (try simp only [List.set_cons_zero])
      refine wpAnyH_take (i := 10) (oi := { dst := some 60, op := Op.call { callee := Callee.value (Operand.func 14), args := #[Operand.tmp 58, Operand.tmp 59], argTypes := #[28, 23] }, type := 3, pos := "law.go:72", after := #[{ on := 8, ground := Ground.data }, { on := 9, ground := Ground.data }, { on := 7, ground := Ground.chain }, { on := 4, ground := Ground.guard }], guard := some (4, false) }) (v := undef) rfl (by kernel_rfl) (by kernel_rfl) (by kernel_rfl) (fun _ _ _ h => h) (Or.inr ⟨by kernel_rfl, rfl⟩) (by assumption) ?dr10
      (try simp only [Act.put])
      (try simp only [List.setIfInBounds_toArray])
      (try simp only [List.set_cons_succ])
      (try simp only [List.set_cons_zero])
      refine wpAnyH_take (i := 11) (oi := { dst := some 61, op := Op.binOp BinOp.eql 3 (Operand.tmp 57) (Operand.tmp 60) 3, type := 4, pos := "law.go:72", after := #[{ on := 7, ground := Ground.data }, { on := 10, ground := Ground.data }, { on := 4, ground := Ground.guard }], guard := some (4, false) }) (v := undef) rfl (by kernel_rfl) (by kernel_rfl) (by kernel_rfl) (fun _ _ _ h => h) (Or.inr ⟨by kernel_rfl, rfl⟩) (by assumption) ?dr11
      (try simp only [Act.put])
      (try simp only [List.setIfInBounds_toArray])
      (try simp only [List.set_cons_succ])
      (try simp only [List.set_cons_zero])
      refine wpAnyH_take (i := 12) (oi := { dst := some 62, op := Op.pick (Operand.tmp 54) (Operand.const (Value.bool true)) (Operand.tmp 61), type := 4, pos := "law.go:72", after := #[{ on := 4, ground := Ground.data }, { on := 11, ground := Ground.data }], guard := none }) (v := ?dv12) rfl (by kernel_rfl) (by kernel_rfl) (by kernel_rfl) (fun _ _ _ h => h) (Or.inl ⟨by rfl, ?dy12⟩) (by assumption) ?dr12
      case dy12 => (intro w hSw; (try dsimp only at hSw); go_simp; try with_reducible rfl)
      (try simp only [Act.put])
      (try simp only [List.setIfInBounds_toArray])
      (try simp only [List.set_cons_succ])
      (try simp only [List.set_cons_zero])
      refine wpAnyH_take (i := 13) (oi := { dst := some 63, op := Op.move (Operand.tmp 62), type := 4, pos := "law.go:72", after := #[{ on := 12, ground := Ground.data }, { on := 10, ground := Ground.chain }], guard := none }) (v := ?dv13) rfl (by kernel_rfl) (by kernel_rfl) (by kernel_rfl) (fun _ _ _ h => h) (Or.inl ⟨by rfl, ?dy13⟩) (by assumption) ?dr13
      case dy13 => (intro w hSw; (try dsimp only at hSw); go_simp; try with_reducible rfl)
      (try simp only [Act.put])
      (try simp only [List.setIfInBounds_toArray])
      (try simp only [List.set_cons_succ])
      (try simp only [List.set_cons_zero])
      refine wpAnyH_take (i := 14) (oi := { dst := some 64, op := Op.load 28 (Operand.tmp 7), type := 28, pos := "law.go:72", after := #[{ on := 13, ground := Ground.guard }], guard := some (13, true) }) (v := ?dv14) rfl (by kernel_rfl) (by kernel_rfl) (by kernel_rfl) (fun _ _ _ h => h) (Or.inl ⟨by rfl, ?dy14⟩) (by assumption) ?dr14
      case dy14 => (intro w hSw; (try dsimp only at hSw); go_simp; try with_reducible rfl)
      (try simp only [Act.put])
      (try simp only [List.setIfInBounds_toArray])
      (try simp only [List.set_cons_succ])
      (try simp only [List.set_cons_zero])
      refine wpAnyH_take (i := 15) (oi := { dst := some 65, op := Op.load 28 (Operand.tmp 9), type := 28, pos := "law.go:72", after := #[{ on := 13, ground := Ground.guard }], guard := some (13, true) }) (v := ?dv15) rfl (by kernel_rfl) (by kernel_rfl) (by kernel_rfl) (fun _ _ _ h => h) (Or.inl ⟨by rfl, ?dy15⟩) (by assumption) ?dr15
      case dy15 => (intro w hSw; (try dsimp only at hSw); go_simp; try with_reducible rfl)
      (try simp only [Act.put])
      (try simp only [List.setIfInBounds_toArray])
      (try simp only [List.set_cons_succ])
      (try simp only [List.set_cons_zero])
      refine wpAnyH_ready (rs := [16]) (by kernel_rfl) (by simp) ?_
      refine AllReadyH.cons (o := { dst := some 66, op := Op.call { callee := Callee.value (Operand.func 18), args := #[Operand.tmp 64, Operand.tmp 65], argTypes := #[28, 28] }, type := 4, pos := "law.go:72", after := #[{ on := 14, ground := Ground.data }, { on := 15, ground := Ground.data }, { on := 13, ground := Ground.chain }, { on := 13, ground := Ground.guard }], guard := some (13, true) }) rfl (fun K hK => ?_) AllReadyH.nil
      go_simp
      go_at_call 18
      refine (below_is HB.out A1.out.v A2.out.v).mono ?_
      rintro e wn ⟨rfl, hb⟩
      have OB' := Lib.hid (OB.out.below hb)
      have A1' := Lib.hid (A1.out.below hb)
      have P1' := Lib.hid (P1.out.below hb)
      have A2' := Lib.hid (A2.out.below hb)
      have BB' := Lib.hid (BB.out.trans (hb.mono BB.out.size))
      clear OB
      have OB := OB'
      clear OB'
      clear A1
      have A1 := A1'
      clear A1'
      clear P1
      have P1 := P1'
      clear P1'
      clear A2
      have A2 := A2'
      clear A2'
      clear BB
      have BB := BB'
      clear BB'
      clear hb
      go_simp
      refine hK.out _ _ ?_ (fun hHeld => ?_)
      · exact ⟨A1.out.cell, A2.out.cell, OB.out.1.1, OB.out.1.2⟩
      clear hK K
      (try simp only [Act.put])
      (try simp only [List.setIfInBounds_toArray])
      (try simp only [List.set_cons_succ])
      (try simp only [List.set_cons_zero])
      refine wpAnyH_take (i := 17) (oi := { dst := some 67, op := Op.pick (Operand.tmp 63) (Operand.tmp 66) (Operand.const (Value.bool false)), type := 4, pos := "law.go:72", after := #[{ on := 13, ground := Ground.data }, { on := 16, ground := Ground.data }], guard := none }) (v := ?dv17) rfl (by kernel_rfl) (by kernel_rfl) (by kernel_rfl) (fun _ _ _ h => h) (Or.inl ⟨by rfl, ?dy17⟩) (by assumption) ?dr17
      case dy17 => (intro w hSw; (try dsimp only at hSw); go_simp; try with_reducible rfl)
      (try simp only [Act.put])
      (try simp only [List.setIfInBounds_toArray])
      (try simp only [List.set_cons_succ])
      (try simp only [List.set_cons_zero])
      refine wpAnyH_take (i := 18) (oi := { dst := some 68, op := Op.move (Operand.tmp 67), type := 4, pos := "law.go:72", after := #[{ on := 17, ground := Ground.data }, { on := 16, ground := Ground.chain }], guard := none }) (v := ?dv18) rfl (by kernel_rfl) (by kernel_rfl) (by kernel_rfl) (fun _ _ _ h => h) (Or.inl ⟨by rfl, ?dy18⟩) (by assumption) ?dr18
      case dy18 => (intro w hSw; (try dsimp only at hSw); go_simp; try with_reducible rfl)
      (try simp only [Act.put])
      (try simp only [List.setIfInBounds_toArray])
      (try simp only [List.set_cons_succ])
      (try simp only [List.set_cons_zero])
      refine wpAnyH_ready (rs := [19]) (by kernel_rfl) (by simp) ?_
      refine AllReadyH.cons (o := { dst := some 69, op := Op.call { callee := Callee.value (Operand.func 11), args := #[], argTypes := #[] }, type := 4, pos := "law.go:72", after := #[{ on := 18, ground := Ground.chain }, { on := 18, ground := Ground.guard }], guard := some (18, true) }) rfl (fun K hK => ?_) AllReadyH.nil
      go_simp
      go_at_call 11
      refine (awake_any _).mono ?_
      rintro e wn ⟨rfl, hb⟩
      have OB' := Lib.hid (OB.out.below hb)
      have A1' := Lib.hid (A1.out.below hb)
      have P1' := Lib.hid (P1.out.below hb)
      have A2' := Lib.hid (A2.out.below hb)
      have BB' := Lib.hid (BB.out.trans (hb.mono BB.out.size))
      clear OB
      have OB := OB'
      clear OB'
      clear A1
      have A1 := A1'
      clear A1'
      clear P1
      have P1 := P1'
      clear P1'
      clear A2
      have A2 := A2'
      clear A2'
      clear BB
      have BB := BB'
      clear BB'
      clear hb
      go_simp
      refine hK.out _ _ ?_ (fun hHeld => ?_)
      · exact ⟨A1.out.cell, A2.out.cell, OB.out.1.1, OB.out.1.2⟩
      clear hK K
      (try simp only [Act.put])
      (try simp only [List.setIfInBounds_toArray])
      (try simp only [List.set_cons_succ])
      (try simp only [List.set_cons_zero])
      refine wpAnyH_take (i := 20) (oi := { dst := some 70, op := Op.pick (Operand.tmp 68) (Operand.tmp 69) (Operand.const (Value.bool false)), type := 4, pos := "law.go:72", after := #[{ on := 18, ground := Ground.data }, { on := 19, ground := Ground.data }], guard := none }) (v := ?dv20) rfl (by kernel_rfl) (by kernel_rfl) (by kernel_rfl) (fun _ _ _ h => h) (Or.inl ⟨by rfl, ?dy20⟩) (by assumption) ?dr20
      case dy20 => (intro w hSw; (try dsimp only at hSw); go_simp; try with_reducible rfl)
      (try simp only [Act.put])
      (try simp only [List.setIfInBounds_toArray])
      (try simp only [List.set_cons_succ])
      (try simp only [List.set_cons_zero])
      refine wpAnyH_ready (rs := [21]) (by kernel_rfl) (by simp) ?_
      refine AllReadyH.cons (o := { dst := some 6, op := Op.assign (Operand.tmp 70), type := 4, pos := "law.go:72", after := #[{ on := 20, ground := Ground.data }, { on := 19, ground := Ground.chain }, { on := 0, ground := Ground.phase }, { on := 1, ground := Ground.phase }, { on := 2, ground := Ground.phase }, { on := 3, ground := Ground.phase }, { on := 4, ground := Ground.phase }, { on := 5, ground := Ground.phase }, { on := 6, ground := Ground.phase }, { on := 7, ground := Ground.phase }, { on := 8, ground := Ground.phase }, { on := 9, ground := Ground.phase }, { on := 10, ground := Ground.phase }, { on := 11, ground := Ground.phase }, { on := 12, ground := Ground.phase }, { on := 13, ground := Ground.phase }, { on := 14, ground := Ground.phase }, { on := 15, ground := Ground.phase }, { on := 16, ground := Ground.phase }, { on := 17, ground := Ground.phase }, { on := 18, ground := Ground.phase }, { on := 19, ground := Ground.phase }, { on := 20, ground := Ground.phase }], guard := none }) rfl (fun K hK => ?_) AllReadyH.nil
      go_simp
      refine hK.out _ _ ?_ (fun hHeld => ?_)
      · exact ⟨A1.out.cell, A2.out.cell, OB.out.1.1, OB.out.1.2⟩
      clear hK K
      (try simp only [Act.put])
      (try simp only [List.setIfInBounds_toArray])
      (try simp only [List.set_cons_succ])
      (try simp only [List.set_cons_zero])
      refine wpAnyH_done (by kernel_rfl) ?_ _
      go_wp2
      go_ret
      exact ⟨rfl, BB.out⟩
    · skip
      have hax' : (a == x) = false := by simpa using hax
      have C3 := Lib.hid (HO.out hax)
      generalize hc3 : atL m a = c3 at *
      have C4 := Lib.hid hc3
      clear hc3 hax hnl hle
      have OB' := Lib.hid (OB.out.below (Below.refl _ _).drew)
      have A1' := Lib.hid (A1.out.below (Below.refl _ _).drew)
      have P1' := Lib.hid (P1.out.below (Below.refl _ _).drew)
      have A2' := Lib.hid (A2.out.below (Below.refl _ _).drew)
      have BB' := Lib.hid (BB.out.drew)
      clear OB
      have OB := OB'
      clear OB'
      clear A1
      have A1 := A1'
      clear A1'
      clear P1
      have P1 := P1'
      clear P1'
      clear A2
      have A2 := A2'
      clear A2'
      clear BB
      have BB := BB'
      clear BB'
      go_region_held3 (fun w' => w'.cell? ⟨b1, 0, none⟩ = some (.map p1) ∧ w'.cell? ⟨b2, 0, none⟩ = some (.map (some p2)) ∧ w'.cell? ⟨w.heap.size, 0, none⟩ = some (.int .i64 x) ∧ w'.cell? ⟨w.heap.size, 1, none⟩ = some (.int .i64 y))
        (exact ⟨A1.out.cell, A2.out.cell, OB.out.1.1, OB.out.1.2⟩)
        (first
          | (go_at_call 14; (with_reducible refine (at_isB a0 a1 C3.out A2.out.v).mono ?_); rintro e wn ⟨rfl, hb⟩; (first | (have OB' := Lib.hid (OB.out.below hb); clear OB; have OB := OB'; clear OB') | skip); (first | (have A1' := Lib.hid (A1.out.below hb); clear A1; have A1 := A1'; clear A1') | skip); (first | (have P1' := Lib.hid (P1.out.below hb); clear P1; have P1 := P1'; clear P1') | skip); (first | (have A2' := Lib.hid (A2.out.below hb); clear A2; have A2 := A2'; clear A2') | skip); have BB' := Lib.hid (BB.out.trans (hb.mono BB.out.size)); clear BB; have BB := BB'; clear BB'; clear hb)
          | (go_at_call 14; (with_reducible refine (at_isB a0 a1 C4.out A1.out.v).mono ?_); rintro e wn ⟨rfl, hb⟩; (first | (have OB' := Lib.hid (OB.out.below hb); clear OB; have OB := OB'; clear OB') | skip); (first | (have A1' := Lib.hid (A1.out.below hb); clear A1; have A1 := A1'; clear A1') | skip); (first | (have P1' := Lib.hid (P1.out.below hb); clear P1; have P1 := P1'; clear P1') | skip); (first | (have A2' := Lib.hid (A2.out.below hb); clear A2; have A2 := A2'; clear A2') | skip); have BB' := Lib.hid (BB.out.trans (hb.mono BB.out.size)); clear BB; have BB := BB'; clear BB'; clear hb)
          | (go_at_call 18; (with_reducible refine (below_is HB.out A1.out.v A2.out.v).mono ?_); rintro e wn ⟨rfl, hb⟩; (first | (have OB' := Lib.hid (OB.out.below hb); clear OB; have OB := OB'; clear OB') | skip); (first | (have A1' := Lib.hid (A1.out.below hb); clear A1; have A1 := A1'; clear A1') | skip); (first | (have P1' := Lib.hid (P1.out.below hb); clear P1; have P1 := P1'; clear P1') | skip); (first | (have A2' := Lib.hid (A2.out.below hb); clear A2; have A2 := A2'; clear A2') | skip); have BB' := Lib.hid (BB.out.trans (hb.mono BB.out.size)); clear BB; have BB := BB'; clear BB'; clear hb)
          | (go_at_call 11; (with_reducible refine (awake_any _).mono ?_); rintro e wn ⟨rfl, hb⟩; (first | (have OB' := Lib.hid (OB.out.below hb); clear OB; have OB := OB'; clear OB') | skip); (first | (have A1' := Lib.hid (A1.out.below hb); clear A1; have A1 := A1'; clear A1') | skip); (first | (have P1' := Lib.hid (P1.out.below hb); clear P1; have P1 := P1'; clear P1') | skip); (first | (have A2' := Lib.hid (A2.out.below hb); clear A2; have A2 := A2'; clear A2') | skip); have BB' := Lib.hid (BB.out.trans (hb.mono BB.out.size)); clear BB; have BB := BB'; clear BB'; clear hb))
      go_wp2
      go_ret
      exact ⟨rfl, BB.out⟩
end Go.Proofs.Ytapaimoahiplcaa
