/- ViewLattice: the walk. -/
import Derived.Test.YtapaimoahiplcaaMore
namespace Go.Proofs.Ytapaimoahiplcaa
open Go.RowKit Go.Shelf Go.Maps

set_option maxRecDepth 100000 in
set_option maxHeartbeats 8000000 in
theorem lattice (v0 : Value) (ops0 : List (Int × Int)) (v1 : Value) (ops1 : List (Int × Int)) (v2 : Value) (ops2 : List (Int × Int)) (w : World) (h0 : IsOps w v0 ops0) (o0 : OpsOk ops0) (h1 : IsOps w v1 ops1) (o1 : OpsOk ops1) (h2 : IsOps w v2 ops2) (o2 : OpsOk ops2) :
    Calls Try.prog 6 #[v0, v1, v2] w fun e w' => e = .returned (.bool true) ∧ Below w.heap.size w w' := by
  have H0 := Lib.hid h0
  have H1 := Lib.hid h1
  have H2 := Lib.hid h2
  have O0 := Lib.hid o0
  have O1 := Lib.hid o1
  have O2 := Lib.hid o2
  have BB := Lib.hid (Below.refl w.heap.size w)
  clear h0 h1 h2 o0 o1 o2
  go_enter Try.func6, Try.ntmps6
  go_wp2_with fail
  by_cases hg0 : 100 < ops0.length
  · skip
    refine (great_is (r := true) (by simp; omega) H0.out).mono ?_
    rintro e wn ⟨rfl, rfl⟩
    go_wp2_with fail
    refine (awake_any _).mono ?_
    rintro e wn ⟨rfl, hb⟩
    have H0' := Lib.hid (H0.out.below (hb))
    have H1' := Lib.hid (H1.out.below (hb))
    have H2' := Lib.hid (H2.out.below (hb))
    have BB' := Lib.hid (BB.out.trans ((hb).mono BB.out.size))
    clear H0
    have H0 := H0'
    clear H0'
    clear H1
    have H1 := H1'
    clear H1'
    clear H2
    have H2 := H2'
    clear H2'
    clear BB
    have BB := BB'
    clear BB'
    clear hb
    go_wp2
    go_ret
    exact ⟨rfl, BB.out⟩
  · skip
    refine (great_is (r := false) (by simp; omega) H0.out).mono ?_
    rintro e wn ⟨rfl, rfl⟩
    go_wp2_with fail
    by_cases hg1 : 100 < ops1.length
    · skip
      refine (great_is (r := true) (by simp; omega) H1.out).mono ?_
      rintro e wn ⟨rfl, rfl⟩
      go_wp2_with fail
      refine (awake_any _).mono ?_
      rintro e wn ⟨rfl, hb⟩
      have H0' := Lib.hid (H0.out.below (hb))
      have H1' := Lib.hid (H1.out.below (hb))
      have H2' := Lib.hid (H2.out.below (hb))
      have BB' := Lib.hid (BB.out.trans ((hb).mono BB.out.size))
      clear H0
      have H0 := H0'
      clear H0'
      clear H1
      have H1 := H1'
      clear H1'
      clear H2
      have H2 := H2'
      clear H2'
      clear BB
      have BB := BB'
      clear BB'
      clear hb
      go_wp2
      go_ret
      exact ⟨rfl, BB.out⟩
    · skip
      refine (great_is (r := false) (by simp; omega) H1.out).mono ?_
      rintro e wn ⟨rfl, rfl⟩
      go_wp2_with fail
      by_cases hg2 : 100 < ops2.length
      · skip
        refine (great_is (r := true) (by simp; omega) H2.out).mono ?_
        rintro e wn ⟨rfl, rfl⟩
        go_wp2_with fail
        refine (awake_any _).mono ?_
        rintro e wn ⟨rfl, hb⟩
        have H0' := Lib.hid (H0.out.below (hb))
        have H1' := Lib.hid (H1.out.below (hb))
        have H2' := Lib.hid (H2.out.below (hb))
        have BB' := Lib.hid (BB.out.trans ((hb).mono BB.out.size))
        clear H0
        have H0 := H0'
        clear H0'
        clear H1
        have H1 := H1'
        clear H1'
        clear H2
        have H2 := H2'
        clear H2'
        clear BB
        have BB := BB'
        clear BB'
        clear hb
        go_wp2
        go_ret
        exact ⟨rfl, BB.out⟩
      · skip
        refine (great_is (r := false) (by simp; omega) H2.out).mono ?_
        rintro e wn ⟨rfl, rfl⟩
        go_wp2_with fail
        have M0 := Lib.hid (ok_made O0.out)
        have M1 := Lib.hid (ok_made O1.out)
        have M2 := Lib.hid (ok_made O2.out)
        refine (made_any _ _ _ H0.out (by omega) O0.out).mono ?_
        rintro e w1 ⟨p1, m1, rfl, va, qa, hb⟩
        have H0' := Lib.hid (H0.out.below (hb))
        have H1' := Lib.hid (H1.out.below (hb))
        have H2' := Lib.hid (H2.out.below (hb))
        have BB' := Lib.hid (BB.out.trans ((hb).mono BB.out.size))
        clear H0
        have H0 := H0'
        clear H0'
        clear H1
        have H1 := H1'
        clear H1'
        clear H2
        have H2 := H2'
        clear H2'
        clear BB
        have BB := BB'
        clear BB'
        clear hb
        have H0' := Lib.hid (H0.out.below (below_new w1 (.cells #[.map p1] 28)))
        have H1' := Lib.hid (H1.out.below (below_new w1 (.cells #[.map p1] 28)))
        have H2' := Lib.hid (H2.out.below (below_new w1 (.cells #[.map p1] 28)))
        have BB' := Lib.hid (BB.out.trans ((below_new w1 (.cells #[.map p1] 28)).mono BB.out.size))
        clear H0
        have H0 := H0'
        clear H0'
        clear H1
        have H1 := H1'
        clear H1'
        clear H2
        have H2 := H2'
        clear H2'
        clear BB
        have BB := BB'
        clear BB'
        have A1 := Lib.hid (Bx.new va)
        have P1 := Lib.hid (IsP.below qa (below_new w1 (.cells #[.map p1] 28)))
        clear va qa
        go_wp2_with fail
        generalize w1.alloc (.cells #[.map p1] 28) = w1' at *
        generalize w1.heap.size = b1 at *
        clear P1 H0
        refine (made_any _ _ _ H1.out (by omega) O1.out).mono ?_
        rintro e w2 ⟨p2, m2, rfl, va, qa, hb⟩
        have H1' := Lib.hid (H1.out.below (hb))
        have H2' := Lib.hid (H2.out.below (hb))
        have A1' := Lib.hid (A1.out.below (hb))
        have BB' := Lib.hid (BB.out.trans ((hb).mono BB.out.size))
        clear H1
        have H1 := H1'
        clear H1'
        clear H2
        have H2 := H2'
        clear H2'
        clear A1
        have A1 := A1'
        clear A1'
        clear BB
        have BB := BB'
        clear BB'
        clear hb
        have H1' := Lib.hid (H1.out.below (below_new w2 (.cells #[.map p2] 28)))
        have H2' := Lib.hid (H2.out.below (below_new w2 (.cells #[.map p2] 28)))
        have A1' := Lib.hid (A1.out.below (below_new w2 (.cells #[.map p2] 28)))
        have BB' := Lib.hid (BB.out.trans ((below_new w2 (.cells #[.map p2] 28)).mono BB.out.size))
        clear H1
        have H1 := H1'
        clear H1'
        clear H2
        have H2 := H2'
        clear H2'
        clear A1
        have A1 := A1'
        clear A1'
        clear BB
        have BB := BB'
        clear BB'
        have A2 := Lib.hid (Bx.new va)
        have P2 := Lib.hid (IsP.below qa (below_new w2 (.cells #[.map p2] 28)))
        clear va qa
        go_wp2_with fail
        generalize w2.alloc (.cells #[.map p2] 28) = w2' at *
        generalize w2.heap.size = b2 at *
        clear P2 H1
        refine (made_any _ _ _ H2.out (by omega) O2.out).mono ?_
        rintro e w3 ⟨p3, m3, rfl, va, qa, hb⟩
        have H2' := Lib.hid (H2.out.below (hb))
        have A1' := Lib.hid (A1.out.below (hb))
        have A2' := Lib.hid (A2.out.below (hb))
        have BB' := Lib.hid (BB.out.trans ((hb).mono BB.out.size))
        clear H2
        have H2 := H2'
        clear H2'
        clear A1
        have A1 := A1'
        clear A1'
        clear A2
        have A2 := A2'
        clear A2'
        clear BB
        have BB := BB'
        clear BB'
        clear hb
        have H2' := Lib.hid (H2.out.below (below_new w3 (.cells #[.map p3] 28)))
        have A1' := Lib.hid (A1.out.below (below_new w3 (.cells #[.map p3] 28)))
        have A2' := Lib.hid (A2.out.below (below_new w3 (.cells #[.map p3] 28)))
        have BB' := Lib.hid (BB.out.trans ((below_new w3 (.cells #[.map p3] 28)).mono BB.out.size))
        clear H2
        have H2 := H2'
        clear H2'
        clear A1
        have A1 := A1'
        clear A1'
        clear A2
        have A2 := A2'
        clear A2'
        clear BB
        have BB := BB'
        clear BB'
        have A3 := Lib.hid (Bx.new va)
        have P3 := Lib.hid (IsP.below qa (below_new w3 (.cells #[.map p3] 28)))
        clear va qa
        have kc0 := A1.out.cell
        have kc1 := A2.out.cell
        go_wp2_with fail
        clear kc0
        clear kc1
        generalize w3.alloc (.cells #[.map p3] 28) = w3' at *
        generalize w3.heap.size = b3 at *
        clear P3 H2
        generalize madeL ops0 = mx at *
        generalize madeL ops1 = my at *
        generalize madeL ops2 = mz at *
        clear O0 O1 O2 hg0 hg1 hg2
        refine (join_any _ _ _ _ _ A1.out.v A2.out.v).mono ?_
        rintro e w4 ⟨p4, h4, rfl, va, hb⟩
        have A1' := Lib.hid (A1.out.below (hb))
        have A2' := Lib.hid (A2.out.below (hb))
        have A3' := Lib.hid (A3.out.below (hb))
        have BB' := Lib.hid (BB.out.trans ((hb).mono BB.out.size))
        clear A1
        have A1 := A1'
        clear A1'
        clear A2
        have A2 := A2'
        clear A2'
        clear A3
        have A3 := A3'
        clear A3'
        clear BB
        have BB := BB'
        clear BB'
        clear hb
        clear h4
        have A1' := Lib.hid (A1.out.below (below_new w4 (.cells #[.map (some p4)] 28)))
        have A2' := Lib.hid (A2.out.below (below_new w4 (.cells #[.map (some p4)] 28)))
        have A3' := Lib.hid (A3.out.below (below_new w4 (.cells #[.map (some p4)] 28)))
        have BB' := Lib.hid (BB.out.trans ((below_new w4 (.cells #[.map (some p4)] 28)).mono BB.out.size))
        clear A1
        have A1 := A1'
        clear A1'
        clear A2
        have A2 := A2'
        clear A2'
        clear A3
        have A3 := A3'
        clear A3'
        clear BB
        have BB := BB'
        clear BB'
        have A4 := Lib.hid (Bx.new va)
        clear va 
        go_wp2_with fail
        generalize w4.alloc (.cells #[.map (some p4)] 28) = w4' at *
        generalize w4.heap.size = b4 at *
        have A1' := Lib.hid (A1.out.below (Below.refl _ _).drew)
        have A2' := Lib.hid (A2.out.below (Below.refl _ _).drew)
        have A3' := Lib.hid (A3.out.below (Below.refl _ _).drew)
        have A4' := Lib.hid (A4.out.below (Below.refl _ _).drew)
        have BB' := Lib.hid (BB.out.drew)
        clear A1
        have A1 := A1'
        clear A1'
        clear A2
        have A2 := A2'
        clear A2'
        clear A3
        have A3 := A3'
        clear A3'
        clear A4
        have A4 := A4'
        clear A4'
        clear BB
        have BB := BB'
        clear BB'
        refine wp_region_held_drew (S := fun w' => w'.cell? ⟨b1, 0, none⟩ = some (.map p1) ∧ w'.cell? ⟨b2, 0, none⟩ = some (.map p2) ∧ w'.cell? ⟨b3, 0, none⟩ = some (.map p3) ∧ w'.cell? ⟨b4, 0, none⟩ = some (.map (some p4))) (by kernel_rfl) ⟨A1.out.cell, A2.out.cell, A3.out.cell, A4.out.cell⟩ (fun hHeld => ?_)
        refine wpAnyH_take (i := 0) (oi := { dst := some 44, op := Op.load 28 (Operand.tmp 13), type := 28, pos := "law.go:95", after := #[], guard := none }) (v := ?dv0) rfl (by kernel_rfl) (by kernel_rfl) (by kernel_rfl) (fun _ _ _ h => h) (Or.inl ⟨by rfl, ?dy0⟩) (by assumption) ?dr0
        case dy0 => (intro w hSw; (try dsimp only at hSw); go_simp; try with_reducible rfl)
        (try simp only [Act.put])
        (try simp only [List.setIfInBounds_toArray])
        (try simp only [List.set_cons_succ])
        (try simp only [List.set_cons_zero])
        refine wpAnyH_take (i := 1) (oi := { dst := some 45, op := Op.load 28 (Operand.tmp 9), type := 28, pos := "law.go:95", after := #[], guard := none }) (v := ?dv1) rfl (by kernel_rfl) (by kernel_rfl) (by kernel_rfl) (fun _ _ _ h => h) (Or.inl ⟨by rfl, ?dy1⟩) (by assumption) ?dr1
        case dy1 => (intro w hSw; (try dsimp only at hSw); go_simp; try with_reducible rfl)
        (try simp only [Act.put])
        (try simp only [List.setIfInBounds_toArray])
        (try simp only [List.set_cons_succ])
        (try simp only [List.set_cons_zero])
        refine wpAnyH_take (i := 2) (oi := { dst := some 46, op := Op.load 28 (Operand.tmp 7), type := 28, pos := "law.go:95", after := #[], guard := none }) (v := ?dv2) rfl (by kernel_rfl) (by kernel_rfl) (by kernel_rfl) (fun _ _ _ h => h) (Or.inl ⟨by rfl, ?dy2⟩) (by assumption) ?dr2
        case dy2 => (intro w hSw; (try dsimp only at hSw); go_simp; try with_reducible rfl)
        (try simp only [Act.put])
        (try simp only [List.setIfInBounds_toArray])
        (try simp only [List.set_cons_succ])
        (try simp only [List.set_cons_zero])
        refine wpAnyH_ready (rs := [3]) (by kernel_rfl) (by simp) ?_
        refine AllReadyH.cons (o := { dst := some 47, op := Op.call { callee := Callee.value (Operand.func 20), args := #[Operand.tmp 45, Operand.tmp 46], argTypes := #[28, 28] }, type := 28, pos := "law.go:95", after := #[{ on := 1, ground := Ground.data }, { on := 2, ground := Ground.data }], guard := none }) rfl (fun K hK => ?_) AllReadyH.nil
        go_simp
        go_at_call 20
        refine (join_any _ _ _ _ _ A2.out.v A1.out.v).mono ?_
        rintro e wn4 ⟨q4, h, rfl, va, hb⟩
        have A1' := Lib.hid (A1.out.below hb)
        have A2' := Lib.hid (A2.out.below hb)
        have A3' := Lib.hid (A3.out.below hb)
        have A4' := Lib.hid (A4.out.below hb)
        have BB' := Lib.hid (BB.out.trans (hb.mono BB.out.size))
        clear A1
        have A1 := A1'
        clear A1'
        clear A2
        have A2 := A2'
        clear A2'
        clear A3
        have A3 := A3'
        clear A3'
        clear A4
        have A4 := A4'
        clear A4'
        clear BB
        have BB := BB'
        clear BB'
        clear hb
        clear h
        have V4 := Lib.hid va
        clear va
        go_simp
        refine hK.out _ _ ?_ (fun hHeld => ?_)
        · exact ⟨A1.out.cell, A2.out.cell, A3.out.cell, A4.out.cell⟩
        clear hK K
        (try simp only [Act.put])
        (try simp only [List.setIfInBounds_toArray])
        (try simp only [List.set_cons_succ])
        (try simp only [List.set_cons_zero])
        refine wpAnyH_ready (rs := [4]) (by kernel_rfl) (by simp) ?_
        refine AllReadyH.cons (o := { dst := some 48, op := Op.call { callee := Callee.value (Operand.func 22), args := #[Operand.tmp 44, Operand.tmp 47], argTypes := #[28, 28] }, type := 4, pos := "law.go:95", after := #[{ on := 0, ground := Ground.data }, { on := 3, ground := Ground.data }, { on := 3, ground := Ground.chain }], guard := none }) rfl (fun K hK => ?_) AllReadyH.nil
        go_simp
        go_at_call 22
        refine (same_is (r := true) (by rw [join_comm M0.out M1.out]; simp) A4.out.v V4.out).mono ?_
        rintro e wn ⟨rfl, hb⟩
        have A1' := Lib.hid (A1.out.below hb)
        have A2' := Lib.hid (A2.out.below hb)
        have A3' := Lib.hid (A3.out.below hb)
        have A4' := Lib.hid (A4.out.below hb)
        have V4' := Lib.hid (V4.out.below hb)
        have BB' := Lib.hid (BB.out.trans (hb.mono BB.out.size))
        clear A1
        have A1 := A1'
        clear A1'
        clear A2
        have A2 := A2'
        clear A2'
        clear A3
        have A3 := A3'
        clear A3'
        clear A4
        have A4 := A4'
        clear A4'
        clear V4
        have V4 := V4'
        clear V4'
        clear BB
        have BB := BB'
        clear BB'
        clear hb
        go_simp
        refine hK.out _ _ ?_ (fun hHeld => ?_)
        · exact ⟨A1.out.cell, A2.out.cell, A3.out.cell, A4.out.cell⟩
        clear hK K
        (try simp only [Act.put])
        (try simp only [List.setIfInBounds_toArray])
        (try simp only [List.set_cons_succ])
        (try simp only [List.set_cons_zero])
        refine wpAnyH_take (i := 5) (oi := { dst := some 49, op := Op.unOp UnOp.not 4 (Operand.tmp 48), type := 4, pos := "law.go:95", after := #[{ on := 4, ground := Ground.data }], guard := none }) (v := ?dv5) rfl (by kernel_rfl) (by kernel_rfl) (by kernel_rfl) (fun _ _ _ h => h) (Or.inl ⟨by rfl, ?dy5⟩) (by assumption) ?dr5
        case dy5 => (intro w hSw; (try dsimp only at hSw); go_simp; try with_reducible rfl)
        (try simp only [Act.put])
        (try simp only [List.setIfInBounds_toArray])
        (try simp only [List.set_cons_succ])
        (try simp only [List.set_cons_zero])
        refine wpAnyH_take (i := 6) (oi := { dst := some 50, op := Op.move (Operand.tmp 49), type := 4, pos := "law.go:95", after := #[{ on := 5, ground := Ground.data }, { on := 4, ground := Ground.chain }], guard := none }) (v := ?dv6) rfl (by kernel_rfl) (by kernel_rfl) (by kernel_rfl) (fun _ _ _ h => h) (Or.inl ⟨by rfl, ?dy6⟩) (by assumption) ?dr6
        case dy6 => (intro w hSw; (try dsimp only at hSw); go_simp; try with_reducible rfl)
        (try simp only [Act.put])
        (try simp only [List.setIfInBounds_toArray])
        (try simp only [List.set_cons_succ])
        (try simp only [List.set_cons_zero])
        refine wpAnyH_take (i := 7) (oi := { dst := some 51, op := Op.load 28 (Operand.tmp 13), type := 28, pos := "law.go:95", after := #[{ on := 6, ground := Ground.guard }], guard := some (6, false) }) (v := ?dv7) rfl (by kernel_rfl) (by kernel_rfl) (by kernel_rfl) (fun _ _ _ h => h) (Or.inl ⟨by rfl, ?dy7⟩) (by assumption) ?dr7
        case dy7 => (intro w hSw; (try dsimp only at hSw); go_simp; try with_reducible rfl)
        (try simp only [Act.put])
        (try simp only [List.setIfInBounds_toArray])
        (try simp only [List.set_cons_succ])
        (try simp only [List.set_cons_zero])
        refine wpAnyH_take (i := 8) (oi := { dst := some 52, op := Op.load 28 (Operand.tmp 11), type := 28, pos := "law.go:95", after := #[{ on := 6, ground := Ground.guard }], guard := some (6, false) }) (v := ?dv8) rfl (by kernel_rfl) (by kernel_rfl) (by kernel_rfl) (fun _ _ _ h => h) (Or.inl ⟨by rfl, ?dy8⟩) (by assumption) ?dr8
        case dy8 => (intro w hSw; (try dsimp only at hSw); go_simp; try with_reducible rfl)
        (try simp only [Act.put])
        (try simp only [List.setIfInBounds_toArray])
        (try simp only [List.set_cons_succ])
        (try simp only [List.set_cons_zero])
        refine wpAnyH_take (i := 10) (oi := { dst := some 54, op := Op.load 28 (Operand.tmp 7), type := 28, pos := "law.go:95", after := #[{ on := 6, ground := Ground.guard }], guard := some (6, false) }) (v := ?dv10) rfl (by kernel_rfl) (by kernel_rfl) (by kernel_rfl) (fun _ _ _ h => h) (Or.inl ⟨by rfl, ?dy10⟩) (by assumption) ?dr10
        case dy10 => (intro w hSw; (try dsimp only at hSw); go_simp; try with_reducible rfl)
        (try simp only [Act.put])
        (try simp only [List.setIfInBounds_toArray])
        (try simp only [List.set_cons_succ])
        (try simp only [List.set_cons_zero])
        refine wpAnyH_take (i := 11) (oi := { dst := some 55, op := Op.load 28 (Operand.tmp 9), type := 28, pos := "law.go:95", after := #[{ on := 6, ground := Ground.guard }], guard := some (6, false) }) (v := ?dv11) rfl (by kernel_rfl) (by kernel_rfl) (by kernel_rfl) (fun _ _ _ h => h) (Or.inl ⟨by rfl, ?dy11⟩) (by assumption) ?dr11
        case dy11 => (intro w hSw; (try dsimp only at hSw); go_simp; try with_reducible rfl)
        (try simp only [Act.put])
        (try simp only [List.setIfInBounds_toArray])
        (try simp only [List.set_cons_succ])
        (try simp only [List.set_cons_zero])
        refine wpAnyH_take (i := 12) (oi := { dst := some 56, op := Op.load 28 (Operand.tmp 11), type := 28, pos := "law.go:95", after := #[{ on := 6, ground := Ground.guard }], guard := some (6, false) }) (v := ?dv12) rfl (by kernel_rfl) (by kernel_rfl) (by kernel_rfl) (fun _ _ _ h => h) (Or.inl ⟨by rfl, ?dy12⟩) (by assumption) ?dr12
        case dy12 => (intro w hSw; (try dsimp only at hSw); go_simp; try with_reducible rfl)
        (try simp only [Act.put])
        (try simp only [List.setIfInBounds_toArray])
        (try simp only [List.set_cons_succ])
        (try simp only [List.set_cons_zero])
        refine wpAnyH_ready (rs := [9]) (by kernel_rfl) (by simp) ?_
        refine AllReadyH.cons (o := { dst := some 53, op := Op.call { callee := Callee.value (Operand.func 20), args := #[Operand.tmp 51, Operand.tmp 52], argTypes := #[28, 28] }, type := 28, pos := "law.go:95", after := #[{ on := 7, ground := Ground.data }, { on := 8, ground := Ground.data }, { on := 6, ground := Ground.chain }, { on := 6, ground := Ground.guard }], guard := some (6, false) }) rfl (fun K hK => ?_) AllReadyH.nil
        go_simp
        go_at_call 20
        refine (join_any _ _ _ _ _ A4.out.v A3.out.v).mono ?_
        rintro e wn5 ⟨q5, h, rfl, va, hb⟩
        have A1' := Lib.hid (A1.out.below hb)
        have A2' := Lib.hid (A2.out.below hb)
        have A3' := Lib.hid (A3.out.below hb)
        have A4' := Lib.hid (A4.out.below hb)
        have V4' := Lib.hid (V4.out.below hb)
        have BB' := Lib.hid (BB.out.trans (hb.mono BB.out.size))
        clear A1
        have A1 := A1'
        clear A1'
        clear A2
        have A2 := A2'
        clear A2'
        clear A3
        have A3 := A3'
        clear A3'
        clear A4
        have A4 := A4'
        clear A4'
        clear V4
        have V4 := V4'
        clear V4'
        clear BB
        have BB := BB'
        clear BB'
        clear hb
        clear h
        have V5 := Lib.hid va
        clear va
        go_simp
        refine hK.out _ _ ?_ (fun hHeld => ?_)
        · exact ⟨A1.out.cell, A2.out.cell, A3.out.cell, A4.out.cell⟩
        clear hK K
        (try simp only [Act.put])
        (try simp only [List.setIfInBounds_toArray])
        (try simp only [List.set_cons_succ])
        (try simp only [List.set_cons_zero])
        refine wpAnyH_ready (rs := [13]) (by kernel_rfl) (by simp) ?_
        refine AllReadyH.cons (o := { dst := some 57, op := Op.call { callee := Callee.value (Operand.func 20), args := #[Operand.tmp 55, Operand.tmp 56], argTypes := #[28, 28] }, type := 28, pos := "law.go:95", after := #[{ on := 11, ground := Ground.data }, { on := 12, ground := Ground.data }, { on := 9, ground := Ground.chain }, { on := 6, ground := Ground.guard }], guard := some (6, false) }) rfl (fun K hK => ?_) AllReadyH.nil
        go_simp
        go_at_call 20
        refine (join_any _ _ _ _ _ A2.out.v A3.out.v).mono ?_
        rintro e wn6 ⟨q6, h, rfl, va, hb⟩
        have A1' := Lib.hid (A1.out.below hb)
        have A2' := Lib.hid (A2.out.below hb)
        have A3' := Lib.hid (A3.out.below hb)
        have A4' := Lib.hid (A4.out.below hb)
        have V4' := Lib.hid (V4.out.below hb)
        have V5' := Lib.hid (V5.out.below hb)
        have BB' := Lib.hid (BB.out.trans (hb.mono BB.out.size))
        clear A1
        have A1 := A1'
        clear A1'
        clear A2
        have A2 := A2'
        clear A2'
        clear A3
        have A3 := A3'
        clear A3'
        clear A4
        have A4 := A4'
        clear A4'
        clear V4
        have V4 := V4'
        clear V4'
        clear V5
        have V5 := V5'
        clear V5'
        clear BB
        have BB := BB'
        clear BB'
        clear hb
        clear h
        have V6 := Lib.hid va
        clear va
        go_simp
        refine hK.out _ _ ?_ (fun hHeld => ?_)
        · exact ⟨A1.out.cell, A2.out.cell, A3.out.cell, A4.out.cell⟩
        clear hK K
        (try simp only [Act.put])
        (try simp only [List.setIfInBounds_toArray])
        (try simp only [List.set_cons_succ])
        (try simp only [List.set_cons_zero])
        refine wpAnyH_ready (rs := [14]) (by kernel_rfl) (by simp) ?_
        refine AllReadyH.cons (o := { dst := some 58, op := Op.call { callee := Callee.value (Operand.func 20), args := #[Operand.tmp 54, Operand.tmp 57], argTypes := #[28, 28] }, type := 28, pos := "law.go:95", after := #[{ on := 10, ground := Ground.data }, { on := 13, ground := Ground.data }, { on := 13, ground := Ground.chain }, { on := 6, ground := Ground.guard }], guard := some (6, false) }) rfl (fun K hK => ?_) AllReadyH.nil
        go_simp
        go_at_call 20
        refine (join_any _ _ _ _ _ A1.out.v V6.out).mono ?_
        rintro e wn7 ⟨q7, h, rfl, va, hb⟩
        have A1' := Lib.hid (A1.out.below hb)
        have A2' := Lib.hid (A2.out.below hb)
        have A3' := Lib.hid (A3.out.below hb)
        have A4' := Lib.hid (A4.out.below hb)
        have V4' := Lib.hid (V4.out.below hb)
        have V5' := Lib.hid (V5.out.below hb)
        have V6' := Lib.hid (V6.out.below hb)
        have BB' := Lib.hid (BB.out.trans (hb.mono BB.out.size))
        clear A1
        have A1 := A1'
        clear A1'
        clear A2
        have A2 := A2'
        clear A2'
        clear A3
        have A3 := A3'
        clear A3'
        clear A4
        have A4 := A4'
        clear A4'
        clear V4
        have V4 := V4'
        clear V4'
        clear V5
        have V5 := V5'
        clear V5'
        clear V6
        have V6 := V6'
        clear V6'
        clear BB
        have BB := BB'
        clear BB'
        clear hb
        clear h
        have V7 := Lib.hid va
        clear va
        go_simp
        refine hK.out _ _ ?_ (fun hHeld => ?_)
        · exact ⟨A1.out.cell, A2.out.cell, A3.out.cell, A4.out.cell⟩
        clear hK K
        (try simp only [Act.put])
        (try simp only [List.setIfInBounds_toArray])
        (try simp only [List.set_cons_succ])
        (try simp only [List.set_cons_zero])
        refine wpAnyH_ready (rs := [15]) (by kernel_rfl) (by simp) ?_
        refine AllReadyH.cons (o := { dst := some 59, op := Op.call { callee := Callee.value (Operand.func 22), args := #[Operand.tmp 53, Operand.tmp 58], argTypes := #[28, 28] }, type := 4, pos := "law.go:95", after := #[{ on := 9, ground := Ground.data }, { on := 14, ground := Ground.data }, { on := 14, ground := Ground.chain }, { on := 6, ground := Ground.guard }], guard := some (6, false) }) rfl (fun K hK => ?_) AllReadyH.nil
        go_simp
        go_at_call 22
        refine (same_is (r := true) (by rw [join_assoc M0.out M1.out M2.out]; simp) V5.out V7.out).mono ?_
        rintro e wn ⟨rfl, hb⟩
        have A1' := Lib.hid (A1.out.below hb)
        have A2' := Lib.hid (A2.out.below hb)
        have A3' := Lib.hid (A3.out.below hb)
        have A4' := Lib.hid (A4.out.below hb)
        have V4' := Lib.hid (V4.out.below hb)
        have V5' := Lib.hid (V5.out.below hb)
        have V6' := Lib.hid (V6.out.below hb)
        have V7' := Lib.hid (V7.out.below hb)
        have BB' := Lib.hid (BB.out.trans (hb.mono BB.out.size))
        clear A1
        have A1 := A1'
        clear A1'
        clear A2
        have A2 := A2'
        clear A2'
        clear A3
        have A3 := A3'
        clear A3'
        clear A4
        have A4 := A4'
        clear A4'
        clear V4
        have V4 := V4'
        clear V4'
        clear V5
        have V5 := V5'
        clear V5'
        clear V6
        have V6 := V6'
        clear V6'
        clear V7
        have V7 := V7'
        clear V7'
        clear BB
        have BB := BB'
        clear BB'
        clear hb
        go_simp
        refine hK.out _ _ ?_ (fun hHeld => ?_)
        · exact ⟨A1.out.cell, A2.out.cell, A3.out.cell, A4.out.cell⟩
        clear hK K
        (try simp only [Act.put])
        (try simp only [List.setIfInBounds_toArray])
        (try simp only [List.set_cons_succ])
        (try simp only [List.set_cons_zero])
        refine wpAnyH_take (i := 16) (oi := { dst := some 60, op := Op.unOp UnOp.not 4 (Operand.tmp 59), type := 4, pos := "law.go:95", after := #[{ on := 15, ground := Ground.data }, { on := 6, ground := Ground.guard }], guard := some (6, false) }) (v := ?dv16) rfl (by kernel_rfl) (by kernel_rfl) (by kernel_rfl) (fun _ _ _ h => h) (Or.inl ⟨by rfl, ?dy16⟩) (by assumption) ?dr16
        case dy16 => (intro w hSw; (try dsimp only at hSw); go_simp; try with_reducible rfl)
        (try simp only [Act.put])
        (try simp only [List.setIfInBounds_toArray])
        (try simp only [List.set_cons_succ])
        (try simp only [List.set_cons_zero])
        refine wpAnyH_take (i := 17) (oi := { dst := some 61, op := Op.pick (Operand.tmp 50) (Operand.const (Value.bool true)) (Operand.tmp 60), type := 4, pos := "law.go:95", after := #[{ on := 6, ground := Ground.data }, { on := 16, ground := Ground.data }], guard := none }) (v := ?dv17) rfl (by kernel_rfl) (by kernel_rfl) (by kernel_rfl) (fun _ _ _ h => h) (Or.inl ⟨by rfl, ?dy17⟩) (by assumption) ?dr17
        case dy17 => (intro w hSw; (try dsimp only at hSw); go_simp; try with_reducible rfl)
        (try simp only [Act.put])
        (try simp only [List.setIfInBounds_toArray])
        (try simp only [List.set_cons_succ])
        (try simp only [List.set_cons_zero])
        refine wpAnyH_take (i := 18) (oi := { dst := some 62, op := Op.move (Operand.tmp 61), type := 4, pos := "law.go:95", after := #[{ on := 17, ground := Ground.data }, { on := 15, ground := Ground.chain }], guard := none }) (v := ?dv18) rfl (by kernel_rfl) (by kernel_rfl) (by kernel_rfl) (fun _ _ _ h => h) (Or.inl ⟨by rfl, ?dy18⟩) (by assumption) ?dr18
        case dy18 => (intro w hSw; (try dsimp only at hSw); go_simp; try with_reducible rfl)
        (try simp only [Act.put])
        (try simp only [List.setIfInBounds_toArray])
        (try simp only [List.set_cons_succ])
        (try simp only [List.set_cons_zero])
        refine wpAnyH_take (i := 19) (oi := { dst := some 63, op := Op.load 28 (Operand.tmp 13), type := 28, pos := "law.go:95", after := #[{ on := 18, ground := Ground.guard }], guard := some (18, false) }) (v := ?dv19) rfl (by kernel_rfl) (by kernel_rfl) (by kernel_rfl) (fun _ _ _ h => h) (Or.inl ⟨by rfl, ?dy19⟩) (by assumption) ?dr19
        case dy19 => (intro w hSw; (try dsimp only at hSw); go_simp; try with_reducible rfl)
        (try simp only [Act.put])
        (try simp only [List.setIfInBounds_toArray])
        (try simp only [List.set_cons_succ])
        (try simp only [List.set_cons_zero])
        refine wpAnyH_take (i := 20) (oi := { dst := some 64, op := Op.load 28 (Operand.tmp 7), type := 28, pos := "law.go:95", after := #[{ on := 18, ground := Ground.guard }], guard := some (18, false) }) (v := ?dv20) rfl (by kernel_rfl) (by kernel_rfl) (by kernel_rfl) (fun _ _ _ h => h) (Or.inl ⟨by rfl, ?dy20⟩) (by assumption) ?dr20
        case dy20 => (intro w hSw; (try dsimp only at hSw); go_simp; try with_reducible rfl)
        (try simp only [Act.put])
        (try simp only [List.setIfInBounds_toArray])
        (try simp only [List.set_cons_succ])
        (try simp only [List.set_cons_zero])
        refine wpAnyH_take (i := 22) (oi := { dst := some 66, op := Op.load 28 (Operand.tmp 13), type := 28, pos := "law.go:95", after := #[{ on := 18, ground := Ground.guard }], guard := some (18, false) }) (v := ?dv22) rfl (by kernel_rfl) (by kernel_rfl) (by kernel_rfl) (fun _ _ _ h => h) (Or.inl ⟨by rfl, ?dy22⟩) (by assumption) ?dr22
        case dy22 => (intro w hSw; (try dsimp only at hSw); go_simp; try with_reducible rfl)
        (try simp only [Act.put])
        (try simp only [List.setIfInBounds_toArray])
        (try simp only [List.set_cons_succ])
        (try simp only [List.set_cons_zero])
        refine wpAnyH_ready (rs := [21]) (by kernel_rfl) (by simp) ?_
        refine AllReadyH.cons (o := { dst := some 65, op := Op.call { callee := Callee.value (Operand.func 20), args := #[Operand.tmp 63, Operand.tmp 64], argTypes := #[28, 28] }, type := 28, pos := "law.go:95", after := #[{ on := 19, ground := Ground.data }, { on := 20, ground := Ground.data }, { on := 18, ground := Ground.chain }, { on := 18, ground := Ground.guard }], guard := some (18, false) }) rfl (fun K hK => ?_) AllReadyH.nil
        go_simp
        go_at_call 20
        refine (join_any _ _ _ _ _ A4.out.v A1.out.v).mono ?_
        rintro e wn8 ⟨q8, h, rfl, va, hb⟩
        have A1' := Lib.hid (A1.out.below hb)
        have A2' := Lib.hid (A2.out.below hb)
        have A3' := Lib.hid (A3.out.below hb)
        have A4' := Lib.hid (A4.out.below hb)
        have V4' := Lib.hid (V4.out.below hb)
        have V5' := Lib.hid (V5.out.below hb)
        have V6' := Lib.hid (V6.out.below hb)
        have V7' := Lib.hid (V7.out.below hb)
        have BB' := Lib.hid (BB.out.trans (hb.mono BB.out.size))
        clear A1
        have A1 := A1'
        clear A1'
        clear A2
        have A2 := A2'
        clear A2'
        clear A3
        have A3 := A3'
        clear A3'
        clear A4
        have A4 := A4'
        clear A4'
        clear V4
        have V4 := V4'
        clear V4'
        clear V5
        have V5 := V5'
        clear V5'
        clear V6
        have V6 := V6'
        clear V6'
        clear V7
        have V7 := V7'
        clear V7'
        clear BB
        have BB := BB'
        clear BB'
        clear hb
        clear h
        have V8 := Lib.hid va
        clear va
        go_simp
        refine hK.out _ _ ?_ (fun hHeld => ?_)
        · exact ⟨A1.out.cell, A2.out.cell, A3.out.cell, A4.out.cell⟩
        clear hK K
        (try simp only [Act.put])
        (try simp only [List.setIfInBounds_toArray])
        (try simp only [List.set_cons_succ])
        (try simp only [List.set_cons_zero])
        refine wpAnyH_ready (rs := [23]) (by kernel_rfl) (by simp) ?_
        refine AllReadyH.cons (o := { dst := some 67, op := Op.call { callee := Callee.value (Operand.func 22), args := #[Operand.tmp 65, Operand.tmp 66], argTypes := #[28, 28] }, type := 4, pos := "law.go:95", after := #[{ on := 21, ground := Ground.data }, { on := 22, ground := Ground.data }, { on := 21, ground := Ground.chain }, { on := 18, ground := Ground.guard }], guard := some (18, false) }) rfl (fun K hK => ?_) AllReadyH.nil
        go_simp
        go_at_call 22
        refine (same_is (r := true) (by rw [join_idem M0.out M1.out]; simp) V8.out A4.out.v).mono ?_
        rintro e wn ⟨rfl, hb⟩
        have A1' := Lib.hid (A1.out.below hb)
        have A2' := Lib.hid (A2.out.below hb)
        have A3' := Lib.hid (A3.out.below hb)
        have A4' := Lib.hid (A4.out.below hb)
        have V4' := Lib.hid (V4.out.below hb)
        have V5' := Lib.hid (V5.out.below hb)
        have V6' := Lib.hid (V6.out.below hb)
        have V7' := Lib.hid (V7.out.below hb)
        have V8' := Lib.hid (V8.out.below hb)
        have BB' := Lib.hid (BB.out.trans (hb.mono BB.out.size))
        clear A1
        have A1 := A1'
        clear A1'
        clear A2
        have A2 := A2'
        clear A2'
        clear A3
        have A3 := A3'
        clear A3'
        clear A4
        have A4 := A4'
        clear A4'
        clear V4
        have V4 := V4'
        clear V4'
        clear V5
        have V5 := V5'
        clear V5'
        clear V6
        have V6 := V6'
        clear V6'
        clear V7
        have V7 := V7'
        clear V7'
        clear V8
        have V8 := V8'
        clear V8'
        clear BB
        have BB := BB'
        clear BB'
        clear hb
        go_simp
        refine hK.out _ _ ?_ (fun hHeld => ?_)
        · exact ⟨A1.out.cell, A2.out.cell, A3.out.cell, A4.out.cell⟩
        clear hK K
        (try simp only [Act.put])
        (try simp only [List.setIfInBounds_toArray])
        (try simp only [List.set_cons_succ])
        (try simp only [List.set_cons_zero])
        refine wpAnyH_take (i := 24) (oi := { dst := some 68, op := Op.unOp UnOp.not 4 (Operand.tmp 67), type := 4, pos := "law.go:95", after := #[{ on := 23, ground := Ground.data }, { on := 18, ground := Ground.guard }], guard := some (18, false) }) (v := ?dv24) rfl (by kernel_rfl) (by kernel_rfl) (by kernel_rfl) (fun _ _ _ h => h) (Or.inl ⟨by rfl, ?dy24⟩) (by assumption) ?dr24
        case dy24 => (intro w hSw; (try dsimp only at hSw); go_simp; try with_reducible rfl)
        (try simp only [Act.put])
        (try simp only [List.setIfInBounds_toArray])
        (try simp only [List.set_cons_succ])
        (try simp only [List.set_cons_zero])
        refine wpAnyH_take (i := 25) (oi := { dst := some 69, op := Op.pick (Operand.tmp 62) (Operand.const (Value.bool true)) (Operand.tmp 68), type := 4, pos := "law.go:95", after := #[{ on := 18, ground := Ground.data }, { on := 24, ground := Ground.data }], guard := none }) (v := ?dv25) rfl (by kernel_rfl) (by kernel_rfl) (by kernel_rfl) (fun _ _ _ h => h) (Or.inl ⟨by rfl, ?dy25⟩) (by assumption) ?dr25
        case dy25 => (intro w hSw; (try dsimp only at hSw); go_simp; try with_reducible rfl)
        (try simp only [Act.put])
        (try simp only [List.setIfInBounds_toArray])
        (try simp only [List.set_cons_succ])
        (try simp only [List.set_cons_zero])
        refine wpAnyH_done (by kernel_rfl) ?_ _
        clear V4 V5 V6 V7 V8
        have kc0 := A1.out.cell
        have kc1 := A4.out.cell
        go_wp2_with fail
        clear kc0
        clear kc1
        refine (below_is (r := true) (below_left M0.out M1.out) A1.out.v A4.out.v).mono ?_
        rintro e wn ⟨rfl, hb⟩
        have A1' := Lib.hid (A1.out.below (hb))
        have A2' := Lib.hid (A2.out.below (hb))
        have A3' := Lib.hid (A3.out.below (hb))
        have A4' := Lib.hid (A4.out.below (hb))
        have BB' := Lib.hid (BB.out.trans ((hb).mono BB.out.size))
        clear A1
        have A1 := A1'
        clear A1'
        clear A2
        have A2 := A2'
        clear A2'
        clear A3
        have A3 := A3'
        clear A3'
        clear A4
        have A4 := A4'
        clear A4'
        clear BB
        have BB := BB'
        clear BB'
        clear hb
        have kc0 := A2.out.cell
        have kc1 := A4.out.cell
        go_wp2_with fail
        clear kc0
        clear kc1
        refine (below_is (r := true) (below_right M0.out M1.out) A2.out.v A4.out.v).mono ?_
        rintro e wn ⟨rfl, hb⟩
        have A1' := Lib.hid (A1.out.below (hb))
        have A2' := Lib.hid (A2.out.below (hb))
        have A3' := Lib.hid (A3.out.below (hb))
        have A4' := Lib.hid (A4.out.below (hb))
        have BB' := Lib.hid (BB.out.trans ((hb).mono BB.out.size))
        clear A1
        have A1 := A1'
        clear A1'
        clear A2
        have A2 := A2'
        clear A2'
        clear A3
        have A3 := A3'
        clear A3'
        clear A4
        have A4 := A4'
        clear A4'
        clear BB
        have BB := BB'
        clear BB'
        clear hb
        have kc0 := A1.out.cell
        have kc1 := A3.out.cell
        go_wp2_with fail
        clear kc0
        clear kc1
        obtain ⟨c1, hc1⟩ : ∃ c, belowL mx mz = c := ⟨_, rfl⟩
        obtain ⟨c2, hc2⟩ : ∃ c, belowL my mz = c := ⟨_, rfl⟩
        obtain ⟨c3, hc3⟩ : ∃ c, belowL mx my = c := ⟨_, rfl⟩
        have C1 := Lib.hid hc1
        have C2 := Lib.hid hc2
        have C3 := Lib.hid hc3
        have C4 := Lib.hid ((below_join_eq M0.out M1.out).trans hc3)
        clear hc1 hc2 hc3
        cases c1
        · skip
          refine (below_is C1.out A1.out.v A3.out.v).mono ?_
          rintro e wn ⟨rfl, hb⟩
          have A1' := Lib.hid (A1.out.below (hb))
          have A2' := Lib.hid (A2.out.below (hb))
          have A3' := Lib.hid (A3.out.below (hb))
          have A4' := Lib.hid (A4.out.below (hb))
          have BB' := Lib.hid (BB.out.trans ((hb).mono BB.out.size))
          clear A1
          have A1 := A1'
          clear A1'
          clear A2
          have A2 := A2'
          clear A2'
          clear A3
          have A3 := A3'
          clear A3'
          clear A4
          have A4 := A4'
          clear A4'
          clear BB
          have BB := BB'
          clear BB'
          clear hb
          have kc0 := A4.out.cell
          have kc1 := A3.out.cell
          go_wp2_with fail
          clear kc0
          clear kc1
          refine (join_any _ _ _ _ _ A4.out.v A3.out.v).mono ?_
          rintro e w5 ⟨p5, h5, rfl, va, hb⟩
          have A1' := Lib.hid (A1.out.below (hb))
          have A2' := Lib.hid (A2.out.below (hb))
          have A3' := Lib.hid (A3.out.below (hb))
          have A4' := Lib.hid (A4.out.below (hb))
          have BB' := Lib.hid (BB.out.trans ((hb).mono BB.out.size))
          clear A1
          have A1 := A1'
          clear A1'
          clear A2
          have A2 := A2'
          clear A2'
          clear A3
          have A3 := A3'
          clear A3'
          clear A4
          have A4 := A4'
          clear A4'
          clear BB
          have BB := BB'
          clear BB'
          clear hb
          clear h5
          have A1' := Lib.hid (A1.out.below (below_new w5 (.cells #[.map (some p5)] 28)))
          have A2' := Lib.hid (A2.out.below (below_new w5 (.cells #[.map (some p5)] 28)))
          have A3' := Lib.hid (A3.out.below (below_new w5 (.cells #[.map (some p5)] 28)))
          have A4' := Lib.hid (A4.out.below (below_new w5 (.cells #[.map (some p5)] 28)))
          have BB' := Lib.hid (BB.out.trans ((below_new w5 (.cells #[.map (some p5)] 28)).mono BB.out.size))
          clear A1
          have A1 := A1'
          clear A1'
          clear A2
          have A2 := A2'
          clear A2'
          clear A3
          have A3 := A3'
          clear A3'
          clear A4
          have A4 := A4'
          clear A4'
          clear BB
          have BB := BB'
          clear BB'
          have A5 := Lib.hid (Bx.new va)
          clear va 
          go_wp2_with fail
          generalize w5.alloc (.cells #[.map (some p5)] 28) = w5' at *
          generalize w5.heap.size = b5 at *
          have A1' := Lib.hid (A1.out.below (Below.refl _ _).drew)
          have A2' := Lib.hid (A2.out.below (Below.refl _ _).drew)
          have A3' := Lib.hid (A3.out.below (Below.refl _ _).drew)
          have A4' := Lib.hid (A4.out.below (Below.refl _ _).drew)
          have A5' := Lib.hid (A5.out.below (Below.refl _ _).drew)
          have BB' := Lib.hid (BB.out.drew)
          clear A1
          have A1 := A1'
          clear A1'
          clear A2
          have A2 := A2'
          clear A2'
          clear A3
          have A3 := A3'
          clear A3'
          clear A4
          have A4 := A4'
          clear A4'
          clear A5
          have A5 := A5'
          clear A5'
          clear BB
          have BB := BB'
          clear BB'
          refine wp_region_held_drew (S := fun w' => w'.cell? ⟨b1, 0, none⟩ = some (.map p1) ∧ w'.cell? ⟨b2, 0, none⟩ = some (.map p2) ∧ w'.cell? ⟨b3, 0, none⟩ = some (.map p3) ∧ w'.cell? ⟨b4, 0, none⟩ = some (.map (some p4)) ∧ w'.cell? ⟨b5, 0, none⟩ = some (.map (some p5))) (by kernel_rfl) ⟨A1.out.cell, A2.out.cell, A3.out.cell, A4.out.cell, A5.out.cell⟩ (fun hHeld => ?_)
          refine wpAnyH_take (i := 0) (oi := { dst := some 99, op := Op.load 28 (Operand.tmp 13), type := 28, pos := "law.go:102", after := #[], guard := none }) (v := ?fv0) rfl (by kernel_rfl) (by kernel_rfl) (by kernel_rfl) (fun _ _ _ h => h) (Or.inl ⟨by rfl, ?fy0⟩) (by assumption) ?fr0
          case fy0 => (intro w hSw; (try dsimp only at hSw); go_simp; try with_reducible rfl)
          (try simp only [Act.put])
          (try simp only [List.setIfInBounds_toArray])
          (try simp only [List.set_cons_succ])
          (try simp only [List.set_cons_zero])
          refine wpAnyH_take (i := 1) (oi := { dst := some 100, op := Op.load 28 (Operand.tmp 14), type := 28, pos := "law.go:102", after := #[], guard := none }) (v := ?fv1) rfl (by kernel_rfl) (by kernel_rfl) (by kernel_rfl) (fun _ _ _ h => h) (Or.inl ⟨by rfl, ?fy1⟩) (by assumption) ?fr1
          case fy1 => (intro w hSw; (try dsimp only at hSw); go_simp; try with_reducible rfl)
          (try simp only [Act.put])
          (try simp only [List.setIfInBounds_toArray])
          (try simp only [List.set_cons_succ])
          (try simp only [List.set_cons_zero])
          refine wpAnyH_ready (rs := [2]) (by kernel_rfl) (by simp) ?_
          refine AllReadyH.cons (o := { dst := some 101, op := Op.call { callee := Callee.value (Operand.func 18), args := #[Operand.tmp 99, Operand.tmp 100], argTypes := #[28, 28] }, type := 4, pos := "law.go:102", after := #[{ on := 0, ground := Ground.data }, { on := 1, ground := Ground.data }], guard := none }) rfl (fun K hK => ?_) AllReadyH.nil
          go_simp
          go_at_call 18
          refine (below_is (r := true) (below_left (ok_join M0.out M1.out) M2.out) A4.out.v A5.out.v).mono ?_
          rintro e wn ⟨rfl, hb⟩
          have A1' := Lib.hid (A1.out.below hb)
          have A2' := Lib.hid (A2.out.below hb)
          have A3' := Lib.hid (A3.out.below hb)
          have A4' := Lib.hid (A4.out.below hb)
          have A5' := Lib.hid (A5.out.below hb)
          have BB' := Lib.hid (BB.out.trans (hb.mono BB.out.size))
          clear A1
          have A1 := A1'
          clear A1'
          clear A2
          have A2 := A2'
          clear A2'
          clear A3
          have A3 := A3'
          clear A3'
          clear A4
          have A4 := A4'
          clear A4'
          clear A5
          have A5 := A5'
          clear A5'
          clear BB
          have BB := BB'
          clear BB'
          clear hb
          go_simp
          refine hK.out _ _ ?_ (fun hHeld => ?_)
          · exact ⟨A1.out.cell, A2.out.cell, A3.out.cell, A4.out.cell, A5.out.cell⟩
          clear hK K
          (try simp only [Act.put])
          (try simp only [List.setIfInBounds_toArray])
          (try simp only [List.set_cons_succ])
          (try simp only [List.set_cons_zero])
          refine wpAnyH_take (i := 3) (oi := { dst := some 102, op := Op.move (Operand.tmp 101), type := 4, pos := "law.go:102", after := #[{ on := 2, ground := Ground.data }, { on := 2, ground := Ground.chain }], guard := none }) (v := ?fv3) rfl (by kernel_rfl) (by kernel_rfl) (by kernel_rfl) (fun _ _ _ h => h) (Or.inl ⟨by rfl, ?fy3⟩) (by assumption) ?fr3
          case fy3 => (intro w hSw; (try dsimp only at hSw); go_simp; try with_reducible rfl)
          (try simp only [Act.put])
          (try simp only [List.setIfInBounds_toArray])
          (try simp only [List.set_cons_succ])
          (try simp only [List.set_cons_zero])
          refine wpAnyH_take (i := 4) (oi := { dst := some 103, op := Op.load 28 (Operand.tmp 7), type := 28, pos := "law.go:102", after := #[{ on := 3, ground := Ground.guard }], guard := some (3, true) }) (v := ?fv4) rfl (by kernel_rfl) (by kernel_rfl) (by kernel_rfl) (fun _ _ _ h => h) (Or.inl ⟨by rfl, ?fy4⟩) (by assumption) ?fr4
          case fy4 => (intro w hSw; (try dsimp only at hSw); go_simp; try with_reducible rfl)
          (try simp only [Act.put])
          (try simp only [List.setIfInBounds_toArray])
          (try simp only [List.set_cons_succ])
          (try simp only [List.set_cons_zero])
          refine wpAnyH_take (i := 5) (oi := { dst := some 104, op := Op.load 28 (Operand.tmp 9), type := 28, pos := "law.go:102", after := #[{ on := 3, ground := Ground.guard }], guard := some (3, true) }) (v := ?fv5) rfl (by kernel_rfl) (by kernel_rfl) (by kernel_rfl) (fun _ _ _ h => h) (Or.inl ⟨by rfl, ?fy5⟩) (by assumption) ?fr5
          case fy5 => (intro w hSw; (try dsimp only at hSw); go_simp; try with_reducible rfl)
          (try simp only [Act.put])
          (try simp only [List.setIfInBounds_toArray])
          (try simp only [List.set_cons_succ])
          (try simp only [List.set_cons_zero])
          refine wpAnyH_take (i := 7) (oi := { dst := some 106, op := Op.load 28 (Operand.tmp 13), type := 28, pos := "law.go:102", after := #[{ on := 3, ground := Ground.guard }], guard := some (3, true) }) (v := ?fv7) rfl (by kernel_rfl) (by kernel_rfl) (by kernel_rfl) (fun _ _ _ h => h) (Or.inl ⟨by rfl, ?fy7⟩) (by assumption) ?fr7
          case fy7 => (intro w hSw; (try dsimp only at hSw); go_simp; try with_reducible rfl)
          (try simp only [Act.put])
          (try simp only [List.setIfInBounds_toArray])
          (try simp only [List.set_cons_succ])
          (try simp only [List.set_cons_zero])
          refine wpAnyH_take (i := 8) (oi := { dst := some 107, op := Op.load 28 (Operand.tmp 9), type := 28, pos := "law.go:102", after := #[{ on := 3, ground := Ground.guard }], guard := some (3, true) }) (v := ?fv8) rfl (by kernel_rfl) (by kernel_rfl) (by kernel_rfl) (fun _ _ _ h => h) (Or.inl ⟨by rfl, ?fy8⟩) (by assumption) ?fr8
          case fy8 => (intro w hSw; (try dsimp only at hSw); go_simp; try with_reducible rfl)
          (try simp only [Act.put])
          (try simp only [List.setIfInBounds_toArray])
          (try simp only [List.set_cons_succ])
          (try simp only [List.set_cons_zero])
          refine wpAnyH_ready (rs := [6]) (by kernel_rfl) (by simp) ?_
          refine AllReadyH.cons (o := { dst := some 105, op := Op.call { callee := Callee.value (Operand.func 18), args := #[Operand.tmp 103, Operand.tmp 104], argTypes := #[28, 28] }, type := 4, pos := "law.go:102", after := #[{ on := 4, ground := Ground.data }, { on := 5, ground := Ground.data }, { on := 3, ground := Ground.chain }, { on := 3, ground := Ground.guard }], guard := some (3, true) }) rfl (fun K hK => ?_) AllReadyH.nil
          go_simp
          go_at_call 18
          refine (below_is C3.out A1.out.v A2.out.v).mono ?_
          rintro e wn ⟨rfl, hb⟩
          have A1' := Lib.hid (A1.out.below hb)
          have A2' := Lib.hid (A2.out.below hb)
          have A3' := Lib.hid (A3.out.below hb)
          have A4' := Lib.hid (A4.out.below hb)
          have A5' := Lib.hid (A5.out.below hb)
          have BB' := Lib.hid (BB.out.trans (hb.mono BB.out.size))
          clear A1
          have A1 := A1'
          clear A1'
          clear A2
          have A2 := A2'
          clear A2'
          clear A3
          have A3 := A3'
          clear A3'
          clear A4
          have A4 := A4'
          clear A4'
          clear A5
          have A5 := A5'
          clear A5'
          clear BB
          have BB := BB'
          clear BB'
          clear hb
          go_simp
          refine hK.out _ _ ?_ (fun hHeld => ?_)
          · exact ⟨A1.out.cell, A2.out.cell, A3.out.cell, A4.out.cell, A5.out.cell⟩
          clear hK K
          (try simp only [Act.put])
          (try simp only [List.setIfInBounds_toArray])
          (try simp only [List.set_cons_succ])
          (try simp only [List.set_cons_zero])
          refine wpAnyH_ready (rs := [9]) (by kernel_rfl) (by simp) ?_
          refine AllReadyH.cons (o := { dst := some 108, op := Op.call { callee := Callee.value (Operand.func 22), args := #[Operand.tmp 106, Operand.tmp 107], argTypes := #[28, 28] }, type := 4, pos := "law.go:102", after := #[{ on := 7, ground := Ground.data }, { on := 8, ground := Ground.data }, { on := 6, ground := Ground.chain }, { on := 3, ground := Ground.guard }], guard := some (3, true) }) rfl (fun K hK => ?_) AllReadyH.nil
          go_simp
          go_at_call 22
          refine (same_is C4.out A4.out.v A2.out.v).mono ?_
          rintro e wn ⟨rfl, hb⟩
          have A1' := Lib.hid (A1.out.below hb)
          have A2' := Lib.hid (A2.out.below hb)
          have A3' := Lib.hid (A3.out.below hb)
          have A4' := Lib.hid (A4.out.below hb)
          have A5' := Lib.hid (A5.out.below hb)
          have BB' := Lib.hid (BB.out.trans (hb.mono BB.out.size))
          clear A1
          have A1 := A1'
          clear A1'
          clear A2
          have A2 := A2'
          clear A2'
          clear A3
          have A3 := A3'
          clear A3'
          clear A4
          have A4 := A4'
          clear A4'
          clear A5
          have A5 := A5'
          clear A5'
          clear BB
          have BB := BB'
          clear BB'
          clear hb
          go_simp
          refine hK.out _ _ ?_ (fun hHeld => ?_)
          · exact ⟨A1.out.cell, A2.out.cell, A3.out.cell, A4.out.cell, A5.out.cell⟩
          clear hK K
          (try simp only [Act.put])
          (try simp only [List.setIfInBounds_toArray])
          (try simp only [List.set_cons_succ])
          (try simp only [List.set_cons_zero])
          refine wpAnyH_take (i := 10) (oi := { dst := some 109, op := Op.binOp BinOp.eql 4 (Operand.tmp 105) (Operand.tmp 108) 4, type := 4, pos := "law.go:102", after := #[{ on := 6, ground := Ground.data }, { on := 9, ground := Ground.data }, { on := 3, ground := Ground.guard }], guard := some (3, true) }) (v := ?fv10) rfl (by kernel_rfl) (by kernel_rfl) (by kernel_rfl) (fun _ _ _ h => h) (Or.inl ⟨by rfl, ?fy10⟩) (by assumption) ?fr10
          case fy10 => (intro w hSw; (try dsimp only at hSw); go_simp; try with_reducible rfl)
          (try simp only [Act.put])
          (try simp only [List.setIfInBounds_toArray])
          (try simp only [List.set_cons_succ])
          (try simp only [List.set_cons_zero])
          refine wpAnyH_take (i := 11) (oi := { dst := some 110, op := Op.pick (Operand.tmp 102) (Operand.tmp 109) (Operand.const (Value.bool false)), type := 4, pos := "law.go:102", after := #[{ on := 3, ground := Ground.data }, { on := 10, ground := Ground.data }], guard := none }) (v := ?fv11) rfl (by kernel_rfl) (by kernel_rfl) (by kernel_rfl) (fun _ _ _ h => h) (Or.inl ⟨by rfl, ?fy11⟩) (by assumption) ?fr11
          case fy11 => (intro w hSw; (try dsimp only at hSw); go_simp; try with_reducible rfl)
          (try simp only [Act.put])
          (try simp only [List.setIfInBounds_toArray])
          (try simp only [List.set_cons_succ])
          (try simp only [List.set_cons_zero])
          refine wpAnyH_take (i := 12) (oi := { dst := some 111, op := Op.move (Operand.tmp 110), type := 4, pos := "law.go:102", after := #[{ on := 11, ground := Ground.data }, { on := 9, ground := Ground.chain }], guard := none }) (v := ?fv12) rfl (by kernel_rfl) (by kernel_rfl) (by kernel_rfl) (fun _ _ _ h => h) (Or.inl ⟨by rfl, ?fy12⟩) (by assumption) ?fr12
          case fy12 => (intro w hSw; (try dsimp only at hSw); go_simp; try with_reducible rfl)
          (try simp only [Act.put])
          (try simp only [List.setIfInBounds_toArray])
          (try simp only [List.set_cons_succ])
          (try simp only [List.set_cons_zero])
          refine wpAnyH_ready (rs := [13]) (by kernel_rfl) (by simp) ?_
          refine AllReadyH.cons (o := { dst := some 112, op := Op.call { callee := Callee.value (Operand.func 11), args := #[], argTypes := #[] }, type := 4, pos := "law.go:102", after := #[{ on := 12, ground := Ground.chain }, { on := 12, ground := Ground.guard }], guard := some (12, true) }) rfl (fun K hK => ?_) AllReadyH.nil
          go_simp
          go_at_call 11
          refine (awake_any _).mono ?_
          rintro e wn ⟨rfl, hb⟩
          have A1' := Lib.hid (A1.out.below hb)
          have A2' := Lib.hid (A2.out.below hb)
          have A3' := Lib.hid (A3.out.below hb)
          have A4' := Lib.hid (A4.out.below hb)
          have A5' := Lib.hid (A5.out.below hb)
          have BB' := Lib.hid (BB.out.trans (hb.mono BB.out.size))
          clear A1
          have A1 := A1'
          clear A1'
          clear A2
          have A2 := A2'
          clear A2'
          clear A3
          have A3 := A3'
          clear A3'
          clear A4
          have A4 := A4'
          clear A4'
          clear A5
          have A5 := A5'
          clear A5'
          clear BB
          have BB := BB'
          clear BB'
          clear hb
          go_simp
          refine hK.out _ _ ?_ (fun hHeld => ?_)
          · exact ⟨A1.out.cell, A2.out.cell, A3.out.cell, A4.out.cell, A5.out.cell⟩
          clear hK K
          (try simp only [Act.put])
          (try simp only [List.setIfInBounds_toArray])
          (try simp only [List.set_cons_succ])
          (try simp only [List.set_cons_zero])
          refine wpAnyH_take (i := 14) (oi := { dst := some 113, op := Op.pick (Operand.tmp 111) (Operand.tmp 112) (Operand.const (Value.bool false)), type := 4, pos := "law.go:102", after := #[{ on := 12, ground := Ground.data }, { on := 13, ground := Ground.data }], guard := none }) (v := ?fv14) rfl (by kernel_rfl) (by kernel_rfl) (by kernel_rfl) (fun _ _ _ h => h) (Or.inl ⟨by rfl, ?fy14⟩) (by assumption) ?fr14
          case fy14 => (intro w hSw; (try dsimp only at hSw); go_simp; try with_reducible rfl)
          (try simp only [Act.put])
          (try simp only [List.setIfInBounds_toArray])
          (try simp only [List.set_cons_succ])
          (try simp only [List.set_cons_zero])
          refine wpAnyH_ready (rs := [15]) (by kernel_rfl) (by simp) ?_
          refine AllReadyH.cons (o := { dst := some 6, op := Op.assign (Operand.tmp 113), type := 4, pos := "law.go:102", after := #[{ on := 14, ground := Ground.data }, { on := 13, ground := Ground.chain }, { on := 0, ground := Ground.phase }, { on := 1, ground := Ground.phase }, { on := 2, ground := Ground.phase }, { on := 3, ground := Ground.phase }, { on := 4, ground := Ground.phase }, { on := 5, ground := Ground.phase }, { on := 6, ground := Ground.phase }, { on := 7, ground := Ground.phase }, { on := 8, ground := Ground.phase }, { on := 9, ground := Ground.phase }, { on := 10, ground := Ground.phase }, { on := 11, ground := Ground.phase }, { on := 12, ground := Ground.phase }, { on := 13, ground := Ground.phase }, { on := 14, ground := Ground.phase }], guard := none }) rfl (fun K hK => ?_) AllReadyH.nil
          go_simp
          refine hK.out _ _ ?_ (fun hHeld => ?_)
          · exact ⟨A1.out.cell, A2.out.cell, A3.out.cell, A4.out.cell, A5.out.cell⟩
          clear hK K
          (try simp only [Act.put])
          (try simp only [List.setIfInBounds_toArray])
          (try simp only [List.set_cons_succ])
          (try simp only [List.set_cons_zero])
          refine wpAnyH_done (by kernel_rfl) ?_ _
          go_wp2
          go_ret
          exact ⟨rfl, BB.out⟩
        · skip
          refine (below_is C1.out A1.out.v A3.out.v).mono ?_
          rintro e wn ⟨rfl, hb⟩
          have A1' := Lib.hid (A1.out.below (hb))
          have A2' := Lib.hid (A2.out.below (hb))
          have A3' := Lib.hid (A3.out.below (hb))
          have A4' := Lib.hid (A4.out.below (hb))
          have BB' := Lib.hid (BB.out.trans ((hb).mono BB.out.size))
          clear A1
          have A1 := A1'
          clear A1'
          clear A2
          have A2 := A2'
          clear A2'
          clear A3
          have A3 := A3'
          clear A3'
          clear A4
          have A4 := A4'
          clear A4'
          clear BB
          have BB := BB'
          clear BB'
          clear hb
          have kc0 := A2.out.cell
          have kc1 := A3.out.cell
          go_wp2_with fail
          clear kc0
          clear kc1
          cases c2
          · skip
            refine (below_is C2.out A2.out.v A3.out.v).mono ?_
            rintro e wn ⟨rfl, hb⟩
            have A1' := Lib.hid (A1.out.below (hb))
            have A2' := Lib.hid (A2.out.below (hb))
            have A3' := Lib.hid (A3.out.below (hb))
            have A4' := Lib.hid (A4.out.below (hb))
            have BB' := Lib.hid (BB.out.trans ((hb).mono BB.out.size))
            clear A1
            have A1 := A1'
            clear A1'
            clear A2
            have A2 := A2'
            clear A2'
            clear A3
            have A3 := A3'
            clear A3'
            clear A4
            have A4 := A4'
            clear A4'
            clear BB
            have BB := BB'
            clear BB'
            clear hb
            have kc0 := A4.out.cell
            have kc1 := A3.out.cell
            go_wp2_with fail
            clear kc0
            clear kc1
            refine (join_any _ _ _ _ _ A4.out.v A3.out.v).mono ?_
            rintro e w5 ⟨p5, h5, rfl, va, hb⟩
            have A1' := Lib.hid (A1.out.below (hb))
            have A2' := Lib.hid (A2.out.below (hb))
            have A3' := Lib.hid (A3.out.below (hb))
            have A4' := Lib.hid (A4.out.below (hb))
            have BB' := Lib.hid (BB.out.trans ((hb).mono BB.out.size))
            clear A1
            have A1 := A1'
            clear A1'
            clear A2
            have A2 := A2'
            clear A2'
            clear A3
            have A3 := A3'
            clear A3'
            clear A4
            have A4 := A4'
            clear A4'
            clear BB
            have BB := BB'
            clear BB'
            clear hb
            clear h5
            have A1' := Lib.hid (A1.out.below (below_new w5 (.cells #[.map (some p5)] 28)))
            have A2' := Lib.hid (A2.out.below (below_new w5 (.cells #[.map (some p5)] 28)))
            have A3' := Lib.hid (A3.out.below (below_new w5 (.cells #[.map (some p5)] 28)))
            have A4' := Lib.hid (A4.out.below (below_new w5 (.cells #[.map (some p5)] 28)))
            have BB' := Lib.hid (BB.out.trans ((below_new w5 (.cells #[.map (some p5)] 28)).mono BB.out.size))
            clear A1
            have A1 := A1'
            clear A1'
            clear A2
            have A2 := A2'
            clear A2'
            clear A3
            have A3 := A3'
            clear A3'
            clear A4
            have A4 := A4'
            clear A4'
            clear BB
            have BB := BB'
            clear BB'
            have A5 := Lib.hid (Bx.new va)
            clear va 
            go_wp2_with fail
            generalize w5.alloc (.cells #[.map (some p5)] 28) = w5' at *
            generalize w5.heap.size = b5 at *
            have A1' := Lib.hid (A1.out.below (Below.refl _ _).drew)
            have A2' := Lib.hid (A2.out.below (Below.refl _ _).drew)
            have A3' := Lib.hid (A3.out.below (Below.refl _ _).drew)
            have A4' := Lib.hid (A4.out.below (Below.refl _ _).drew)
            have A5' := Lib.hid (A5.out.below (Below.refl _ _).drew)
            have BB' := Lib.hid (BB.out.drew)
            clear A1
            have A1 := A1'
            clear A1'
            clear A2
            have A2 := A2'
            clear A2'
            clear A3
            have A3 := A3'
            clear A3'
            clear A4
            have A4 := A4'
            clear A4'
            clear A5
            have A5 := A5'
            clear A5'
            clear BB
            have BB := BB'
            clear BB'
            refine wp_region_held_drew (S := fun w' => w'.cell? ⟨b1, 0, none⟩ = some (.map p1) ∧ w'.cell? ⟨b2, 0, none⟩ = some (.map p2) ∧ w'.cell? ⟨b3, 0, none⟩ = some (.map p3) ∧ w'.cell? ⟨b4, 0, none⟩ = some (.map (some p4)) ∧ w'.cell? ⟨b5, 0, none⟩ = some (.map (some p5))) (by kernel_rfl) ⟨A1.out.cell, A2.out.cell, A3.out.cell, A4.out.cell, A5.out.cell⟩ (fun hHeld => ?_)
            refine wpAnyH_take (i := 0) (oi := { dst := some 99, op := Op.load 28 (Operand.tmp 13), type := 28, pos := "law.go:102", after := #[], guard := none }) (v := ?gv0) rfl (by kernel_rfl) (by kernel_rfl) (by kernel_rfl) (fun _ _ _ h => h) (Or.inl ⟨by rfl, ?gy0⟩) (by assumption) ?gr0
            case gy0 => (intro w hSw; (try dsimp only at hSw); go_simp; try with_reducible rfl)
            (try simp only [Act.put])
            (try simp only [List.setIfInBounds_toArray])
            (try simp only [List.set_cons_succ])
            (try simp only [List.set_cons_zero])
            refine wpAnyH_take (i := 1) (oi := { dst := some 100, op := Op.load 28 (Operand.tmp 14), type := 28, pos := "law.go:102", after := #[], guard := none }) (v := ?gv1) rfl (by kernel_rfl) (by kernel_rfl) (by kernel_rfl) (fun _ _ _ h => h) (Or.inl ⟨by rfl, ?gy1⟩) (by assumption) ?gr1
            case gy1 => (intro w hSw; (try dsimp only at hSw); go_simp; try with_reducible rfl)
            (try simp only [Act.put])
            (try simp only [List.setIfInBounds_toArray])
            (try simp only [List.set_cons_succ])
            (try simp only [List.set_cons_zero])
            refine wpAnyH_ready (rs := [2]) (by kernel_rfl) (by simp) ?_
            refine AllReadyH.cons (o := { dst := some 101, op := Op.call { callee := Callee.value (Operand.func 18), args := #[Operand.tmp 99, Operand.tmp 100], argTypes := #[28, 28] }, type := 4, pos := "law.go:102", after := #[{ on := 0, ground := Ground.data }, { on := 1, ground := Ground.data }], guard := none }) rfl (fun K hK => ?_) AllReadyH.nil
            go_simp
            go_at_call 18
            refine (below_is (r := true) (below_left (ok_join M0.out M1.out) M2.out) A4.out.v A5.out.v).mono ?_
            rintro e wn ⟨rfl, hb⟩
            have A1' := Lib.hid (A1.out.below hb)
            have A2' := Lib.hid (A2.out.below hb)
            have A3' := Lib.hid (A3.out.below hb)
            have A4' := Lib.hid (A4.out.below hb)
            have A5' := Lib.hid (A5.out.below hb)
            have BB' := Lib.hid (BB.out.trans (hb.mono BB.out.size))
            clear A1
            have A1 := A1'
            clear A1'
            clear A2
            have A2 := A2'
            clear A2'
            clear A3
            have A3 := A3'
            clear A3'
            clear A4
            have A4 := A4'
            clear A4'
            clear A5
            have A5 := A5'
            clear A5'
            clear BB
            have BB := BB'
            clear BB'
            clear hb
            go_simp
            refine hK.out _ _ ?_ (fun hHeld => ?_)
            · exact ⟨A1.out.cell, A2.out.cell, A3.out.cell, A4.out.cell, A5.out.cell⟩
            clear hK K
            (try simp only [Act.put])
            (try simp only [List.setIfInBounds_toArray])
            (try simp only [List.set_cons_succ])
            (try simp only [List.set_cons_zero])
            refine wpAnyH_take (i := 3) (oi := { dst := some 102, op := Op.move (Operand.tmp 101), type := 4, pos := "law.go:102", after := #[{ on := 2, ground := Ground.data }, { on := 2, ground := Ground.chain }], guard := none }) (v := ?gv3) rfl (by kernel_rfl) (by kernel_rfl) (by kernel_rfl) (fun _ _ _ h => h) (Or.inl ⟨by rfl, ?gy3⟩) (by assumption) ?gr3
            case gy3 => (intro w hSw; (try dsimp only at hSw); go_simp; try with_reducible rfl)
            (try simp only [Act.put])
            (try simp only [List.setIfInBounds_toArray])
            (try simp only [List.set_cons_succ])
            (try simp only [List.set_cons_zero])
            refine wpAnyH_take (i := 4) (oi := { dst := some 103, op := Op.load 28 (Operand.tmp 7), type := 28, pos := "law.go:102", after := #[{ on := 3, ground := Ground.guard }], guard := some (3, true) }) (v := ?gv4) rfl (by kernel_rfl) (by kernel_rfl) (by kernel_rfl) (fun _ _ _ h => h) (Or.inl ⟨by rfl, ?gy4⟩) (by assumption) ?gr4
            case gy4 => (intro w hSw; (try dsimp only at hSw); go_simp; try with_reducible rfl)
            (try simp only [Act.put])
            (try simp only [List.setIfInBounds_toArray])
            (try simp only [List.set_cons_succ])
            (try simp only [List.set_cons_zero])
            refine wpAnyH_take (i := 5) (oi := { dst := some 104, op := Op.load 28 (Operand.tmp 9), type := 28, pos := "law.go:102", after := #[{ on := 3, ground := Ground.guard }], guard := some (3, true) }) (v := ?gv5) rfl (by kernel_rfl) (by kernel_rfl) (by kernel_rfl) (fun _ _ _ h => h) (Or.inl ⟨by rfl, ?gy5⟩) (by assumption) ?gr5
            case gy5 => (intro w hSw; (try dsimp only at hSw); go_simp; try with_reducible rfl)
            (try simp only [Act.put])
            (try simp only [List.setIfInBounds_toArray])
            (try simp only [List.set_cons_succ])
            (try simp only [List.set_cons_zero])
            refine wpAnyH_take (i := 7) (oi := { dst := some 106, op := Op.load 28 (Operand.tmp 13), type := 28, pos := "law.go:102", after := #[{ on := 3, ground := Ground.guard }], guard := some (3, true) }) (v := ?gv7) rfl (by kernel_rfl) (by kernel_rfl) (by kernel_rfl) (fun _ _ _ h => h) (Or.inl ⟨by rfl, ?gy7⟩) (by assumption) ?gr7
            case gy7 => (intro w hSw; (try dsimp only at hSw); go_simp; try with_reducible rfl)
            (try simp only [Act.put])
            (try simp only [List.setIfInBounds_toArray])
            (try simp only [List.set_cons_succ])
            (try simp only [List.set_cons_zero])
            refine wpAnyH_take (i := 8) (oi := { dst := some 107, op := Op.load 28 (Operand.tmp 9), type := 28, pos := "law.go:102", after := #[{ on := 3, ground := Ground.guard }], guard := some (3, true) }) (v := ?gv8) rfl (by kernel_rfl) (by kernel_rfl) (by kernel_rfl) (fun _ _ _ h => h) (Or.inl ⟨by rfl, ?gy8⟩) (by assumption) ?gr8
            case gy8 => (intro w hSw; (try dsimp only at hSw); go_simp; try with_reducible rfl)
            (try simp only [Act.put])
            (try simp only [List.setIfInBounds_toArray])
            (try simp only [List.set_cons_succ])
            (try simp only [List.set_cons_zero])
            refine wpAnyH_ready (rs := [6]) (by kernel_rfl) (by simp) ?_
            refine AllReadyH.cons (o := { dst := some 105, op := Op.call { callee := Callee.value (Operand.func 18), args := #[Operand.tmp 103, Operand.tmp 104], argTypes := #[28, 28] }, type := 4, pos := "law.go:102", after := #[{ on := 4, ground := Ground.data }, { on := 5, ground := Ground.data }, { on := 3, ground := Ground.chain }, { on := 3, ground := Ground.guard }], guard := some (3, true) }) rfl (fun K hK => ?_) AllReadyH.nil
            go_simp
            go_at_call 18
            refine (below_is C3.out A1.out.v A2.out.v).mono ?_
            rintro e wn ⟨rfl, hb⟩
            have A1' := Lib.hid (A1.out.below hb)
            have A2' := Lib.hid (A2.out.below hb)
            have A3' := Lib.hid (A3.out.below hb)
            have A4' := Lib.hid (A4.out.below hb)
            have A5' := Lib.hid (A5.out.below hb)
            have BB' := Lib.hid (BB.out.trans (hb.mono BB.out.size))
            clear A1
            have A1 := A1'
            clear A1'
            clear A2
            have A2 := A2'
            clear A2'
            clear A3
            have A3 := A3'
            clear A3'
            clear A4
            have A4 := A4'
            clear A4'
            clear A5
            have A5 := A5'
            clear A5'
            clear BB
            have BB := BB'
            clear BB'
            clear hb
            go_simp
            refine hK.out _ _ ?_ (fun hHeld => ?_)
            · exact ⟨A1.out.cell, A2.out.cell, A3.out.cell, A4.out.cell, A5.out.cell⟩
            clear hK K
            (try simp only [Act.put])
            (try simp only [List.setIfInBounds_toArray])
            (try simp only [List.set_cons_succ])
            (try simp only [List.set_cons_zero])
            refine wpAnyH_ready (rs := [9]) (by kernel_rfl) (by simp) ?_
            refine AllReadyH.cons (o := { dst := some 108, op := Op.call { callee := Callee.value (Operand.func 22), args := #[Operand.tmp 106, Operand.tmp 107], argTypes := #[28, 28] }, type := 4, pos := "law.go:102", after := #[{ on := 7, ground := Ground.data }, { on := 8, ground := Ground.data }, { on := 6, ground := Ground.chain }, { on := 3, ground := Ground.guard }], guard := some (3, true) }) rfl (fun K hK => ?_) AllReadyH.nil
            go_simp
            go_at_call 22
            refine (same_is C4.out A4.out.v A2.out.v).mono ?_
            rintro e wn ⟨rfl, hb⟩
            have A1' := Lib.hid (A1.out.below hb)
            have A2' := Lib.hid (A2.out.below hb)
            have A3' := Lib.hid (A3.out.below hb)
            have A4' := Lib.hid (A4.out.below hb)
            have A5' := Lib.hid (A5.out.below hb)
            have BB' := Lib.hid (BB.out.trans (hb.mono BB.out.size))
            clear A1
            have A1 := A1'
            clear A1'
            clear A2
            have A2 := A2'
            clear A2'
            clear A3
            have A3 := A3'
            clear A3'
            clear A4
            have A4 := A4'
            clear A4'
            clear A5
            have A5 := A5'
            clear A5'
            clear BB
            have BB := BB'
            clear BB'
            clear hb
            go_simp
            refine hK.out _ _ ?_ (fun hHeld => ?_)
            · exact ⟨A1.out.cell, A2.out.cell, A3.out.cell, A4.out.cell, A5.out.cell⟩
            clear hK K
            (try simp only [Act.put])
            (try simp only [List.setIfInBounds_toArray])
            (try simp only [List.set_cons_succ])
            (try simp only [List.set_cons_zero])
            refine wpAnyH_take (i := 10) (oi := { dst := some 109, op := Op.binOp BinOp.eql 4 (Operand.tmp 105) (Operand.tmp 108) 4, type := 4, pos := "law.go:102", after := #[{ on := 6, ground := Ground.data }, { on := 9, ground := Ground.data }, { on := 3, ground := Ground.guard }], guard := some (3, true) }) (v := ?gv10) rfl (by kernel_rfl) (by kernel_rfl) (by kernel_rfl) (fun _ _ _ h => h) (Or.inl ⟨by rfl, ?gy10⟩) (by assumption) ?gr10
            case gy10 => (intro w hSw; (try dsimp only at hSw); go_simp; try with_reducible rfl)
            (try simp only [Act.put])
            (try simp only [List.setIfInBounds_toArray])
            (try simp only [List.set_cons_succ])
            (try simp only [List.set_cons_zero])
            refine wpAnyH_take (i := 11) (oi := { dst := some 110, op := Op.pick (Operand.tmp 102) (Operand.tmp 109) (Operand.const (Value.bool false)), type := 4, pos := "law.go:102", after := #[{ on := 3, ground := Ground.data }, { on := 10, ground := Ground.data }], guard := none }) (v := ?gv11) rfl (by kernel_rfl) (by kernel_rfl) (by kernel_rfl) (fun _ _ _ h => h) (Or.inl ⟨by rfl, ?gy11⟩) (by assumption) ?gr11
            case gy11 => (intro w hSw; (try dsimp only at hSw); go_simp; try with_reducible rfl)
            (try simp only [Act.put])
            (try simp only [List.setIfInBounds_toArray])
            (try simp only [List.set_cons_succ])
            (try simp only [List.set_cons_zero])
            refine wpAnyH_take (i := 12) (oi := { dst := some 111, op := Op.move (Operand.tmp 110), type := 4, pos := "law.go:102", after := #[{ on := 11, ground := Ground.data }, { on := 9, ground := Ground.chain }], guard := none }) (v := ?gv12) rfl (by kernel_rfl) (by kernel_rfl) (by kernel_rfl) (fun _ _ _ h => h) (Or.inl ⟨by rfl, ?gy12⟩) (by assumption) ?gr12
            case gy12 => (intro w hSw; (try dsimp only at hSw); go_simp; try with_reducible rfl)
            (try simp only [Act.put])
            (try simp only [List.setIfInBounds_toArray])
            (try simp only [List.set_cons_succ])
            (try simp only [List.set_cons_zero])
            refine wpAnyH_ready (rs := [13]) (by kernel_rfl) (by simp) ?_
            refine AllReadyH.cons (o := { dst := some 112, op := Op.call { callee := Callee.value (Operand.func 11), args := #[], argTypes := #[] }, type := 4, pos := "law.go:102", after := #[{ on := 12, ground := Ground.chain }, { on := 12, ground := Ground.guard }], guard := some (12, true) }) rfl (fun K hK => ?_) AllReadyH.nil
            go_simp
            go_at_call 11
            refine (awake_any _).mono ?_
            rintro e wn ⟨rfl, hb⟩
            have A1' := Lib.hid (A1.out.below hb)
            have A2' := Lib.hid (A2.out.below hb)
            have A3' := Lib.hid (A3.out.below hb)
            have A4' := Lib.hid (A4.out.below hb)
            have A5' := Lib.hid (A5.out.below hb)
            have BB' := Lib.hid (BB.out.trans (hb.mono BB.out.size))
            clear A1
            have A1 := A1'
            clear A1'
            clear A2
            have A2 := A2'
            clear A2'
            clear A3
            have A3 := A3'
            clear A3'
            clear A4
            have A4 := A4'
            clear A4'
            clear A5
            have A5 := A5'
            clear A5'
            clear BB
            have BB := BB'
            clear BB'
            clear hb
            go_simp
            refine hK.out _ _ ?_ (fun hHeld => ?_)
            · exact ⟨A1.out.cell, A2.out.cell, A3.out.cell, A4.out.cell, A5.out.cell⟩
            clear hK K
            (try simp only [Act.put])
            (try simp only [List.setIfInBounds_toArray])
            (try simp only [List.set_cons_succ])
            (try simp only [List.set_cons_zero])
            refine wpAnyH_take (i := 14) (oi := { dst := some 113, op := Op.pick (Operand.tmp 111) (Operand.tmp 112) (Operand.const (Value.bool false)), type := 4, pos := "law.go:102", after := #[{ on := 12, ground := Ground.data }, { on := 13, ground := Ground.data }], guard := none }) (v := ?gv14) rfl (by kernel_rfl) (by kernel_rfl) (by kernel_rfl) (fun _ _ _ h => h) (Or.inl ⟨by rfl, ?gy14⟩) (by assumption) ?gr14
            case gy14 => (intro w hSw; (try dsimp only at hSw); go_simp; try with_reducible rfl)
            (try simp only [Act.put])
            (try simp only [List.setIfInBounds_toArray])
            (try simp only [List.set_cons_succ])
            (try simp only [List.set_cons_zero])
            refine wpAnyH_ready (rs := [15]) (by kernel_rfl) (by simp) ?_
            refine AllReadyH.cons (o := { dst := some 6, op := Op.assign (Operand.tmp 113), type := 4, pos := "law.go:102", after := #[{ on := 14, ground := Ground.data }, { on := 13, ground := Ground.chain }, { on := 0, ground := Ground.phase }, { on := 1, ground := Ground.phase }, { on := 2, ground := Ground.phase }, { on := 3, ground := Ground.phase }, { on := 4, ground := Ground.phase }, { on := 5, ground := Ground.phase }, { on := 6, ground := Ground.phase }, { on := 7, ground := Ground.phase }, { on := 8, ground := Ground.phase }, { on := 9, ground := Ground.phase }, { on := 10, ground := Ground.phase }, { on := 11, ground := Ground.phase }, { on := 12, ground := Ground.phase }, { on := 13, ground := Ground.phase }, { on := 14, ground := Ground.phase }], guard := none }) rfl (fun K hK => ?_) AllReadyH.nil
            go_simp
            refine hK.out _ _ ?_ (fun hHeld => ?_)
            · exact ⟨A1.out.cell, A2.out.cell, A3.out.cell, A4.out.cell, A5.out.cell⟩
            clear hK K
            (try simp only [Act.put])
            (try simp only [List.setIfInBounds_toArray])
            (try simp only [List.set_cons_succ])
            (try simp only [List.set_cons_zero])
            refine wpAnyH_done (by kernel_rfl) ?_ _
            go_wp2
            go_ret
            exact ⟨rfl, BB.out⟩
          · skip
            refine (below_is C2.out A2.out.v A3.out.v).mono ?_
            rintro e wn ⟨rfl, hb⟩
            have A1' := Lib.hid (A1.out.below (hb))
            have A2' := Lib.hid (A2.out.below (hb))
            have A3' := Lib.hid (A3.out.below (hb))
            have A4' := Lib.hid (A4.out.below (hb))
            have BB' := Lib.hid (BB.out.trans ((hb).mono BB.out.size))
            clear A1
            have A1 := A1'
            clear A1'
            clear A2
            have A2 := A2'
            clear A2'
            clear A3
            have A3 := A3'
            clear A3'
            clear A4
            have A4 := A4'
            clear A4'
            clear BB
            have BB := BB'
            clear BB'
            clear hb
            have kc0 := A4.out.cell
            have kc1 := A3.out.cell
            go_wp2_with fail
            clear kc0
            clear kc1
            refine (below_is (r := true) (below_least M0.out M1.out M2.out C1.out C2.out) A4.out.v A3.out.v).mono ?_
            rintro e wn ⟨rfl, hb⟩
            have A1' := Lib.hid (A1.out.below (hb))
            have A2' := Lib.hid (A2.out.below (hb))
            have A3' := Lib.hid (A3.out.below (hb))
            have A4' := Lib.hid (A4.out.below (hb))
            have BB' := Lib.hid (BB.out.trans ((hb).mono BB.out.size))
            clear A1
            have A1 := A1'
            clear A1'
            clear A2
            have A2 := A2'
            clear A2'
            clear A3
            have A3 := A3'
            clear A3'
            clear A4
            have A4 := A4'
            clear A4'
            clear BB
            have BB := BB'
            clear BB'
            clear hb
            have kc0 := A4.out.cell
            have kc1 := A3.out.cell
            go_wp2_with fail
            clear kc0
            clear kc1
            refine (join_any _ _ _ _ _ A4.out.v A3.out.v).mono ?_
            rintro e w5 ⟨p5, h5, rfl, va, hb⟩
            have A1' := Lib.hid (A1.out.below (hb))
            have A2' := Lib.hid (A2.out.below (hb))
            have A3' := Lib.hid (A3.out.below (hb))
            have A4' := Lib.hid (A4.out.below (hb))
            have BB' := Lib.hid (BB.out.trans ((hb).mono BB.out.size))
            clear A1
            have A1 := A1'
            clear A1'
            clear A2
            have A2 := A2'
            clear A2'
            clear A3
            have A3 := A3'
            clear A3'
            clear A4
            have A4 := A4'
            clear A4'
            clear BB
            have BB := BB'
            clear BB'
            clear hb
            clear h5
            have A1' := Lib.hid (A1.out.below (below_new w5 (.cells #[.map (some p5)] 28)))
            have A2' := Lib.hid (A2.out.below (below_new w5 (.cells #[.map (some p5)] 28)))
            have A3' := Lib.hid (A3.out.below (below_new w5 (.cells #[.map (some p5)] 28)))
            have A4' := Lib.hid (A4.out.below (below_new w5 (.cells #[.map (some p5)] 28)))
            have BB' := Lib.hid (BB.out.trans ((below_new w5 (.cells #[.map (some p5)] 28)).mono BB.out.size))
            clear A1
            have A1 := A1'
            clear A1'
            clear A2
            have A2 := A2'
            clear A2'
            clear A3
            have A3 := A3'
            clear A3'
            clear A4
            have A4 := A4'
            clear A4'
            clear BB
            have BB := BB'
            clear BB'
            have A5 := Lib.hid (Bx.new va)
            clear va 
            go_wp2_with fail
            generalize w5.alloc (.cells #[.map (some p5)] 28) = w5' at *
            generalize w5.heap.size = b5 at *
            have A1' := Lib.hid (A1.out.below (Below.refl _ _).drew)
            have A2' := Lib.hid (A2.out.below (Below.refl _ _).drew)
            have A3' := Lib.hid (A3.out.below (Below.refl _ _).drew)
            have A4' := Lib.hid (A4.out.below (Below.refl _ _).drew)
            have A5' := Lib.hid (A5.out.below (Below.refl _ _).drew)
            have BB' := Lib.hid (BB.out.drew)
            clear A1
            have A1 := A1'
            clear A1'
            clear A2
            have A2 := A2'
            clear A2'
            clear A3
            have A3 := A3'
            clear A3'
            clear A4
            have A4 := A4'
            clear A4'
            clear A5
            have A5 := A5'
            clear A5'
            clear BB
            have BB := BB'
            clear BB'
            refine wp_region_held_drew (S := fun w' => w'.cell? ⟨b1, 0, none⟩ = some (.map p1) ∧ w'.cell? ⟨b2, 0, none⟩ = some (.map p2) ∧ w'.cell? ⟨b3, 0, none⟩ = some (.map p3) ∧ w'.cell? ⟨b4, 0, none⟩ = some (.map (some p4)) ∧ w'.cell? ⟨b5, 0, none⟩ = some (.map (some p5))) (by kernel_rfl) ⟨A1.out.cell, A2.out.cell, A3.out.cell, A4.out.cell, A5.out.cell⟩ (fun hHeld => ?_)
            refine wpAnyH_take (i := 0) (oi := { dst := some 99, op := Op.load 28 (Operand.tmp 13), type := 28, pos := "law.go:102", after := #[], guard := none }) (v := ?hv0) rfl (by kernel_rfl) (by kernel_rfl) (by kernel_rfl) (fun _ _ _ h => h) (Or.inl ⟨by rfl, ?hy0⟩) (by assumption) ?hr0
            case hy0 => (intro w hSw; (try dsimp only at hSw); go_simp; try with_reducible rfl)
            (try simp only [Act.put])
            (try simp only [List.setIfInBounds_toArray])
            (try simp only [List.set_cons_succ])
            (try simp only [List.set_cons_zero])
            refine wpAnyH_take (i := 1) (oi := { dst := some 100, op := Op.load 28 (Operand.tmp 14), type := 28, pos := "law.go:102", after := #[], guard := none }) (v := ?hv1) rfl (by kernel_rfl) (by kernel_rfl) (by kernel_rfl) (fun _ _ _ h => h) (Or.inl ⟨by rfl, ?hy1⟩) (by assumption) ?hr1
            case hy1 => (intro w hSw; (try dsimp only at hSw); go_simp; try with_reducible rfl)
            (try simp only [Act.put])
            (try simp only [List.setIfInBounds_toArray])
            (try simp only [List.set_cons_succ])
            (try simp only [List.set_cons_zero])
            refine wpAnyH_ready (rs := [2]) (by kernel_rfl) (by simp) ?_
            refine AllReadyH.cons (o := { dst := some 101, op := Op.call { callee := Callee.value (Operand.func 18), args := #[Operand.tmp 99, Operand.tmp 100], argTypes := #[28, 28] }, type := 4, pos := "law.go:102", after := #[{ on := 0, ground := Ground.data }, { on := 1, ground := Ground.data }], guard := none }) rfl (fun K hK => ?_) AllReadyH.nil
            go_simp
            go_at_call 18
            refine (below_is (r := true) (below_left (ok_join M0.out M1.out) M2.out) A4.out.v A5.out.v).mono ?_
            rintro e wn ⟨rfl, hb⟩
            have A1' := Lib.hid (A1.out.below hb)
            have A2' := Lib.hid (A2.out.below hb)
            have A3' := Lib.hid (A3.out.below hb)
            have A4' := Lib.hid (A4.out.below hb)
            have A5' := Lib.hid (A5.out.below hb)
            have BB' := Lib.hid (BB.out.trans (hb.mono BB.out.size))
            clear A1
            have A1 := A1'
            clear A1'
            clear A2
            have A2 := A2'
            clear A2'
            clear A3
            have A3 := A3'
            clear A3'
            clear A4
            have A4 := A4'
            clear A4'
            clear A5
            have A5 := A5'
            clear A5'
            clear BB
            have BB := BB'
            clear BB'
            clear hb
            go_simp
            refine hK.out _ _ ?_ (fun hHeld => ?_)
            · exact ⟨A1.out.cell, A2.out.cell, A3.out.cell, A4.out.cell, A5.out.cell⟩
            clear hK K
            (try simp only [Act.put])
            (try simp only [List.setIfInBounds_toArray])
            (try simp only [List.set_cons_succ])
            (try simp only [List.set_cons_zero])
            refine wpAnyH_take (i := 3) (oi := { dst := some 102, op := Op.move (Operand.tmp 101), type := 4, pos := "law.go:102", after := #[{ on := 2, ground := Ground.data }, { on := 2, ground := Ground.chain }], guard := none }) (v := ?hv3) rfl (by kernel_rfl) (by kernel_rfl) (by kernel_rfl) (fun _ _ _ h => h) (Or.inl ⟨by rfl, ?hy3⟩) (by assumption) ?hr3
            case hy3 => (intro w hSw; (try dsimp only at hSw); go_simp; try with_reducible rfl)
            (try simp only [Act.put])
            (try simp only [List.setIfInBounds_toArray])
            (try simp only [List.set_cons_succ])
            (try simp only [List.set_cons_zero])
            refine wpAnyH_take (i := 4) (oi := { dst := some 103, op := Op.load 28 (Operand.tmp 7), type := 28, pos := "law.go:102", after := #[{ on := 3, ground := Ground.guard }], guard := some (3, true) }) (v := ?hv4) rfl (by kernel_rfl) (by kernel_rfl) (by kernel_rfl) (fun _ _ _ h => h) (Or.inl ⟨by rfl, ?hy4⟩) (by assumption) ?hr4
            case hy4 => (intro w hSw; (try dsimp only at hSw); go_simp; try with_reducible rfl)
            (try simp only [Act.put])
            (try simp only [List.setIfInBounds_toArray])
            (try simp only [List.set_cons_succ])
            (try simp only [List.set_cons_zero])
            refine wpAnyH_take (i := 5) (oi := { dst := some 104, op := Op.load 28 (Operand.tmp 9), type := 28, pos := "law.go:102", after := #[{ on := 3, ground := Ground.guard }], guard := some (3, true) }) (v := ?hv5) rfl (by kernel_rfl) (by kernel_rfl) (by kernel_rfl) (fun _ _ _ h => h) (Or.inl ⟨by rfl, ?hy5⟩) (by assumption) ?hr5
            case hy5 => (intro w hSw; (try dsimp only at hSw); go_simp; try with_reducible rfl)
            (try simp only [Act.put])
            (try simp only [List.setIfInBounds_toArray])
            (try simp only [List.set_cons_succ])
            (try simp only [List.set_cons_zero])
            refine wpAnyH_take (i := 7) (oi := { dst := some 106, op := Op.load 28 (Operand.tmp 13), type := 28, pos := "law.go:102", after := #[{ on := 3, ground := Ground.guard }], guard := some (3, true) }) (v := ?hv7) rfl (by kernel_rfl) (by kernel_rfl) (by kernel_rfl) (fun _ _ _ h => h) (Or.inl ⟨by rfl, ?hy7⟩) (by assumption) ?hr7
            case hy7 => (intro w hSw; (try dsimp only at hSw); go_simp; try with_reducible rfl)
            (try simp only [Act.put])
            (try simp only [List.setIfInBounds_toArray])
            (try simp only [List.set_cons_succ])
            (try simp only [List.set_cons_zero])
            refine wpAnyH_take (i := 8) (oi := { dst := some 107, op := Op.load 28 (Operand.tmp 9), type := 28, pos := "law.go:102", after := #[{ on := 3, ground := Ground.guard }], guard := some (3, true) }) (v := ?hv8) rfl (by kernel_rfl) (by kernel_rfl) (by kernel_rfl) (fun _ _ _ h => h) (Or.inl ⟨by rfl, ?hy8⟩) (by assumption) ?hr8
            case hy8 => (intro w hSw; (try dsimp only at hSw); go_simp; try with_reducible rfl)
            (try simp only [Act.put])
            (try simp only [List.setIfInBounds_toArray])
            (try simp only [List.set_cons_succ])
            (try simp only [List.set_cons_zero])
            refine wpAnyH_ready (rs := [6]) (by kernel_rfl) (by simp) ?_
            refine AllReadyH.cons (o := { dst := some 105, op := Op.call { callee := Callee.value (Operand.func 18), args := #[Operand.tmp 103, Operand.tmp 104], argTypes := #[28, 28] }, type := 4, pos := "law.go:102", after := #[{ on := 4, ground := Ground.data }, { on := 5, ground := Ground.data }, { on := 3, ground := Ground.chain }, { on := 3, ground := Ground.guard }], guard := some (3, true) }) rfl (fun K hK => ?_) AllReadyH.nil
            go_simp
            go_at_call 18
            refine (below_is C3.out A1.out.v A2.out.v).mono ?_
            rintro e wn ⟨rfl, hb⟩
            have A1' := Lib.hid (A1.out.below hb)
            have A2' := Lib.hid (A2.out.below hb)
            have A3' := Lib.hid (A3.out.below hb)
            have A4' := Lib.hid (A4.out.below hb)
            have A5' := Lib.hid (A5.out.below hb)
            have BB' := Lib.hid (BB.out.trans (hb.mono BB.out.size))
            clear A1
            have A1 := A1'
            clear A1'
            clear A2
            have A2 := A2'
            clear A2'
            clear A3
            have A3 := A3'
            clear A3'
            clear A4
            have A4 := A4'
            clear A4'
            clear A5
            have A5 := A5'
            clear A5'
            clear BB
            have BB := BB'
            clear BB'
            clear hb
            go_simp
            refine hK.out _ _ ?_ (fun hHeld => ?_)
            · exact ⟨A1.out.cell, A2.out.cell, A3.out.cell, A4.out.cell, A5.out.cell⟩
            clear hK K
            (try simp only [Act.put])
            (try simp only [List.setIfInBounds_toArray])
            (try simp only [List.set_cons_succ])
            (try simp only [List.set_cons_zero])
            refine wpAnyH_ready (rs := [9]) (by kernel_rfl) (by simp) ?_
            refine AllReadyH.cons (o := { dst := some 108, op := Op.call { callee := Callee.value (Operand.func 22), args := #[Operand.tmp 106, Operand.tmp 107], argTypes := #[28, 28] }, type := 4, pos := "law.go:102", after := #[{ on := 7, ground := Ground.data }, { on := 8, ground := Ground.data }, { on := 6, ground := Ground.chain }, { on := 3, ground := Ground.guard }], guard := some (3, true) }) rfl (fun K hK => ?_) AllReadyH.nil
            go_simp
            go_at_call 22
            refine (same_is C4.out A4.out.v A2.out.v).mono ?_
            rintro e wn ⟨rfl, hb⟩
            have A1' := Lib.hid (A1.out.below hb)
            have A2' := Lib.hid (A2.out.below hb)
            have A3' := Lib.hid (A3.out.below hb)
            have A4' := Lib.hid (A4.out.below hb)
            have A5' := Lib.hid (A5.out.below hb)
            have BB' := Lib.hid (BB.out.trans (hb.mono BB.out.size))
            clear A1
            have A1 := A1'
            clear A1'
            clear A2
            have A2 := A2'
            clear A2'
            clear A3
            have A3 := A3'
            clear A3'
            clear A4
            have A4 := A4'
            clear A4'
            clear A5
            have A5 := A5'
            clear A5'
            clear BB
            have BB := BB'
            clear BB'
            clear hb
            go_simp
            refine hK.out _ _ ?_ (fun hHeld => ?_)
            · exact ⟨A1.out.cell, A2.out.cell, A3.out.cell, A4.out.cell, A5.out.cell⟩
            clear hK K
            (try simp only [Act.put])
            (try simp only [List.setIfInBounds_toArray])
            (try simp only [List.set_cons_succ])
            (try simp only [List.set_cons_zero])
            refine wpAnyH_take (i := 10) (oi := { dst := some 109, op := Op.binOp BinOp.eql 4 (Operand.tmp 105) (Operand.tmp 108) 4, type := 4, pos := "law.go:102", after := #[{ on := 6, ground := Ground.data }, { on := 9, ground := Ground.data }, { on := 3, ground := Ground.guard }], guard := some (3, true) }) (v := ?hv10) rfl (by kernel_rfl) (by kernel_rfl) (by kernel_rfl) (fun _ _ _ h => h) (Or.inl ⟨by rfl, ?hy10⟩) (by assumption) ?hr10
            case hy10 => (intro w hSw; (try dsimp only at hSw); go_simp; try with_reducible rfl)
            (try simp only [Act.put])
            (try simp only [List.setIfInBounds_toArray])
            (try simp only [List.set_cons_succ])
            (try simp only [List.set_cons_zero])
            refine wpAnyH_take (i := 11) (oi := { dst := some 110, op := Op.pick (Operand.tmp 102) (Operand.tmp 109) (Operand.const (Value.bool false)), type := 4, pos := "law.go:102", after := #[{ on := 3, ground := Ground.data }, { on := 10, ground := Ground.data }], guard := none }) (v := ?hv11) rfl (by kernel_rfl) (by kernel_rfl) (by kernel_rfl) (fun _ _ _ h => h) (Or.inl ⟨by rfl, ?hy11⟩) (by assumption) ?hr11
            case hy11 => (intro w hSw; (try dsimp only at hSw); go_simp; try with_reducible rfl)
            (try simp only [Act.put])
            (try simp only [List.setIfInBounds_toArray])
            (try simp only [List.set_cons_succ])
            (try simp only [List.set_cons_zero])
            refine wpAnyH_take (i := 12) (oi := { dst := some 111, op := Op.move (Operand.tmp 110), type := 4, pos := "law.go:102", after := #[{ on := 11, ground := Ground.data }, { on := 9, ground := Ground.chain }], guard := none }) (v := ?hv12) rfl (by kernel_rfl) (by kernel_rfl) (by kernel_rfl) (fun _ _ _ h => h) (Or.inl ⟨by rfl, ?hy12⟩) (by assumption) ?hr12
            case hy12 => (intro w hSw; (try dsimp only at hSw); go_simp; try with_reducible rfl)
            (try simp only [Act.put])
            (try simp only [List.setIfInBounds_toArray])
            (try simp only [List.set_cons_succ])
            (try simp only [List.set_cons_zero])
            refine wpAnyH_ready (rs := [13]) (by kernel_rfl) (by simp) ?_
            refine AllReadyH.cons (o := { dst := some 112, op := Op.call { callee := Callee.value (Operand.func 11), args := #[], argTypes := #[] }, type := 4, pos := "law.go:102", after := #[{ on := 12, ground := Ground.chain }, { on := 12, ground := Ground.guard }], guard := some (12, true) }) rfl (fun K hK => ?_) AllReadyH.nil
            go_simp
            go_at_call 11
            refine (awake_any _).mono ?_
            rintro e wn ⟨rfl, hb⟩
            have A1' := Lib.hid (A1.out.below hb)
            have A2' := Lib.hid (A2.out.below hb)
            have A3' := Lib.hid (A3.out.below hb)
            have A4' := Lib.hid (A4.out.below hb)
            have A5' := Lib.hid (A5.out.below hb)
            have BB' := Lib.hid (BB.out.trans (hb.mono BB.out.size))
            clear A1
            have A1 := A1'
            clear A1'
            clear A2
            have A2 := A2'
            clear A2'
            clear A3
            have A3 := A3'
            clear A3'
            clear A4
            have A4 := A4'
            clear A4'
            clear A5
            have A5 := A5'
            clear A5'
            clear BB
            have BB := BB'
            clear BB'
            clear hb
            go_simp
            refine hK.out _ _ ?_ (fun hHeld => ?_)
            · exact ⟨A1.out.cell, A2.out.cell, A3.out.cell, A4.out.cell, A5.out.cell⟩
            clear hK K
            (try simp only [Act.put])
            (try simp only [List.setIfInBounds_toArray])
            (try simp only [List.set_cons_succ])
            (try simp only [List.set_cons_zero])
            refine wpAnyH_take (i := 14) (oi := { dst := some 113, op := Op.pick (Operand.tmp 111) (Operand.tmp 112) (Operand.const (Value.bool false)), type := 4, pos := "law.go:102", after := #[{ on := 12, ground := Ground.data }, { on := 13, ground := Ground.data }], guard := none }) (v := ?hv14) rfl (by kernel_rfl) (by kernel_rfl) (by kernel_rfl) (fun _ _ _ h => h) (Or.inl ⟨by rfl, ?hy14⟩) (by assumption) ?hr14
            case hy14 => (intro w hSw; (try dsimp only at hSw); go_simp; try with_reducible rfl)
            (try simp only [Act.put])
            (try simp only [List.setIfInBounds_toArray])
            (try simp only [List.set_cons_succ])
            (try simp only [List.set_cons_zero])
            refine wpAnyH_ready (rs := [15]) (by kernel_rfl) (by simp) ?_
            refine AllReadyH.cons (o := { dst := some 6, op := Op.assign (Operand.tmp 113), type := 4, pos := "law.go:102", after := #[{ on := 14, ground := Ground.data }, { on := 13, ground := Ground.chain }, { on := 0, ground := Ground.phase }, { on := 1, ground := Ground.phase }, { on := 2, ground := Ground.phase }, { on := 3, ground := Ground.phase }, { on := 4, ground := Ground.phase }, { on := 5, ground := Ground.phase }, { on := 6, ground := Ground.phase }, { on := 7, ground := Ground.phase }, { on := 8, ground := Ground.phase }, { on := 9, ground := Ground.phase }, { on := 10, ground := Ground.phase }, { on := 11, ground := Ground.phase }, { on := 12, ground := Ground.phase }, { on := 13, ground := Ground.phase }, { on := 14, ground := Ground.phase }], guard := none }) rfl (fun K hK => ?_) AllReadyH.nil
            go_simp
            refine hK.out _ _ ?_ (fun hHeld => ?_)
            · exact ⟨A1.out.cell, A2.out.cell, A3.out.cell, A4.out.cell, A5.out.cell⟩
            clear hK K
            (try simp only [Act.put])
            (try simp only [List.setIfInBounds_toArray])
            (try simp only [List.set_cons_succ])
            (try simp only [List.set_cons_zero])
            refine wpAnyH_done (by kernel_rfl) ?_ _
            go_wp2
            go_ret
            exact ⟨rfl, BB.out⟩
end Go.Proofs.Ytapaimoahiplcaa
