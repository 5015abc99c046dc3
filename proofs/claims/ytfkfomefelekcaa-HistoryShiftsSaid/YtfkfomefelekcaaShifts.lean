/- HistoryShifts: the walk. -/
import Derived.Test.YtfkfomefelekcaaReaches
import Derived.Deep.DeepCutAuto
namespace Go.Proofs.Ytfkfomefelekcaa
open Go.RowKit Go.Shelf Go.Maps

theorem chooseL_next {n k c : Nat} (hk : k ≤ n) (hc : c < n + 1 - k) : chooseL (n + 1 + 1) k ((c : Int) + 1) = (n : Int) - c := by
  have := chooseL_small (n := n + 1) (k := k) (c := c + 1) (by omega) (by omega)
  rw [show ((c : Int) + 1) = ((c + 1 : Nat) : Int) by simp, this]; omega

set_option maxRecDepth 100000 in
set_option maxHeartbeats 3200000 in
theorem shifts (v : Value) (l : List One) (t : Nat) (x : One) (w : World) (h : IsOnes w v l) (ho : OnesOk l) (ht : t < 256) (hx : x.Ok) :
    Calls Try.prog 7 #[v, .int .u8 t, oneV x] w fun e w' => e = .returned (.bool true) ∧ Below w.heap.size w w' := by
  obtain ⟨a, cap, rfl⟩ := h.slice
  have HI := Lib.hid h
  have HO := Lib.hid ho
  have HL := Lib.hid (msgsOf_length 0 0 0 l)
  have HX := Lib.hid hx
  clear hx
  clear h ho
  by_cases hl : 100 < l.length
  · clear HI HO HL HX
    unfold oneV
    generalize l.length = n at *
    go_enter Try.func7, Try.ntmps7
    go_wp2_with fail
    refine (awake_any _).mono ?_
    rintro e w1 ⟨rfl, hb⟩
    simp only [World.size_alloc] at hb
    have hb2 := (below_new w _).trans (hb.mono (by simp))
    clear hb
    go_wp2
    go_ret
    exact ⟨rfl, hb2⟩
  · obtain ⟨n, hn⟩ : ∃ n, l.length = n := ⟨_, rfl⟩
    have hnl : n ≤ 100 := by omega
    have HN := Lib.hid hn
    rw [hn] at HI HL ⊢
    clear hn hl
    obtain ⟨k, hk⟩ : ∃ k : Nat, (t : Int) % ((n : Int) + 1) = k := ⟨t % (n + 1), by simp⟩
    have hkn : k ≤ n := by have := Int.emod_lt_of_pos (t : Int) (show 0 < (n : Int) + 1 by omega); omega
    obtain ⟨M, hM⟩ : ∃ M : Nat, (n : Int) + 1 - k = M := ⟨n + 1 - k, by omega⟩
    have hM2 : n + 1 - k = M := by omega
    unfold oneV
    go_enter Try.func7, Try.ntmps7
    go_wp2_with fail
    have HI' := Lib.hid (HI.out.below (below_new w (.cells #[.int .i64 x.val, .int .u32 x.ver, .int .u32 x.ref, .int .i64 x.thr, .int .u8 x.at_, .int .u8 x.known] 32)))
    clear HI
    have HI := HI'
    clear HI'
    have BB := Lib.hid (below_new w (.cells #[.int .i64 x.val, .int .u32 x.ver, .int .u32 x.ref, .int .i64 x.thr, .int .u8 x.at_, .int .u8 x.known] 32))
    have B5 := Lib.hid (Box.new w #[.int .i64 x.val, .int .u32 x.ver, .int .u32 x.ref, .int .i64 x.thr, .int .u8 x.at_, .int .u8 x.known] 32 rfl)
    generalize World.alloc w (.cells #[.int .i64 x.val, .int .u32 x.ver, .int .u32 x.ref, .int .i64 x.thr, .int .u8 x.at_, .int .u8 x.known] 32) = a0 at *
    obtain ⟨b5, hb5⟩ : ∃ b, w.heap.size = b := ⟨_, rfl⟩
    rw [hb5] at B5 ⊢
    refine (made_any 0 0 0 _ l _ HI.out (by rw [HN.out]; omega) HO.out).mono ?_
    rintro e z1 hh
    obtain ⟨b, q, hq1, hq2, hq3, hq4, rfl, hq5, hb⟩ := hh.block
    clear hh hq3
    rw [HL.out] at hq4 hq5 ⊢
    have HI' := Lib.hid (HI.out.below (hb))
    have B5' := Lib.hid (B5.out.below (hb))
    have BB' := Lib.hid (BB.out.trans ((hb).mono BB.out.size))
    clear HI
    have HI := HI'
    clear HI'
    clear B5
    have B5 := B5'
    clear B5'
    clear BB
    have BB := BB'
    clear BB'
    have H := Lib.hid hq5
    clear hb hq5 HI HO
    go_wp2_with fail
    have hlt_b7 := BB.out.size
    have hlt_b7_B5 := B5.out.lt
    have B5' := Lib.hid (B5.out.below (below_new z1 (.cells #[.slice (some ⟨b, 0, none⟩) (n + 1) (n + 1)] 29)))
    have H' := Lib.hid (H.out.below (below_new z1 (.cells #[.slice (some ⟨b, 0, none⟩) (n + 1) (n + 1)] 29)))
    have BB' := Lib.hid (BB.out.trans ((below_new z1 (.cells #[.slice (some ⟨b, 0, none⟩) (n + 1) (n + 1)] 29)).mono BB.out.size))
    clear B5
    have B5 := B5'
    clear B5'
    clear H
    have H := H'
    clear H'
    clear BB
    have BB := BB'
    clear BB'
    have B7 := Lib.hid (Box.new z1 #[.slice (some ⟨b, 0, none⟩) (n + 1) (n + 1)] 29 rfl)
    generalize World.alloc z1 (.cells #[.slice (some ⟨b, 0, none⟩) (n + 1) (n + 1)] 29) = a2 at *
    generalize World.heap z1 = hp_b7 at *
    generalize hp_b7.size = b7 at *
    go_cut [8] (fun s8 wx => ∃ bb bz, s8 = .pointer (some ⟨bb, 0, none⟩) ∧ Box wx bb #[.slice (some ⟨bz, 0, none⟩) (n + 1 + 1) (n + 1 + 1)] 29 ∧ Box wx b7 #[.slice (some ⟨b, 0, none⟩) (n + 1) (n + 1)] 29 ∧ Below w.heap.size w wx)
    case first =>
      have B5' := Lib.hid (B5.out.below ((Below.refl _ _).drew))
      have H' := Lib.hid (H.out.below ((Below.refl _ _).drew))
      have B7' := Lib.hid (B7.out.below ((Below.refl _ _).drew))
      have BB' := Lib.hid (BB.out.trans (((Below.refl _ _).drew).mono BB.out.size))
      clear B5
      have B5 := B5'
      clear B5'
      clear H
      have H := H'
      clear H'
      clear B7
      have B7 := B7'
      clear B7'
      clear BB
      have BB := BB'
      clear BB'
      refine wp_region_held_drew (S := fun w' => w'.cell? ⟨b7, 0, none⟩ = some (.slice (some ⟨b, 0, none⟩) (n + 1) (n + 1)) ∧ w'.cell? ⟨b5, 0, none⟩ = some (.int .i64 x.val) ∧ w'.cell? ⟨b5, 1, none⟩ = some (.int .u32 x.ver) ∧ w'.cell? ⟨b5, 2, none⟩ = some (.int .u32 x.ref) ∧ w'.cell? ⟨b5, 3, none⟩ = some (.int .i64 x.thr) ∧ w'.cell? ⟨b5, 4, none⟩ = some (.int .u8 x.at_) ∧ w'.cell? ⟨b5, 5, none⟩ = some (.int .u8 x.known)) (by kernel_rfl) ⟨B7.out.cells1.1, B5.out.cell 0, B5.out.cell 1, B5.out.cell 2, B5.out.cell 3, B5.out.cell 4, B5.out.cell 5⟩ (fun hHeld => ?_)
      generalize World.drew a2 = V0 at *
      refine wpAnyH_take (i := 0) (oi := { dst := some 18, op := Op.load 29 (Operand.tmp 7), type := 29, pos := "law.go:131", after := #[], guard := none }) (v := ?d1_1xv0) rfl (by kernel_rfl) (by kernel_rfl) (by kernel_rfl) (fun _ _ _ h => h) (Or.inl ⟨by rfl, ?d1_1xy0⟩) (by assumption) ?d1_1xr0
      case d1_1xy0 => (intro w hSw; (try dsimp only at hSw); go_simp; try with_reducible rfl)
      (try simp only [Act.put])
      (try simp only [List.setIfInBounds_toArray])
      (try simp only [List.set_cons_succ])
      (try simp only [List.set_cons_zero])
      refine wpAnyH_take (i := 1) (oi := { dst := some 19, op := Op.load 32 (Operand.tmp 5), type := 32, pos := "law.go:131", after := #[], guard := none }) (v := ?d1_2xv1) rfl (by kernel_rfl) (by kernel_rfl) (by kernel_rfl) (fun _ _ _ h => h) (Or.inl ⟨by rfl, ?d1_2xy1⟩) (by assumption) ?d1_2xr1
      case d1_2xy1 => (intro w hSw; (try dsimp only at hSw); go_simp; try with_reducible rfl)
      (try simp only [Act.put])
      (try simp only [List.setIfInBounds_toArray])
      (try simp only [List.set_cons_succ])
      (try simp only [List.set_cons_zero])
      refine wpAnyH_ready (rs := [2, 4]) (by kernel_rfl) (by simp) ?_
      refine AllReadyH.cons (o := { dst := some 20, op := Op.call { callee := Callee.value (Operand.func 11), args := #[Operand.tmp 19], argTypes := #[32] }, type := 38, pos := "law.go:131", after := #[{ on := 1, ground := Ground.data }], guard := none }) rfl (fun K hK => ?_) ?_
      · skip
        go_simp
        go_at_call 11
        refine (make_any x _ HX.out).mono ?_
        rintro e v1 ⟨p2, rfl, hv, hb⟩
        have B5' := Lib.hid (B5.out.below (hb))
        have H' := Lib.hid (H.out.below (hb))
        have B7' := Lib.hid (B7.out.below (hb))
        have BB' := Lib.hid (BB.out.trans ((hb).mono BB.out.size))
        clear B5
        have B5 := B5'
        clear B5'
        clear H
        have H := H'
        clear H'
        clear B7
        have B7 := B7'
        clear B7'
        clear BB
        have BB := BB'
        clear BB'
        clear hb
        have P2 := Lib.hid (hv)
        clear hv
        go_simp
        refine hK.out _ _ ?_ (fun hHeld => ?_)
        · exact ⟨B7.out.cells1.1, B5.out.cell 0, B5.out.cell 1, B5.out.cell 2, B5.out.cell 3, B5.out.cell 4, B5.out.cell 5⟩
        clear hK K
        (try simp only [Act.put])
        (try simp only [List.setIfInBounds_toArray])
        (try simp only [List.set_cons_succ])
        (try simp only [List.set_cons_zero])
        refine wpAnyH_ready (rs := [3, 4]) (by kernel_rfl) (by simp) ?_
        refine AllReadyH.cons (o := { dst := some 21, op := Op.call { callee := Callee.value (Operand.func 10), args := #[Operand.tmp 18, Operand.tmp 20], argTypes := #[29, 38] }, type := 29, pos := "law.go:131", after := #[{ on := 0, ground := Ground.data }, { on := 2, ground := Ground.data }, { on := 2, ground := Ground.chain }], guard := none }) rfl (fun K hK => ?_) ?_
        · skip
          go_simp
          go_at_call 10
          refine (add_any _ q (x.msg, p2) _ H.out P2.out (by omega)).mono ?_
          rintro e v2 ⟨bz, hbz, rfl, hh, hb⟩
          have B5' := Lib.hid (B5.out.below (hb))
          have H' := Lib.hid (H.out.below (hb))
          have B7' := Lib.hid (B7.out.below (hb))
          have P2' := Lib.hid (P2.out.below (hb))
          have BB' := Lib.hid (BB.out.trans ((hb).mono BB.out.size))
          clear B5
          have B5 := B5'
          clear B5'
          clear H
          have H := H'
          clear H'
          clear B7
          have B7 := B7'
          clear B7'
          clear P2
          have P2 := P2'
          clear P2'
          clear BB
          have BB := BB'
          clear BB'
          clear hb
          clear H
          clear P2
          clear hh
          rw [show (q ++ [(x.msg, p2)]).length = n + 1 + 1 by rw [List.length_append, hq4]; rfl]
          go_simp
          refine hK.out _ _ ?_ (fun hHeld => ?_)
          · exact ⟨B7.out.cells1.1, B5.out.cell 0, B5.out.cell 1, B5.out.cell 2, B5.out.cell 3, B5.out.cell 4, B5.out.cell 5⟩
          clear hK K
          (try simp only [Act.put])
          (try simp only [List.setIfInBounds_toArray])
          (try simp only [List.set_cons_succ])
          (try simp only [List.set_cons_zero])
          refine wpAnyH_ready (rs := [4]) (by kernel_rfl) (by simp) ?_
          refine AllReadyH.cons (o := { dst := some 8, op := Op.alloc 29, type := 0, pos := "law.go:131", after := #[], guard := none }) rfl (fun K hK => ?_) AllReadyH.nil
          go_simp
          have hlt_b8 := BB.out.size
          have hlt_b8_B5 := B5.out.lt
          have hlt_b8_B7 := B7.out.lt
          have B5' := Lib.hid (B5.out.below (below_new v2 (.cells #[.slice none 0 0] 29)))
          have B7' := Lib.hid (B7.out.below (below_new v2 (.cells #[.slice none 0 0] 29)))
          have BB' := Lib.hid (BB.out.trans ((below_new v2 (.cells #[.slice none 0 0] 29)).mono BB.out.size))
          clear B5
          have B5 := B5'
          clear B5'
          clear B7
          have B7 := B7'
          clear B7'
          clear BB
          have BB := BB'
          clear BB'
          have B8 := Lib.hid (Box.new v2 #[.slice none 0 0] 29 rfl)
          generalize World.alloc v2 (.cells #[.slice none 0 0] 29) = v3 at *
          generalize World.heap v2 = hp_b8 at *
          generalize hp_b8.size = b8 at *
          refine hK.out _ _ ?_ (fun hHeld => ?_)
          · exact ⟨B7.out.cells1.1, B5.out.cell 0, B5.out.cell 1, B5.out.cell 2, B5.out.cell 3, B5.out.cell 4, B5.out.cell 5⟩
          clear hK K
          (try simp only [Act.put])
          (try simp only [List.setIfInBounds_toArray])
          (try simp only [List.set_cons_succ])
          (try simp only [List.set_cons_zero])
          refine wpAnyH_ready (rs := [5]) (by kernel_rfl) (by simp) ?_
          refine AllReadyH.cons (o := { dst := none, op := Op.store 29 (Operand.tmp 8) (Operand.tmp 21), type := 0, pos := "law.go:131", after := #[{ on := 4, ground := Ground.data }, { on := 3, ground := Ground.data }, { on := 3, ground := Ground.chain }, { on := 0, ground := Ground.phase }, { on := 1, ground := Ground.phase }, { on := 2, ground := Ground.phase }, { on := 3, ground := Ground.phase }, { on := 4, ground := Ground.phase }], guard := none }) rfl (fun K hK => ?_) AllReadyH.nil
          obtain ⟨m0, g0⟩ := B8.out.cells1
          go_simp
          clear m0 g0
          have B5' := Lib.hid (B5.out.only (by omega) ((Only.refl b8 v3).set 0 (.slice (some ⟨bz, 0, none⟩) (n + 1 + 1) (n + 1 + 1))))
          have B7' := Lib.hid (B7.out.only (by omega) ((Only.refl b8 v3).set 0 (.slice (some ⟨bz, 0, none⟩) (n + 1 + 1) (n + 1 + 1))))
          have B8' := Lib.hid ((B8.out).set 0 (.slice (some ⟨bz, 0, none⟩) (n + 1 + 1) (n + 1 + 1)))
          have BB' := Lib.hid ((BB.out).put b8 (by omega) 0 (.slice (some ⟨bz, 0, none⟩) (n + 1 + 1) (n + 1 + 1)))
          clear B5
          have B5 := B5'
          clear B5'
          clear B7
          have B7 := B7'
          clear B7'
          clear B8
          have B8 := B8'
          clear B8'
          clear BB
          have BB := BB'
          clear BB'
          generalize (World.setCell v3 ⟨b8, 0, none⟩ (.slice (some ⟨bz, 0, none⟩) (n + 1 + 1) (n + 1 + 1))) = v4 at *
          refine hK.out _ _ ?_ (fun hHeld => ?_)
          · exact ⟨B7.out.cells1.1, B5.out.cell 0, B5.out.cell 1, B5.out.cell 2, B5.out.cell 3, B5.out.cell 4, B5.out.cell 5⟩
          clear hK K
          (try simp only [Act.put])
          (try simp only [List.setIfInBounds_toArray])
          (try simp only [List.set_cons_succ])
          (try simp only [List.set_cons_zero])
          refine wpAnyH_done (by kernel_rfl) ?_ _
          go_wp2
          go_meet
          case rel => exact ⟨b8, bz, rfl, B8.out, B7.out, BB.out⟩
        refine AllReadyH.cons (o := { dst := some 8, op := Op.alloc 29, type := 0, pos := "law.go:131", after := #[], guard := none }) rfl (fun K hK => ?_) AllReadyH.nil
        go_simp
        have hlt_b8 := BB.out.size
        have hlt_b8_B5 := B5.out.lt
        have hlt_b8_B7 := B7.out.lt
        have B5' := Lib.hid (B5.out.below (below_new v1 (.cells #[.slice none 0 0] 29)))
        have H' := Lib.hid (H.out.below (below_new v1 (.cells #[.slice none 0 0] 29)))
        have B7' := Lib.hid (B7.out.below (below_new v1 (.cells #[.slice none 0 0] 29)))
        have P2' := Lib.hid (P2.out.below (below_new v1 (.cells #[.slice none 0 0] 29)))
        have BB' := Lib.hid (BB.out.trans ((below_new v1 (.cells #[.slice none 0 0] 29)).mono BB.out.size))
        clear B5
        have B5 := B5'
        clear B5'
        clear H
        have H := H'
        clear H'
        clear B7
        have B7 := B7'
        clear B7'
        clear P2
        have P2 := P2'
        clear P2'
        clear BB
        have BB := BB'
        clear BB'
        have B8 := Lib.hid (Box.new v1 #[.slice none 0 0] 29 rfl)
        generalize World.alloc v1 (.cells #[.slice none 0 0] 29) = v5 at *
        generalize World.heap v1 = hp_b8 at *
        generalize hp_b8.size = b8 at *
        refine hK.out _ _ ?_ (fun hHeld => ?_)
        · exact ⟨B7.out.cells1.1, B5.out.cell 0, B5.out.cell 1, B5.out.cell 2, B5.out.cell 3, B5.out.cell 4, B5.out.cell 5⟩
        clear hK K
        (try simp only [Act.put])
        (try simp only [List.setIfInBounds_toArray])
        (try simp only [List.set_cons_succ])
        (try simp only [List.set_cons_zero])
        refine wpAnyH_ready (rs := [3]) (by kernel_rfl) (by simp) ?_
        refine AllReadyH.cons (o := { dst := some 21, op := Op.call { callee := Callee.value (Operand.func 10), args := #[Operand.tmp 18, Operand.tmp 20], argTypes := #[29, 38] }, type := 29, pos := "law.go:131", after := #[{ on := 0, ground := Ground.data }, { on := 2, ground := Ground.data }, { on := 2, ground := Ground.chain }], guard := none }) rfl (fun K hK => ?_) AllReadyH.nil
        go_simp
        go_at_call 10
        refine (add_any _ q (x.msg, p2) _ H.out P2.out (by omega)).mono ?_
        rintro e v6 ⟨bz, hbz, rfl, hh, hb⟩
        have B5' := Lib.hid (B5.out.below (hb))
        have H' := Lib.hid (H.out.below (hb))
        have B7' := Lib.hid (B7.out.below (hb))
        have P2' := Lib.hid (P2.out.below (hb))
        have B8' := Lib.hid (B8.out.below (hb))
        have BB' := Lib.hid (BB.out.trans ((hb).mono BB.out.size))
        clear B5
        have B5 := B5'
        clear B5'
        clear H
        have H := H'
        clear H'
        clear B7
        have B7 := B7'
        clear B7'
        clear P2
        have P2 := P2'
        clear P2'
        clear B8
        have B8 := B8'
        clear B8'
        clear BB
        have BB := BB'
        clear BB'
        clear hb
        clear H
        clear P2
        clear hh
        rw [show (q ++ [(x.msg, p2)]).length = n + 1 + 1 by rw [List.length_append, hq4]; rfl]
        go_simp
        refine hK.out _ _ ?_ (fun hHeld => ?_)
        · exact ⟨B7.out.cells1.1, B5.out.cell 0, B5.out.cell 1, B5.out.cell 2, B5.out.cell 3, B5.out.cell 4, B5.out.cell 5⟩
        clear hK K
        (try simp only [Act.put])
        (try simp only [List.setIfInBounds_toArray])
        (try simp only [List.set_cons_succ])
        (try simp only [List.set_cons_zero])
        refine wpAnyH_ready (rs := [5]) (by kernel_rfl) (by simp) ?_
        refine AllReadyH.cons (o := { dst := none, op := Op.store 29 (Operand.tmp 8) (Operand.tmp 21), type := 0, pos := "law.go:131", after := #[{ on := 4, ground := Ground.data }, { on := 3, ground := Ground.data }, { on := 3, ground := Ground.chain }, { on := 0, ground := Ground.phase }, { on := 1, ground := Ground.phase }, { on := 2, ground := Ground.phase }, { on := 3, ground := Ground.phase }, { on := 4, ground := Ground.phase }], guard := none }) rfl (fun K hK => ?_) AllReadyH.nil
        obtain ⟨m0, g0⟩ := B8.out.cells1
        go_simp
        clear m0 g0
        have B5' := Lib.hid (B5.out.only (by omega) ((Only.refl b8 v6).set 0 (.slice (some ⟨bz, 0, none⟩) (n + 1 + 1) (n + 1 + 1))))
        have B7' := Lib.hid (B7.out.only (by omega) ((Only.refl b8 v6).set 0 (.slice (some ⟨bz, 0, none⟩) (n + 1 + 1) (n + 1 + 1))))
        have B8' := Lib.hid ((B8.out).set 0 (.slice (some ⟨bz, 0, none⟩) (n + 1 + 1) (n + 1 + 1)))
        have BB' := Lib.hid ((BB.out).put b8 (by omega) 0 (.slice (some ⟨bz, 0, none⟩) (n + 1 + 1) (n + 1 + 1)))
        clear B5
        have B5 := B5'
        clear B5'
        clear B7
        have B7 := B7'
        clear B7'
        clear B8
        have B8 := B8'
        clear B8'
        clear BB
        have BB := BB'
        clear BB'
        generalize (World.setCell v6 ⟨b8, 0, none⟩ (.slice (some ⟨bz, 0, none⟩) (n + 1 + 1) (n + 1 + 1))) = v7 at *
        refine hK.out _ _ ?_ (fun hHeld => ?_)
        · exact ⟨B7.out.cells1.1, B5.out.cell 0, B5.out.cell 1, B5.out.cell 2, B5.out.cell 3, B5.out.cell 4, B5.out.cell 5⟩
        clear hK K
        (try simp only [Act.put])
        (try simp only [List.setIfInBounds_toArray])
        (try simp only [List.set_cons_succ])
        (try simp only [List.set_cons_zero])
        refine wpAnyH_done (by kernel_rfl) ?_ _
        go_wp2
        go_meet
        case rel => exact ⟨b8, bz, rfl, B8.out, B7.out, BB.out⟩
      refine AllReadyH.cons (o := { dst := some 8, op := Op.alloc 29, type := 0, pos := "law.go:131", after := #[], guard := none }) rfl (fun K hK => ?_) AllReadyH.nil
      go_simp
      have hlt_b8 := BB.out.size
      have hlt_b8_B5 := B5.out.lt
      have hlt_b8_B7 := B7.out.lt
      have B5' := Lib.hid (B5.out.below (below_new V0 (.cells #[.slice none 0 0] 29)))
      have H' := Lib.hid (H.out.below (below_new V0 (.cells #[.slice none 0 0] 29)))
      have B7' := Lib.hid (B7.out.below (below_new V0 (.cells #[.slice none 0 0] 29)))
      have BB' := Lib.hid (BB.out.trans ((below_new V0 (.cells #[.slice none 0 0] 29)).mono BB.out.size))
      clear B5
      have B5 := B5'
      clear B5'
      clear H
      have H := H'
      clear H'
      clear B7
      have B7 := B7'
      clear B7'
      clear BB
      have BB := BB'
      clear BB'
      have B8 := Lib.hid (Box.new V0 #[.slice none 0 0] 29 rfl)
      generalize World.alloc V0 (.cells #[.slice none 0 0] 29) = v8 at *
      generalize World.heap V0 = hp_b8 at *
      generalize hp_b8.size = b8 at *
      refine hK.out _ _ ?_ (fun hHeld => ?_)
      · exact ⟨B7.out.cells1.1, B5.out.cell 0, B5.out.cell 1, B5.out.cell 2, B5.out.cell 3, B5.out.cell 4, B5.out.cell 5⟩
      clear hK K
      (try simp only [Act.put])
      (try simp only [List.setIfInBounds_toArray])
      (try simp only [List.set_cons_succ])
      (try simp only [List.set_cons_zero])
      refine wpAnyH_ready (rs := [2]) (by kernel_rfl) (by simp) ?_
      refine AllReadyH.cons (o := { dst := some 20, op := Op.call { callee := Callee.value (Operand.func 11), args := #[Operand.tmp 19], argTypes := #[32] }, type := 38, pos := "law.go:131", after := #[{ on := 1, ground := Ground.data }], guard := none }) rfl (fun K hK => ?_) AllReadyH.nil
      go_simp
      go_at_call 11
      refine (make_any x _ HX.out).mono ?_
      rintro e v9 ⟨p2, rfl, hv, hb⟩
      have B5' := Lib.hid (B5.out.below (hb))
      have H' := Lib.hid (H.out.below (hb))
      have B7' := Lib.hid (B7.out.below (hb))
      have B8' := Lib.hid (B8.out.below (hb))
      have BB' := Lib.hid (BB.out.trans ((hb).mono BB.out.size))
      clear B5
      have B5 := B5'
      clear B5'
      clear H
      have H := H'
      clear H'
      clear B7
      have B7 := B7'
      clear B7'
      clear B8
      have B8 := B8'
      clear B8'
      clear BB
      have BB := BB'
      clear BB'
      clear hb
      have P2 := Lib.hid (hv)
      clear hv
      go_simp
      refine hK.out _ _ ?_ (fun hHeld => ?_)
      · exact ⟨B7.out.cells1.1, B5.out.cell 0, B5.out.cell 1, B5.out.cell 2, B5.out.cell 3, B5.out.cell 4, B5.out.cell 5⟩
      clear hK K
      (try simp only [Act.put])
      (try simp only [List.setIfInBounds_toArray])
      (try simp only [List.set_cons_succ])
      (try simp only [List.set_cons_zero])
      refine wpAnyH_ready (rs := [3]) (by kernel_rfl) (by simp) ?_
      refine AllReadyH.cons (o := { dst := some 21, op := Op.call { callee := Callee.value (Operand.func 10), args := #[Operand.tmp 18, Operand.tmp 20], argTypes := #[29, 38] }, type := 29, pos := "law.go:131", after := #[{ on := 0, ground := Ground.data }, { on := 2, ground := Ground.data }, { on := 2, ground := Ground.chain }], guard := none }) rfl (fun K hK => ?_) AllReadyH.nil
      go_simp
      go_at_call 10
      refine (add_any _ q (x.msg, p2) _ H.out P2.out (by omega)).mono ?_
      rintro e v10 ⟨bz, hbz, rfl, hh, hb⟩
      have B5' := Lib.hid (B5.out.below (hb))
      have H' := Lib.hid (H.out.below (hb))
      have B7' := Lib.hid (B7.out.below (hb))
      have B8' := Lib.hid (B8.out.below (hb))
      have P2' := Lib.hid (P2.out.below (hb))
      have BB' := Lib.hid (BB.out.trans ((hb).mono BB.out.size))
      clear B5
      have B5 := B5'
      clear B5'
      clear H
      have H := H'
      clear H'
      clear B7
      have B7 := B7'
      clear B7'
      clear B8
      have B8 := B8'
      clear B8'
      clear P2
      have P2 := P2'
      clear P2'
      clear BB
      have BB := BB'
      clear BB'
      clear hb
      clear H
      clear P2
      clear hh
      rw [show (q ++ [(x.msg, p2)]).length = n + 1 + 1 by rw [List.length_append, hq4]; rfl]
      go_simp
      refine hK.out _ _ ?_ (fun hHeld => ?_)
      · exact ⟨B7.out.cells1.1, B5.out.cell 0, B5.out.cell 1, B5.out.cell 2, B5.out.cell 3, B5.out.cell 4, B5.out.cell 5⟩
      clear hK K
      (try simp only [Act.put])
      (try simp only [List.setIfInBounds_toArray])
      (try simp only [List.set_cons_succ])
      (try simp only [List.set_cons_zero])
      refine wpAnyH_ready (rs := [5]) (by kernel_rfl) (by simp) ?_
      refine AllReadyH.cons (o := { dst := none, op := Op.store 29 (Operand.tmp 8) (Operand.tmp 21), type := 0, pos := "law.go:131", after := #[{ on := 4, ground := Ground.data }, { on := 3, ground := Ground.data }, { on := 3, ground := Ground.chain }, { on := 0, ground := Ground.phase }, { on := 1, ground := Ground.phase }, { on := 2, ground := Ground.phase }, { on := 3, ground := Ground.phase }, { on := 4, ground := Ground.phase }], guard := none }) rfl (fun K hK => ?_) AllReadyH.nil
      obtain ⟨m0, g0⟩ := B8.out.cells1
      go_simp
      clear m0 g0
      have B5' := Lib.hid (B5.out.only (by omega) ((Only.refl b8 v10).set 0 (.slice (some ⟨bz, 0, none⟩) (n + 1 + 1) (n + 1 + 1))))
      have B7' := Lib.hid (B7.out.only (by omega) ((Only.refl b8 v10).set 0 (.slice (some ⟨bz, 0, none⟩) (n + 1 + 1) (n + 1 + 1))))
      have B8' := Lib.hid ((B8.out).set 0 (.slice (some ⟨bz, 0, none⟩) (n + 1 + 1) (n + 1 + 1)))
      have BB' := Lib.hid ((BB.out).put b8 (by omega) 0 (.slice (some ⟨bz, 0, none⟩) (n + 1 + 1) (n + 1 + 1)))
      clear B5
      have B5 := B5'
      clear B5'
      clear B7
      have B7 := B7'
      clear B7'
      clear B8
      have B8 := B8'
      clear B8'
      clear BB
      have BB := BB'
      clear BB'
      generalize (World.setCell v10 ⟨b8, 0, none⟩ (.slice (some ⟨bz, 0, none⟩) (n + 1 + 1) (n + 1 + 1))) = v11 at *
      refine hK.out _ _ ?_ (fun hHeld => ?_)
      · exact ⟨B7.out.cells1.1, B5.out.cell 0, B5.out.cell 1, B5.out.cell 2, B5.out.cell 3, B5.out.cell 4, B5.out.cell 5⟩
      clear hK K
      (try simp only [Act.put])
      (try simp only [List.setIfInBounds_toArray])
      (try simp only [List.set_cons_succ])
      (try simp only [List.set_cons_zero])
      refine wpAnyH_done (by kernel_rfl) ?_ _
      go_wp2
      go_meet
      case rel => exact ⟨b8, bz, rfl, B8.out, B7.out, BB.out⟩
    case rest =>
      obtain ⟨b8, bz, rfl, B8', B7', BB'⟩ := hcut
      clear B5 B7 H BB
      have B8 := Lib.hid B8'
      have B7 := Lib.hid B7'
      have BB := Lib.hid BB'
      clear B8' B7' BB'
      have kc0 := B7.out.cells1.1
      go_wp2_with fail
      clear kc0
      refine (len_c _ (n + 1) (n + 1) _).mono ?_
      rintro e a3 ⟨rfl, hb⟩
      have B8' := Lib.hid (B8.out.below (hb))
      have B7' := Lib.hid (B7.out.below (hb))
      have BB' := Lib.hid (BB.out.trans ((hb).mono BB.out.size))
      clear B8
      have B8 := B8'
      clear B8'
      clear B7
      have B7 := B7'
      clear B7'
      clear BB
      have BB := BB'
      clear BB'
      clear hb
      have kc0 := B7.out.cells1.1
      go_wp2_with fail
      clear kc0
      refine (len_c _ (n + 1) (n + 1) _).mono ?_
      rintro e a4 ⟨rfl, hb⟩
      have B8' := Lib.hid (B8.out.below (hb))
      have B7' := Lib.hid (B7.out.below (hb))
      have BB' := Lib.hid (BB.out.trans ((hb).mono BB.out.size))
      clear B8
      have B8 := B8'
      clear B8'
      clear B7
      have B7 := B7'
      clear B7'
      clear BB
      have BB := BB'
      clear BB'
      clear hb
      have kc0 := B7.out.cells1.1
      go_wp2_with fail
      clear kc0
      refine (len_c _ (n + 1) (n + 1) _).mono ?_
      rintro e a5 ⟨rfl, hb⟩
      have B8' := Lib.hid (B8.out.below (hb))
      have B7' := Lib.hid (B7.out.below (hb))
      have BB' := Lib.hid (BB.out.trans ((hb).mono BB.out.size))
      clear B8
      have B8 := B8'
      clear B8'
      clear B7
      have B7 := B7'
      clear B7'
      clear BB
      have BB := BB'
      clear BB'
      clear hb
      have kc0 := B7.out.cells1.1
      go_wp2_with fail
      clear kc0
      go_loopw [34] (fun iv wr => ∃ c : Nat, c ≤ M ∧ iv = .int .i64 c ∧ Box wr b8 #[.slice (some ⟨bz, 0, none⟩) (n + 1 + 1) (n + 1 + 1)] 29 ∧ Box wr b7 #[.slice (some ⟨b, 0, none⟩) (n + 1) (n + 1)] 29 ∧ Below w.heap.size w wr) (fun iv _ => M - (intOf iv).toNat)
      case atStart => exact ⟨0, by omega, by simp, B8.out, B7.out, BB.out⟩
      case round =>
        obtain ⟨c, hc, rfl, B8', B7', BB'⟩ := hrel
        clear B8 B7 BB
        have B8 := Lib.hid B8'
        have B7 := Lib.hid B7'
        have BB := Lib.hid BB'
        clear B8' B7' BB'
        by_cases hlt : c < M
        · skip
          go_wp2_with fail
          have B8' := Lib.hid (B8.out.below ((Below.refl _ _).drew))
          have B7' := Lib.hid (B7.out.below ((Below.refl _ _).drew))
          have BB' := Lib.hid (BB.out.trans (((Below.refl _ _).drew).mono BB.out.size))
          clear B8
          have B8 := B8'
          clear B8'
          clear B7
          have B7 := B7'
          clear B7'
          clear BB
          have BB := BB'
          clear BB'
          refine wp_region_held_drew (S := fun w' => w'.cell? ⟨b8, 0, none⟩ = some (.slice (some ⟨bz, 0, none⟩) (n + 1 + 1) (n + 1 + 1)) ∧ w'.cell? ⟨b7, 0, none⟩ = some (.slice (some ⟨b, 0, none⟩) (n + 1) (n + 1))) (by kernel_rfl) ⟨B8.out.cells1.1, B7.out.cells1.1⟩ (fun hHeld => ?_)
          generalize World.drew wr = V12 at *
          refine wpAnyH_take (i := 0) (oi := { dst := some 37, op := Op.load 29 (Operand.tmp 8), type := 29, pos := "law.go:137", after := #[], guard := none }) (v := ?d13_1xv0) rfl (by kernel_rfl) (by kernel_rfl) (by kernel_rfl) (fun _ _ _ h => h) (Or.inl ⟨by rfl, ?d13_1xy0⟩) (by assumption) ?d13_1xr0
          case d13_1xy0 => (intro w hSw; (try dsimp only at hSw); go_simp; try with_reducible rfl)
          (try simp only [Act.put])
          (try simp only [List.setIfInBounds_toArray])
          (try simp only [List.set_cons_succ])
          (try simp only [List.set_cons_zero])
          refine wpAnyH_take (i := 1) (oi := { dst := some 38, op := Op.move (Operand.tmp 9), type := 3, pos := "law.go:137", after := #[], guard := none }) (v := ?d13_2xv1) rfl (by kernel_rfl) (by kernel_rfl) (by kernel_rfl) (fun _ _ _ h => h) (Or.inl ⟨by rfl, ?d13_2xy1⟩) (by assumption) ?d13_2xr1
          case d13_2xy1 => (intro w hSw; (try dsimp only at hSw); go_simp; try with_reducible rfl)
          (try simp only [Act.put])
          (try simp only [List.setIfInBounds_toArray])
          (try simp only [List.set_cons_succ])
          (try simp only [List.set_cons_zero])
          refine wpAnyH_take (i := 2) (oi := { dst := some 39, op := Op.move (Operand.tmp 10), type := 3, pos := "law.go:137", after := #[], guard := none }) (v := ?d13_3xv2) rfl (by kernel_rfl) (by kernel_rfl) (by kernel_rfl) (fun _ _ _ h => h) (Or.inl ⟨by rfl, ?d13_3xy2⟩) (by assumption) ?d13_3xr2
          case d13_3xy2 => (intro w hSw; (try dsimp only at hSw); go_simp; try with_reducible rfl)
          (try simp only [Act.put])
          (try simp only [List.setIfInBounds_toArray])
          (try simp only [List.set_cons_succ])
          (try simp only [List.set_cons_zero])
          refine wpAnyH_take (i := 3) (oi := { dst := some 40, op := Op.binOp BinOp.add 3 (Operand.tmp 39) (Operand.const (Value.int IntKind.i64 1)) 3, type := 3, pos := "law.go:137", after := #[{ on := 2, ground := Ground.data }], guard := none }) (v := ?d13_4xv3) rfl (by kernel_rfl) (by kernel_rfl) (by kernel_rfl) (fun _ _ _ h => h) (Or.inl ⟨by rfl, ?d13_4xy3⟩) (by assumption) ?d13_4xr3
          case d13_4xy3 => (intro w hSw; (try dsimp only at hSw); go_simp; try with_reducible rfl)
          (try simp only [Act.put])
          (try simp only [List.setIfInBounds_toArray])
          (try simp only [List.set_cons_succ])
          (try simp only [List.set_cons_zero])
          refine wpAnyH_take (i := 5) (oi := { dst := some 42, op := Op.load 29 (Operand.tmp 7), type := 29, pos := "law.go:137", after := #[], guard := none }) (v := ?d13_5xv5) rfl (by kernel_rfl) (by kernel_rfl) (by kernel_rfl) (fun _ _ _ h => h) (Or.inl ⟨by rfl, ?d13_5xy5⟩) (by assumption) ?d13_5xr5
          case d13_5xy5 => (intro w hSw; (try dsimp only at hSw); go_simp; try with_reducible rfl)
          (try simp only [Act.put])
          (try simp only [List.setIfInBounds_toArray])
          (try simp only [List.set_cons_succ])
          (try simp only [List.set_cons_zero])
          refine wpAnyH_take (i := 6) (oi := { dst := some 43, op := Op.move (Operand.tmp 9), type := 3, pos := "law.go:137", after := #[], guard := none }) (v := ?d13_6xv6) rfl (by kernel_rfl) (by kernel_rfl) (by kernel_rfl) (fun _ _ _ h => h) (Or.inl ⟨by rfl, ?d13_6xy6⟩) (by assumption) ?d13_6xr6
          case d13_6xy6 => (intro w hSw; (try dsimp only at hSw); go_simp; try with_reducible rfl)
          (try simp only [Act.put])
          (try simp only [List.setIfInBounds_toArray])
          (try simp only [List.set_cons_succ])
          (try simp only [List.set_cons_zero])
          refine wpAnyH_take (i := 7) (oi := { dst := some 44, op := Op.move (Operand.tmp 10), type := 3, pos := "law.go:137", after := #[], guard := none }) (v := ?d13_7xv7) rfl (by kernel_rfl) (by kernel_rfl) (by kernel_rfl) (fun _ _ _ h => h) (Or.inl ⟨by rfl, ?d13_7xy7⟩) (by assumption) ?d13_7xr7
          case d13_7xy7 => (intro w hSw; (try dsimp only at hSw); go_simp; try with_reducible rfl)
          (try simp only [Act.put])
          (try simp only [List.setIfInBounds_toArray])
          (try simp only [List.set_cons_succ])
          (try simp only [List.set_cons_zero])
          refine wpAnyH_ready (rs := [4]) (by kernel_rfl) (by simp) ?_
          refine AllReadyH.cons (o := { dst := some 41, op := Op.call { callee := Callee.value (Operand.func 18), args := #[Operand.tmp 37, Operand.tmp 38, Operand.tmp 40], argTypes := #[29, 3, 3] }, type := 3, pos := "law.go:137", after := #[{ on := 0, ground := Ground.data }, { on := 1, ground := Ground.data }, { on := 3, ground := Ground.data }], guard := none }) rfl (fun K hK => ?_) AllReadyH.nil
          go_simp
          go_at_call 18
          (try rw [IntWalk.i64_in ((c : Int) + 1) (by omega)])
          refine (choose_any _ (n + 1 + 1) (n + 1 + 1) k ((c : Int) + 1) _ (by omega) (by omega) (by omega) (by omega) (by omega)).mono ?_
          rintro e v13 ⟨rfl, hb⟩
          have B8' := Lib.hid (B8.out.below (hb))
          have B7' := Lib.hid (B7.out.below (hb))
          have BB' := Lib.hid (BB.out.trans ((hb).mono BB.out.size))
          clear B8
          have B8 := B8'
          clear B8'
          clear B7
          have B7 := B7'
          clear B7'
          clear BB
          have BB := BB'
          clear BB'
          clear hb
          rw [chooseL_next hkn (by omega)]
          go_simp
          refine hK.out _ _ ?_ (fun hHeld => ?_)
          · exact ⟨B8.out.cells1.1, B7.out.cells1.1⟩
          clear hK K
          (try simp only [Act.put])
          (try simp only [List.setIfInBounds_toArray])
          (try simp only [List.set_cons_succ])
          (try simp only [List.set_cons_zero])
          refine wpAnyH_ready (rs := [8]) (by kernel_rfl) (by simp) ?_
          refine AllReadyH.cons (o := { dst := some 45, op := Op.call { callee := Callee.value (Operand.func 18), args := #[Operand.tmp 42, Operand.tmp 43, Operand.tmp 44], argTypes := #[29, 3, 3] }, type := 3, pos := "law.go:137", after := #[{ on := 5, ground := Ground.data }, { on := 6, ground := Ground.data }, { on := 7, ground := Ground.data }, { on := 4, ground := Ground.chain }], guard := none }) rfl (fun K hK => ?_) AllReadyH.nil
          go_simp
          go_at_call 18
          refine (choose_any _ (n + 1) (n + 1) k c _ (by omega) (by omega) (by omega) (by omega) (by omega)).mono ?_
          rintro e v14 ⟨rfl, hb⟩
          have B8' := Lib.hid (B8.out.below (hb))
          have B7' := Lib.hid (B7.out.below (hb))
          have BB' := Lib.hid (BB.out.trans ((hb).mono BB.out.size))
          clear B8
          have B8 := B8'
          clear B8'
          clear B7
          have B7 := B7'
          clear B7'
          clear BB
          have BB := BB'
          clear BB'
          clear hb
          rw [chooseL_small hkn (by omega)]
          go_simp
          refine hK.out _ _ ?_ (fun hHeld => ?_)
          · exact ⟨B8.out.cells1.1, B7.out.cells1.1⟩
          clear hK K
          (try simp only [Act.put])
          (try simp only [List.setIfInBounds_toArray])
          (try simp only [List.set_cons_succ])
          (try simp only [List.set_cons_zero])
          refine wpAnyH_take (i := 9) (oi := { dst := some 46, op := Op.binOp BinOp.neq 3 (Operand.tmp 41) (Operand.tmp 45) 3, type := 4, pos := "law.go:137", after := #[{ on := 4, ground := Ground.data }, { on := 8, ground := Ground.data }], guard := none }) (v := ?d15_8xv9) rfl (by kernel_rfl) (by kernel_rfl) (by kernel_rfl) (fun _ _ _ h => h) (Or.inl ⟨by rfl, ?d15_8xy9⟩) (by assumption) ?d15_8xr9
          case d15_8xy9 => (intro w hSw; (try dsimp only at hSw); go_simp; try with_reducible rfl)
          (try simp only [Act.put])
          (try simp only [List.setIfInBounds_toArray])
          (try simp only [List.set_cons_succ])
          (try simp only [List.set_cons_zero])
          refine wpAnyH_done (by kernel_rfl) ?_ _
          go_wp2
          go_roundw
          case rel => exact ⟨c + 1, by omega, by simp, B8.out, B7.out, BB.out⟩
          case measure => (simp [intOf]; omega)
        · skip
          have he : c = M := by omega
          subst he
          go_wp2_with fail
          have B8' := Lib.hid (B8.out.below ((Below.refl _ _).drew))
          have B7' := Lib.hid (B7.out.below ((Below.refl _ _).drew))
          have BB' := Lib.hid (BB.out.trans (((Below.refl _ _).drew).mono BB.out.size))
          clear B8
          have B8 := B8'
          clear B8'
          clear B7
          have B7 := B7'
          clear B7'
          clear BB
          have BB := BB'
          clear BB'
          refine wp_region_held_drew (S := fun w' => w'.cell? ⟨b8, 0, none⟩ = some (.slice (some ⟨bz, 0, none⟩) (n + 1 + 1) (n + 1 + 1)) ∧ w'.cell? ⟨b7, 0, none⟩ = some (.slice (some ⟨b, 0, none⟩) (n + 1) (n + 1))) (by kernel_rfl) ⟨B8.out.cells1.1, B7.out.cells1.1⟩ (fun hHeld => ?_)
          generalize World.drew wr = V15 at *
          refine wpAnyH_ready (rs := [0]) (by kernel_rfl) (by simp) ?_
          refine AllReadyH.cons (o := { dst := some 48, op := Op.call { callee := Callee.value (Operand.func 8), args := #[], argTypes := #[] }, type := 4, pos := "law.go:141", after := #[], guard := none }) rfl (fun K hK => ?_) AllReadyH.nil
          go_simp
          go_at_call 8
          refine (awake_any _).mono ?_
          rintro e v16 ⟨rfl, hb⟩
          have B8' := Lib.hid (B8.out.below (hb))
          have B7' := Lib.hid (B7.out.below (hb))
          have BB' := Lib.hid (BB.out.trans ((hb).mono BB.out.size))
          clear B8
          have B8 := B8'
          clear B8'
          clear B7
          have B7 := B7'
          clear B7'
          clear BB
          have BB := BB'
          clear BB'
          clear hb
          go_simp
          refine hK.out _ _ ?_ (fun hHeld => ?_)
          · exact ⟨B8.out.cells1.1, B7.out.cells1.1⟩
          clear hK K
          (try simp only [Act.put])
          (try simp only [List.setIfInBounds_toArray])
          (try simp only [List.set_cons_succ])
          (try simp only [List.set_cons_zero])
          refine wpAnyH_take (i := 1) (oi := { dst := some 49, op := Op.move (Operand.tmp 48), type := 4, pos := "law.go:141", after := #[{ on := 0, ground := Ground.data }, { on := 0, ground := Ground.chain }], guard := none }) (v := ?d17_1xv1) rfl (by kernel_rfl) (by kernel_rfl) (by kernel_rfl) (fun _ _ _ h => h) (Or.inl ⟨by rfl, ?d17_1xy1⟩) (by assumption) ?d17_1xr1
          case d17_1xy1 => (intro w hSw; (try dsimp only at hSw); go_simp; try with_reducible rfl)
          (try simp only [Act.put])
          (try simp only [List.setIfInBounds_toArray])
          (try simp only [List.set_cons_succ])
          (try simp only [List.set_cons_zero])
          refine wpAnyH_take (i := 2) (oi := { dst := some 50, op := Op.load 29 (Operand.tmp 8), type := 29, pos := "law.go:141", after := #[{ on := 1, ground := Ground.guard }], guard := some (1, true) }) (v := ?d17_2xv2) rfl (by kernel_rfl) (by kernel_rfl) (by kernel_rfl) (fun _ _ _ h => h) (Or.inl ⟨by rfl, ?d17_2xy2⟩) (by assumption) ?d17_2xr2
          case d17_2xy2 => (intro w hSw; (try dsimp only at hSw); go_simp; try with_reducible rfl)
          (try simp only [Act.put])
          (try simp only [List.setIfInBounds_toArray])
          (try simp only [List.set_cons_succ])
          (try simp only [List.set_cons_zero])
          refine wpAnyH_take (i := 3) (oi := { dst := some 51, op := Op.move (Operand.tmp 9), type := 3, pos := "law.go:141", after := #[{ on := 1, ground := Ground.guard }], guard := some (1, true) }) (v := ?d17_3xv3) rfl (by kernel_rfl) (by kernel_rfl) (by kernel_rfl) (fun _ _ _ h => h) (Or.inl ⟨by rfl, ?d17_3xy3⟩) (by assumption) ?d17_3xr3
          case d17_3xy3 => (intro w hSw; (try dsimp only at hSw); go_simp; try with_reducible rfl)
          (try simp only [Act.put])
          (try simp only [List.setIfInBounds_toArray])
          (try simp only [List.set_cons_succ])
          (try simp only [List.set_cons_zero])
          refine wpAnyH_take (i := 5) (oi := { dst := some 53, op := Op.load 29 (Operand.tmp 7), type := 29, pos := "law.go:141", after := #[{ on := 1, ground := Ground.guard }], guard := some (1, true) }) (v := ?d17_4xv5) rfl (by kernel_rfl) (by kernel_rfl) (by kernel_rfl) (fun _ _ _ h => h) (Or.inl ⟨by rfl, ?d17_4xy5⟩) (by assumption) ?d17_4xr5
          case d17_4xy5 => (intro w hSw; (try dsimp only at hSw); go_simp; try with_reducible rfl)
          (try simp only [Act.put])
          (try simp only [List.setIfInBounds_toArray])
          (try simp only [List.set_cons_succ])
          (try simp only [List.set_cons_zero])
          refine wpAnyH_ready (rs := [4]) (by kernel_rfl) (by simp) ?_
          refine AllReadyH.cons (o := { dst := some 52, op := Op.call { callee := Callee.value (Operand.func 18), args := #[Operand.tmp 50, Operand.tmp 51, Operand.const (Value.int IntKind.i64 0)], argTypes := #[29, 3, 3] }, type := 3, pos := "law.go:141", after := #[{ on := 2, ground := Ground.data }, { on := 3, ground := Ground.data }, { on := 1, ground := Ground.chain }, { on := 1, ground := Ground.guard }], guard := some (1, true) }) rfl (fun K hK => ?_) AllReadyH.nil
          go_simp
          go_at_call 18
          refine (choose_any _ (n + 1 + 1) (n + 1 + 1) k 0 _ (by omega) (by omega) (by omega) (by omega) (by omega)).mono ?_
          rintro e v17 ⟨rfl, hb⟩
          have B8' := Lib.hid (B8.out.below (hb))
          have B7' := Lib.hid (B7.out.below (hb))
          have BB' := Lib.hid (BB.out.trans ((hb).mono BB.out.size))
          clear B8
          have B8 := B8'
          clear B8'
          clear B7
          have B7 := B7'
          clear B7'
          clear BB
          have BB := BB'
          clear BB'
          clear hb
          rw [chooseL_neg (n := n + 1) (by omega) (by omega)]
          go_simp
          refine hK.out _ _ ?_ (fun hHeld => ?_)
          · exact ⟨B8.out.cells1.1, B7.out.cells1.1⟩
          clear hK K
          (try simp only [Act.put])
          (try simp only [List.setIfInBounds_toArray])
          (try simp only [List.set_cons_succ])
          (try simp only [List.set_cons_zero])
          refine wpAnyH_ready (rs := [6]) (by kernel_rfl) (by simp) ?_
          refine AllReadyH.cons (o := { dst := some 54, op := Op.call { callee := Callee.value (Operand.func 13), args := #[Operand.tmp 53], argTypes := #[29] }, type := 3, pos := "law.go:141", after := #[{ on := 5, ground := Ground.data }, { on := 4, ground := Ground.chain }, { on := 1, ground := Ground.guard }], guard := some (1, true) }) rfl (fun K hK => ?_) AllReadyH.nil
          go_simp
          go_at_call 13
          refine (len_c _ (n + 1) (n + 1) _).mono ?_
          rintro e v18 ⟨rfl, hb⟩
          have B8' := Lib.hid (B8.out.below (hb))
          have B7' := Lib.hid (B7.out.below (hb))
          have BB' := Lib.hid (BB.out.trans ((hb).mono BB.out.size))
          clear B8
          have B8 := B8'
          clear B8'
          clear B7
          have B7 := B7'
          clear B7'
          clear BB
          have BB := BB'
          clear BB'
          clear hb
          go_simp
          refine hK.out _ _ ?_ (fun hHeld => ?_)
          · exact ⟨B8.out.cells1.1, B7.out.cells1.1⟩
          clear hK K
          (try simp only [Act.put])
          (try simp only [List.setIfInBounds_toArray])
          (try simp only [List.set_cons_succ])
          (try simp only [List.set_cons_zero])
          refine wpAnyH_take (i := 7) (oi := { dst := some 55, op := Op.binOp BinOp.eql 3 (Operand.tmp 52) (Operand.tmp 54) 3, type := 4, pos := "law.go:141", after := #[{ on := 4, ground := Ground.data }, { on := 6, ground := Ground.data }, { on := 1, ground := Ground.guard }], guard := some (1, true) }) (v := ?d19_5xv7) rfl (by kernel_rfl) (by kernel_rfl) (by kernel_rfl) (fun _ _ _ h => h) (Or.inl ⟨by rfl, ?d19_5xy7⟩) (by assumption) ?d19_5xr7
          case d19_5xy7 => (intro w hSw; (try dsimp only at hSw); go_simp; try with_reducible rfl)
          (try simp only [Act.put])
          (try simp only [List.setIfInBounds_toArray])
          (try simp only [List.set_cons_succ])
          (try simp only [List.set_cons_zero])
          refine wpAnyH_take (i := 8) (oi := { dst := some 56, op := Op.pick (Operand.tmp 49) (Operand.tmp 55) (Operand.const (Value.bool false)), type := 4, pos := "law.go:141", after := #[{ on := 1, ground := Ground.data }, { on := 7, ground := Ground.data }], guard := none }) (v := ?d19_6xv8) rfl (by kernel_rfl) (by kernel_rfl) (by kernel_rfl) (fun _ _ _ h => h) (Or.inl ⟨by rfl, ?d19_6xy8⟩) (by assumption) ?d19_6xr8
          case d19_6xy8 => (intro w hSw; (try dsimp only at hSw); go_simp; try with_reducible rfl)
          (try simp only [Act.put])
          (try simp only [List.setIfInBounds_toArray])
          (try simp only [List.set_cons_succ])
          (try simp only [List.set_cons_zero])
          refine wpAnyH_ready (rs := [9]) (by kernel_rfl) (by simp) ?_
          refine AllReadyH.cons (o := { dst := some 6, op := Op.assign (Operand.tmp 56), type := 4, pos := "law.go:141", after := #[{ on := 8, ground := Ground.data }, { on := 6, ground := Ground.chain }, { on := 0, ground := Ground.phase }, { on := 1, ground := Ground.phase }, { on := 2, ground := Ground.phase }, { on := 3, ground := Ground.phase }, { on := 4, ground := Ground.phase }, { on := 5, ground := Ground.phase }, { on := 6, ground := Ground.phase }, { on := 7, ground := Ground.phase }, { on := 8, ground := Ground.phase }], guard := none }) rfl (fun K hK => ?_) AllReadyH.nil
          go_simp
          refine hK.out _ _ ?_ (fun hHeld => ?_)
          · exact ⟨B8.out.cells1.1, B7.out.cells1.1⟩
          clear hK K
          (try simp only [Act.put])
          (try simp only [List.setIfInBounds_toArray])
          (try simp only [List.set_cons_succ])
          (try simp only [List.set_cons_zero])
          refine wpAnyH_done (by kernel_rfl) ?_ _
          have BB2 := BB.out
          go_wp2
          go_ret
          exact ⟨by simp, BB2⟩
end Go.Proofs.Ytfkfomefelekcaa
