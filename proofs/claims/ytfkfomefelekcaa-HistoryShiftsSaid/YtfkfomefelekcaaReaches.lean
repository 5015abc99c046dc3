/- HistoryReaches: the walk. -/
import Derived.Test.YtfkfomefelekcaaChooses
import Derived.Deep.RegionHeld3
namespace Go.Proofs.Ytfkfomefelekcaa
open Go.RowKit Go.Shelf Go.Maps

/-- Choose with a visible index and a small choice. -/
theorem chooseL_small {n k c : Nat} (hk : k ≤ n) (hc : c < n + 1 - k) : chooseL (n + 1) k c = (n : Int) - c := by
  rw [chooseL_eq (g := (k : Int)) (d := (c : Int)) (x := (c : Int)) (by omega) (by omega) (by omega) (Int.emod_eq_of_lt (by omega) (by omega)).symm]
  omega
theorem chooseL_wrap {n k c : Nat} (hk : k ≤ n) (hc : c < n + 1 - k) : chooseL (n + 1) k ((c : Int) + ((n + 1 - k : Nat) : Int)) = (n : Int) - c := by
  rw [chooseL_eq (g := (k : Int)) (d := (c : Int) + ((n + 1 - k : Nat) : Int)) (x := (c : Int)) (by omega) (by omega) (by omega) ?_]
  · omega
  · rw [show ((n + 1 : Nat) : Int) - 1 - (k : Int) + 1 = ((n + 1 - k : Nat) : Int) by omega, Int.add_emod_right]
    exact (Int.emod_eq_of_lt (by omega) (by omega)).symm
theorem chooseL_neg {n k : Nat} {c : Int} (hk : k ≤ n) (hc : c ≤ 0) : chooseL (n + 1) k c = n := by
  rw [chooseL_eq (g := (k : Int)) (d := 0) (x := 0) (by omega) (by omega) (by omega) (by simp)]
  omega
theorem chooseL_ge {n k : Nat} {c : Int} (hk : k ≤ n) : (k : Int) ≤ chooseL (n + 1) k c ∧ chooseL (n + 1) k c ≤ n := by
  have := chooseL_in (n := n + 1) (f := k) (c := c) (by omega)
  omega

set_option maxRecDepth 100000 in
set_option maxHeartbeats 3200000 in
theorem reaches (v : Value) (l : List One) (t m : Nat) (w : World) (h : IsOnes w v l) (ho : OnesOk l) (ht : t < 256) (hm : m < 256) :
    Calls Try.prog 6 #[v, .int .u8 t, .int .u8 m] w fun e w' => e = .returned (.bool true) ∧ Below w.heap.size w w' := by
  obtain ⟨a, cap, rfl⟩ := h.slice
  have HI := Lib.hid h
  have HO := Lib.hid ho
  have HL := Lib.hid (msgsOf_length 0 0 0 l)
  have BB := Lib.hid (Below.refl w.heap.size w)
  clear h ho
  by_cases hl : 100 < l.length
  · clear HI HO HL
    generalize l.length = n at *
    go_enter Try.func6, Try.ntmps6
    go_wp2_with fail
    refine (awake_any _).mono ?_
    rintro e w1 ⟨rfl, hb⟩
    go_wp2
    go_ret
    exact ⟨rfl, hb⟩
  · obtain ⟨n, hn⟩ : ∃ n, l.length = n := ⟨_, rfl⟩
    have hnl : n ≤ 100 := by omega
    have HN := Lib.hid hn
    rw [hn] at HI HL ⊢
    clear hn hl
    obtain ⟨k, hk⟩ : ∃ k : Nat, (t : Int) % ((n : Int) + 1) = k := ⟨t % (n + 1), by simp⟩
    have hkn : k ≤ n := by have := Int.emod_lt_of_pos (t : Int) (show 0 < (n : Int) + 1 by omega); omega
    obtain ⟨M, hM⟩ : ∃ M : Nat, (n : Int) + 1 - k = M := ⟨n + 1 - k, by omega⟩
    have hM2 : n + 1 - k = M := by omega
    go_enter Try.func6, Try.ntmps6
    go_wp2_with fail
    refine (made_any 0 0 0 _ l _ HI.out (by rw [HN.out]; omega) HO.out).mono ?_
    rintro e a1 hh
    obtain ⟨b, q, hq1, hq2, hq3, hq4, rfl, hq5, hb⟩ := hh.block
    clear hh hq5 hq3 hq4 hq2 hq1
    rw [HL.out]
    have HI' := Lib.hid (HI.out.below (hb))
    have BB' := Lib.hid (BB.out.trans ((hb).mono BB.out.size))
    clear HI
    have HI := HI'
    clear HI'
    clear BB
    have BB := BB'
    clear BB'
    clear hb HI HO
    go_wp2_with fail
    have hlt_b7 := BB.out.size
    have BB' := Lib.hid (BB.out.trans ((below_new a1 (.cells #[.slice (some ⟨b, 0, none⟩) (n + 1) (n + 1)] 29)).mono BB.out.size))
    clear BB
    have BB := BB'
    clear BB'
    have K0 := Lib.hid (Box.new a1 #[.slice (some ⟨b, 0, none⟩) (n + 1) (n + 1)] 29 rfl)
    generalize World.alloc a1 (.cells #[.slice (some ⟨b, 0, none⟩) (n + 1) (n + 1)] 29) = a2 at *
    generalize World.heap a1 = hp_b7 at *
    generalize hp_b7.size = b7 at *
    refine (len_c _ (n + 1) (n + 1) _).mono ?_
    rintro e a3 ⟨rfl, hb⟩
    have K0' := Lib.hid (K0.out.below (hb))
    have BB' := Lib.hid (BB.out.trans ((hb).mono BB.out.size))
    clear K0
    have K0 := K0'
    clear K0'
    clear BB
    have BB := BB'
    clear BB'
    clear hb
    have kc0 := K0.out.cells1.1
    go_wp2_with fail
    clear kc0
    refine (len_c _ (n + 1) (n + 1) _).mono ?_
    rintro e a4 ⟨rfl, hb⟩
    have K0' := Lib.hid (K0.out.below (hb))
    have BB' := Lib.hid (BB.out.trans ((hb).mono BB.out.size))
    clear K0
    have K0 := K0'
    clear K0'
    clear BB
    have BB := BB'
    clear BB'
    clear hb
    have kc0 := K0.out.cells1.1
    go_wp2_with fail
    clear kc0
    refine (len_c _ (n + 1) (n + 1) _).mono ?_
    rintro e a5 ⟨rfl, hb⟩
    have K0' := Lib.hid (K0.out.below (hb))
    have BB' := Lib.hid (BB.out.trans ((hb).mono BB.out.size))
    clear K0
    have K0 := K0'
    clear K0'
    clear BB
    have BB := BB'
    clear BB'
    clear hb
    have kc0 := K0.out.cells1.1
    go_wp2_with fail
    clear kc0
    go_loopw [32] (fun iv wr => ∃ c : Nat, c ≤ M ∧ iv = .int .i64 c ∧ Box wr b7 #[.slice (some ⟨b, 0, none⟩) (n + 1) (n + 1)] 29 ∧ Below w.heap.size w wr) (fun iv _ => M - (intOf iv).toNat)
    case atStart => exact ⟨0, by omega, by simp, K0.out, BB.out⟩
    case round =>
      obtain ⟨c, hc, rfl, K0', BB'⟩ := hrel
      clear K0 BB
      have K0 := Lib.hid K0'
      have BB := Lib.hid BB'
      clear K0' BB'
      by_cases hlt : c < M
      · skip
        have kc0 := K0.out.cells1.1
        go_wp2_with fail
        clear kc0
        refine (choose_any _ (n + 1) (n + 1) k c _ (by omega) (by omega) (by omega) (by omega) (by omega)).mono ?_
        rintro e a6 ⟨rfl, hb⟩
        have K0' := Lib.hid (K0.out.below (hb))
        have BB' := Lib.hid (BB.out.trans ((hb).mono BB.out.size))
        clear K0
        have K0 := K0'
        clear K0'
        clear BB
        have BB := BB'
        clear BB'
        clear hb
        rw [chooseL_small hkn (by omega)]
        have kc0 := K0.out.cells1.1
        go_wp2_with fail
        clear kc0
        refine (len_c _ (n + 1) (n + 1) _).mono ?_
        rintro e a7 ⟨rfl, hb⟩
        have K0' := Lib.hid (K0.out.below (hb))
        have BB' := Lib.hid (BB.out.trans ((hb).mono BB.out.size))
        clear K0
        have K0 := K0'
        clear K0'
        clear BB
        have BB := BB'
        clear BB'
        clear hb
        have kc0 := K0.out.cells1.1
        go_wp2_with fail
        clear kc0
        refine (choose_any _ (n + 1) (n + 1) k ((c : Int) + M) _ (by omega) (by omega) (by omega) (by omega) (by omega)).mono ?_
        rintro e a8 ⟨rfl, hb⟩
        have K0' := Lib.hid (K0.out.below (hb))
        have BB' := Lib.hid (BB.out.trans ((hb).mono BB.out.size))
        clear K0
        have K0 := K0'
        clear K0'
        clear BB
        have BB := BB'
        clear BB'
        clear hb
        rw [show chooseL (n + 1) k ((c : Int) + M) = (n : Int) - c by rw [← hM2]; exact chooseL_wrap hkn (by omega)]
        go_wp2
        go_roundw
        case rel => exact ⟨c + 1, by omega, by simp, K0.out, BB.out⟩
        case measure => (simp [intOf]; omega)
      · skip
        have he : c = M := by omega
        subst he
        have kc0 := K0.out.cells1.1
        go_wp2_with fail
        clear kc0
        have K0' := Lib.hid (K0.out.below ((Below.refl _ _).drew))
        have BB' := Lib.hid (BB.out.trans (((Below.refl _ _).drew).mono BB.out.size))
        clear K0
        have K0 := K0'
        clear K0'
        clear BB
        have BB := BB'
        clear BB'
        refine wp_region_held_drew (S := fun w' => w'.cell? ⟨b7, 0, none⟩ = some (.slice (some ⟨b, 0, none⟩) (n + 1) (n + 1))) (by kernel_rfl) K0.out.cells1.1 (fun hHeld => ?_)
        generalize World.drew wr = V0 at *
        refine wpAnyH_ready (rs := [0]) (by kernel_rfl) (by simp) ?_
        refine AllReadyH.cons (o := { dst := some 62, op := Op.call { callee := Callee.value (Operand.func 8), args := #[], argTypes := #[] }, type := 4, pos := "law.go:122", after := #[], guard := none }) rfl (fun K hK => ?_) AllReadyH.nil
        go_simp
        go_at_call 8
        refine (awake_any _).mono ?_
        rintro e v1 ⟨rfl, hb⟩
        have K0' := Lib.hid (K0.out.below (hb))
        have BB' := Lib.hid (BB.out.trans ((hb).mono BB.out.size))
        clear K0
        have K0 := K0'
        clear K0'
        clear BB
        have BB := BB'
        clear BB'
        clear hb
        go_simp
        refine hK.out _ _ ?_ (fun hHeld => ?_)
        · exact K0.out.cells1.1
        clear hK K
        (try simp only [Act.put])
        (try simp only [List.setIfInBounds_toArray])
        (try simp only [List.set_cons_succ])
        (try simp only [List.set_cons_zero])
        refine wpAnyH_take (i := 1) (oi := { dst := some 63, op := Op.move (Operand.tmp 62), type := 4, pos := "law.go:122", after := #[{ on := 0, ground := Ground.data }, { on := 0, ground := Ground.chain }], guard := none }) (v := ?d2_1xv1) rfl (by kernel_rfl) (by kernel_rfl) (by kernel_rfl) (fun _ _ _ h => h) (Or.inl ⟨by rfl, ?d2_1xy1⟩) (by assumption) ?d2_1xr1
        case d2_1xy1 => (intro w hSw; (try dsimp only at hSw); go_simp; try with_reducible rfl)
        (try simp only [Act.put])
        (try simp only [List.setIfInBounds_toArray])
        (try simp only [List.set_cons_succ])
        (try simp only [List.set_cons_zero])
        refine wpAnyH_take (i := 2) (oi := { dst := some 64, op := Op.load 29 (Operand.tmp 7), type := 29, pos := "law.go:122", after := #[{ on := 1, ground := Ground.guard }], guard := some (1, true) }) (v := ?d2_2xv2) rfl (by kernel_rfl) (by kernel_rfl) (by kernel_rfl) (fun _ _ _ h => h) (Or.inl ⟨by rfl, ?d2_2xy2⟩) (by assumption) ?d2_2xr2
        case d2_2xy2 => (intro w hSw; (try dsimp only at hSw); go_simp; try with_reducible rfl)
        (try simp only [Act.put])
        (try simp only [List.setIfInBounds_toArray])
        (try simp only [List.set_cons_succ])
        (try simp only [List.set_cons_zero])
        refine wpAnyH_take (i := 3) (oi := { dst := some 65, op := Op.move (Operand.tmp 8), type := 3, pos := "law.go:122", after := #[{ on := 1, ground := Ground.guard }], guard := some (1, true) }) (v := ?d2_3xv3) rfl (by kernel_rfl) (by kernel_rfl) (by kernel_rfl) (fun _ _ _ h => h) (Or.inl ⟨by rfl, ?d2_3xy3⟩) (by assumption) ?d2_3xr3
        case d2_3xy3 => (intro w hSw; (try dsimp only at hSw); go_simp; try with_reducible rfl)
        (try simp only [Act.put])
        (try simp only [List.setIfInBounds_toArray])
        (try simp only [List.set_cons_succ])
        (try simp only [List.set_cons_zero])
        refine wpAnyH_take (i := 4) (oi := { dst := some 66, op := Op.move (Operand.tmp 2), type := 5, pos := "law.go:122", after := #[{ on := 1, ground := Ground.guard }], guard := some (1, true) }) (v := ?d2_4xv4) rfl (by kernel_rfl) (by kernel_rfl) (by kernel_rfl) (fun _ _ _ h => h) (Or.inl ⟨by rfl, ?d2_4xy4⟩) (by assumption) ?d2_4xr4
        case d2_4xy4 => (intro w hSw; (try dsimp only at hSw); go_simp; try with_reducible rfl)
        (try simp only [Act.put])
        (try simp only [List.setIfInBounds_toArray])
        (try simp only [List.set_cons_succ])
        (try simp only [List.set_cons_zero])
        refine wpAnyH_take (i := 5) (oi := { dst := some 67, op := Op.convert 5 3 (Operand.tmp 66), type := 3, pos := "law.go:122", after := #[{ on := 4, ground := Ground.data }, { on := 1, ground := Ground.guard }], guard := some (1, true) }) (v := ?d2_5xv5) rfl (by kernel_rfl) (by kernel_rfl) (by kernel_rfl) (fun _ _ _ h => h) (Or.inl ⟨by rfl, ?d2_5xy5⟩) (by assumption) ?d2_5xr5
        case d2_5xy5 => (intro w hSw; (try dsimp only at hSw); go_simp; try with_reducible rfl)
        (try simp only [Act.put])
        (try simp only [List.setIfInBounds_toArray])
        (try simp only [List.set_cons_succ])
        (try simp only [List.set_cons_zero])
        refine wpAnyH_take (i := 7) (oi := { dst := some 69, op := Op.move (Operand.tmp 8), type := 3, pos := "law.go:122", after := #[{ on := 1, ground := Ground.guard }], guard := some (1, true) }) (v := ?d2_6xv7) rfl (by kernel_rfl) (by kernel_rfl) (by kernel_rfl) (fun _ _ _ h => h) (Or.inl ⟨by rfl, ?d2_6xy7⟩) (by assumption) ?d2_6xr7
        case d2_6xy7 => (intro w hSw; (try dsimp only at hSw); go_simp; try with_reducible rfl)
        (try simp only [Act.put])
        (try simp only [List.setIfInBounds_toArray])
        (try simp only [List.set_cons_succ])
        (try simp only [List.set_cons_zero])
        refine wpAnyH_ready (rs := [6]) (by kernel_rfl) (by simp) ?_
        refine AllReadyH.cons (o := { dst := some 68, op := Op.call { callee := Callee.value (Operand.func 18), args := #[Operand.tmp 64, Operand.tmp 65, Operand.tmp 67], argTypes := #[29, 3, 3] }, type := 3, pos := "law.go:122", after := #[{ on := 2, ground := Ground.data }, { on := 3, ground := Ground.data }, { on := 5, ground := Ground.data }, { on := 1, ground := Ground.chain }, { on := 1, ground := Ground.guard }], guard := some (1, true) }) rfl (fun K hK => ?_) AllReadyH.nil
        go_simp
        go_at_call 18
        (try rw [IntWalk.i64_in (m : Int) (by omega)])
        refine (choose_any _ (n + 1) (n + 1) k m _ (by omega) (by omega) (by omega) (by omega) (by omega)).mono ?_
        rintro e v2 ⟨rfl, hb⟩
        have K0' := Lib.hid (K0.out.below (hb))
        have BB' := Lib.hid (BB.out.trans ((hb).mono BB.out.size))
        clear K0
        have K0 := K0'
        clear K0'
        clear BB
        have BB := BB'
        clear BB'
        clear hb
        obtain ⟨x1, hx1, hx2, hx3⟩ : ∃ x, chooseL (n + 1) k m = x ∧ (k : Int) ≤ x ∧ x ≤ n := ⟨_, rfl, chooseL_ge hkn⟩
        rw [hx1]
        go_simp
        refine hK.out _ _ ?_ (fun hHeld => ?_)
        · exact K0.out.cells1.1
        clear hK K
        (try simp only [Act.put])
        (try simp only [List.setIfInBounds_toArray])
        (try simp only [List.set_cons_succ])
        (try simp only [List.set_cons_zero])
        refine wpAnyH_take (i := 8) (oi := { dst := some 70, op := Op.binOp BinOp.geq 3 (Operand.tmp 68) (Operand.tmp 69) 3, type := 4, pos := "law.go:122", after := #[{ on := 6, ground := Ground.data }, { on := 7, ground := Ground.data }, { on := 1, ground := Ground.guard }], guard := some (1, true) }) (v := ?d3_7xv8) rfl (by kernel_rfl) (by kernel_rfl) (by kernel_rfl) (fun _ _ _ h => h) (Or.inl ⟨by rfl, ?d3_7xy8⟩) (by assumption) ?d3_7xr8
        case d3_7xy8 => (intro w hSw; (try dsimp only at hSw); go_simp; try with_reducible rfl)
        (try simp only [Act.put])
        (try simp only [List.setIfInBounds_toArray])
        (try simp only [List.set_cons_succ])
        (try simp only [List.set_cons_zero])
        refine wpAnyH_take (i := 9) (oi := { dst := some 71, op := Op.pick (Operand.tmp 63) (Operand.tmp 70) (Operand.const (Value.bool false)), type := 4, pos := "law.go:122", after := #[{ on := 1, ground := Ground.data }, { on := 8, ground := Ground.data }], guard := none }) (v := ?d3_8xv9) rfl (by kernel_rfl) (by kernel_rfl) (by kernel_rfl) (fun _ _ _ h => h) (Or.inl ⟨by rfl, ?d3_8xy9⟩) (by assumption) ?d3_8xr9
        case d3_8xy9 => (intro w hSw; (try dsimp only at hSw); go_simp; try with_reducible rfl)
        (try simp only [Act.put])
        (try simp only [List.setIfInBounds_toArray])
        (try simp only [List.set_cons_succ])
        (try simp only [List.set_cons_zero])
        refine wpAnyH_take (i := 10) (oi := { dst := some 72, op := Op.move (Operand.tmp 71), type := 4, pos := "law.go:122", after := #[{ on := 9, ground := Ground.data }, { on := 6, ground := Ground.chain }], guard := none }) (v := ?d3_9xv10) rfl (by kernel_rfl) (by kernel_rfl) (by kernel_rfl) (fun _ _ _ h => h) (Or.inl ⟨by rfl, ?d3_9xy10⟩) (by assumption) ?d3_9xr10
        case d3_9xy10 => (intro w hSw; (try dsimp only at hSw); go_simp; try with_reducible rfl)
        (try simp only [Act.put])
        (try simp only [List.setIfInBounds_toArray])
        (try simp only [List.set_cons_succ])
        (try simp only [List.set_cons_zero])
        refine wpAnyH_take (i := 11) (oi := { dst := some 73, op := Op.load 29 (Operand.tmp 7), type := 29, pos := "law.go:122", after := #[{ on := 10, ground := Ground.guard }], guard := some (10, true) }) (v := ?d3_10xv11) rfl (by kernel_rfl) (by kernel_rfl) (by kernel_rfl) (fun _ _ _ h => h) (Or.inl ⟨by rfl, ?d3_10xy11⟩) (by assumption) ?d3_10xr11
        case d3_10xy11 => (intro w hSw; (try dsimp only at hSw); go_simp; try with_reducible rfl)
        (try simp only [Act.put])
        (try simp only [List.setIfInBounds_toArray])
        (try simp only [List.set_cons_succ])
        (try simp only [List.set_cons_zero])
        refine wpAnyH_take (i := 12) (oi := { dst := some 74, op := Op.move (Operand.tmp 8), type := 3, pos := "law.go:122", after := #[{ on := 10, ground := Ground.guard }], guard := some (10, true) }) (v := ?d3_11xv12) rfl (by kernel_rfl) (by kernel_rfl) (by kernel_rfl) (fun _ _ _ h => h) (Or.inl ⟨by rfl, ?d3_11xy12⟩) (by assumption) ?d3_11xr12
        case d3_11xy12 => (intro w hSw; (try dsimp only at hSw); go_simp; try with_reducible rfl)
        (try simp only [Act.put])
        (try simp only [List.setIfInBounds_toArray])
        (try simp only [List.set_cons_succ])
        (try simp only [List.set_cons_zero])
        refine wpAnyH_take (i := 13) (oi := { dst := some 75, op := Op.move (Operand.tmp 2), type := 5, pos := "law.go:122", after := #[{ on := 10, ground := Ground.guard }], guard := some (10, true) }) (v := ?d3_12xv13) rfl (by kernel_rfl) (by kernel_rfl) (by kernel_rfl) (fun _ _ _ h => h) (Or.inl ⟨by rfl, ?d3_12xy13⟩) (by assumption) ?d3_12xr13
        case d3_12xy13 => (intro w hSw; (try dsimp only at hSw); go_simp; try with_reducible rfl)
        (try simp only [Act.put])
        (try simp only [List.setIfInBounds_toArray])
        (try simp only [List.set_cons_succ])
        (try simp only [List.set_cons_zero])
        refine wpAnyH_take (i := 14) (oi := { dst := some 76, op := Op.convert 5 3 (Operand.tmp 75), type := 3, pos := "law.go:122", after := #[{ on := 13, ground := Ground.data }, { on := 10, ground := Ground.guard }], guard := some (10, true) }) (v := ?d3_13xv14) rfl (by kernel_rfl) (by kernel_rfl) (by kernel_rfl) (fun _ _ _ h => h) (Or.inl ⟨by rfl, ?d3_13xy14⟩) (by assumption) ?d3_13xr14
        case d3_13xy14 => (intro w hSw; (try dsimp only at hSw); go_simp; try with_reducible rfl)
        (try simp only [Act.put])
        (try simp only [List.setIfInBounds_toArray])
        (try simp only [List.set_cons_succ])
        (try simp only [List.set_cons_zero])
        refine wpAnyH_take (i := 15) (oi := { dst := some 77, op := Op.unOp UnOp.neg 3 (Operand.tmp 76), type := 3, pos := "law.go:122", after := #[{ on := 14, ground := Ground.data }, { on := 10, ground := Ground.guard }], guard := some (10, true) }) (v := ?d3_14xv15) rfl (by kernel_rfl) (by kernel_rfl) (by kernel_rfl) (fun _ _ _ h => h) (Or.inl ⟨by rfl, ?d3_14xy15⟩) (by assumption) ?d3_14xr15
        case d3_14xy15 => (intro w hSw; (try dsimp only at hSw); go_simp; try with_reducible rfl)
        (try simp only [Act.put])
        (try simp only [List.setIfInBounds_toArray])
        (try simp only [List.set_cons_succ])
        (try simp only [List.set_cons_zero])
        refine wpAnyH_take (i := 17) (oi := { dst := some 79, op := Op.load 29 (Operand.tmp 7), type := 29, pos := "law.go:122", after := #[{ on := 10, ground := Ground.guard }], guard := some (10, true) }) (v := ?d3_15xv17) rfl (by kernel_rfl) (by kernel_rfl) (by kernel_rfl) (fun _ _ _ h => h) (Or.inl ⟨by rfl, ?d3_15xy17⟩) (by assumption) ?d3_15xr17
        case d3_15xy17 => (intro w hSw; (try dsimp only at hSw); go_simp; try with_reducible rfl)
        (try simp only [Act.put])
        (try simp only [List.setIfInBounds_toArray])
        (try simp only [List.set_cons_succ])
        (try simp only [List.set_cons_zero])
        refine wpAnyH_ready (rs := [16]) (by kernel_rfl) (by simp) ?_
        refine AllReadyH.cons (o := { dst := some 78, op := Op.call { callee := Callee.value (Operand.func 18), args := #[Operand.tmp 73, Operand.tmp 74, Operand.tmp 77], argTypes := #[29, 3, 3] }, type := 3, pos := "law.go:122", after := #[{ on := 11, ground := Ground.data }, { on := 12, ground := Ground.data }, { on := 15, ground := Ground.data }, { on := 10, ground := Ground.chain }, { on := 10, ground := Ground.guard }], guard := some (10, true) }) rfl (fun K hK => ?_) AllReadyH.nil
        go_simp
        go_at_call 18
        (try rw [IntWalk.i64_in (m : Int) (by omega)])
        (try rw [IntWalk.i64_in (-(m : Int)) (by omega)])
        refine (choose_any _ (n + 1) (n + 1) k (-(m : Int)) _ (by omega) (by omega) (by omega) (by omega) (by omega)).mono ?_
        rintro e v3 ⟨rfl, hb⟩
        have K0' := Lib.hid (K0.out.below (hb))
        have BB' := Lib.hid (BB.out.trans ((hb).mono BB.out.size))
        clear K0
        have K0 := K0'
        clear K0'
        clear BB
        have BB := BB'
        clear BB'
        clear hb
        rw [chooseL_neg hkn (by omega)]
        go_simp
        refine hK.out _ _ ?_ (fun hHeld => ?_)
        · exact K0.out.cells1.1
        clear hK K
        (try simp only [Act.put])
        (try simp only [List.setIfInBounds_toArray])
        (try simp only [List.set_cons_succ])
        (try simp only [List.set_cons_zero])
        refine wpAnyH_ready (rs := [18]) (by kernel_rfl) (by simp) ?_
        refine AllReadyH.cons (o := { dst := some 80, op := Op.call { callee := Callee.value (Operand.func 13), args := #[Operand.tmp 79], argTypes := #[29] }, type := 3, pos := "law.go:122", after := #[{ on := 17, ground := Ground.data }, { on := 16, ground := Ground.chain }, { on := 10, ground := Ground.guard }], guard := some (10, true) }) rfl (fun K hK => ?_) AllReadyH.nil
        go_simp
        go_at_call 13
        refine (len_c _ (n + 1) (n + 1) _).mono ?_
        rintro e v4 ⟨rfl, hb⟩
        have K0' := Lib.hid (K0.out.below (hb))
        have BB' := Lib.hid (BB.out.trans ((hb).mono BB.out.size))
        clear K0
        have K0 := K0'
        clear K0'
        clear BB
        have BB := BB'
        clear BB'
        clear hb
        go_simp
        refine hK.out _ _ ?_ (fun hHeld => ?_)
        · exact K0.out.cells1.1
        clear hK K
        (try simp only [Act.put])
        (try simp only [List.setIfInBounds_toArray])
        (try simp only [List.set_cons_succ])
        (try simp only [List.set_cons_zero])
        refine wpAnyH_take (i := 19) (oi := { dst := some 81, op := Op.binOp BinOp.sub 3 (Operand.tmp 80) (Operand.const (Value.int IntKind.i64 1)) 3, type := 3, pos := "law.go:122", after := #[{ on := 18, ground := Ground.data }, { on := 10, ground := Ground.guard }], guard := some (10, true) }) (v := ?d5_16xv19) rfl (by kernel_rfl) (by kernel_rfl) (by kernel_rfl) (fun _ _ _ h => h) (Or.inl ⟨by rfl, ?d5_16xy19⟩) (by assumption) ?d5_16xr19
        case d5_16xy19 => (intro w hSw; (try dsimp only at hSw); go_simp; try with_reducible rfl)
        (try simp only [Act.put])
        (try simp only [List.setIfInBounds_toArray])
        (try simp only [List.set_cons_succ])
        (try simp only [List.set_cons_zero])
        refine wpAnyH_take (i := 20) (oi := { dst := some 82, op := Op.binOp BinOp.eql 3 (Operand.tmp 78) (Operand.tmp 81) 3, type := 4, pos := "law.go:122", after := #[{ on := 16, ground := Ground.data }, { on := 19, ground := Ground.data }, { on := 10, ground := Ground.guard }], guard := some (10, true) }) (v := ?d5_17xv20) rfl (by kernel_rfl) (by kernel_rfl) (by kernel_rfl) (fun _ _ _ h => h) (Or.inl ⟨by rfl, ?d5_17xy20⟩) (by assumption) ?d5_17xr20
        case d5_17xy20 => (intro w hSw; (try dsimp only at hSw); go_simp; try with_reducible rfl)
        (try simp only [Act.put])
        (try simp only [List.setIfInBounds_toArray])
        (try simp only [List.set_cons_succ])
        (try simp only [List.set_cons_zero])
        refine wpAnyH_take (i := 21) (oi := { dst := some 83, op := Op.pick (Operand.tmp 72) (Operand.tmp 82) (Operand.const (Value.bool false)), type := 4, pos := "law.go:122", after := #[{ on := 10, ground := Ground.data }, { on := 20, ground := Ground.data }], guard := none }) (v := ?d5_18xv21) rfl (by kernel_rfl) (by kernel_rfl) (by kernel_rfl) (fun _ _ _ h => h) (Or.inl ⟨by rfl, ?d5_18xy21⟩) (by assumption) ?d5_18xr21
        case d5_18xy21 => (intro w hSw; (try dsimp only at hSw); go_simp; try with_reducible rfl)
        (try simp only [Act.put])
        (try simp only [List.setIfInBounds_toArray])
        (try simp only [List.set_cons_succ])
        (try simp only [List.set_cons_zero])
        refine wpAnyH_ready (rs := [22]) (by kernel_rfl) (by simp) ?_
        refine AllReadyH.cons (o := { dst := some 6, op := Op.assign (Operand.tmp 83), type := 4, pos := "law.go:122", after := #[{ on := 21, ground := Ground.data }, { on := 18, ground := Ground.chain }, { on := 0, ground := Ground.phase }, { on := 1, ground := Ground.phase }, { on := 2, ground := Ground.phase }, { on := 3, ground := Ground.phase }, { on := 4, ground := Ground.phase }, { on := 5, ground := Ground.phase }, { on := 6, ground := Ground.phase }, { on := 7, ground := Ground.phase }, { on := 8, ground := Ground.phase }, { on := 9, ground := Ground.phase }, { on := 10, ground := Ground.phase }, { on := 11, ground := Ground.phase }, { on := 12, ground := Ground.phase }, { on := 13, ground := Ground.phase }, { on := 14, ground := Ground.phase }, { on := 15, ground := Ground.phase }, { on := 16, ground := Ground.phase }, { on := 17, ground := Ground.phase }, { on := 18, ground := Ground.phase }, { on := 19, ground := Ground.phase }, { on := 20, ground := Ground.phase }, { on := 21, ground := Ground.phase }], guard := none }) rfl (fun K hK => ?_) AllReadyH.nil
        go_simp
        refine hK.out _ _ ?_ (fun hHeld => ?_)
        · exact K0.out.cells1.1
        clear hK K
        (try simp only [Act.put])
        (try simp only [List.setIfInBounds_toArray])
        (try simp only [List.set_cons_succ])
        (try simp only [List.set_cons_zero])
        refine wpAnyH_done (by kernel_rfl) ?_ _
        have BB2 := BB.out
        go_wp2
        go_ret
        exact ⟨by simp; exact (IntWalk.i64_in _ (by omega)).symm, BB2⟩
end Go.Proofs.Ytfkfomefelekcaa
