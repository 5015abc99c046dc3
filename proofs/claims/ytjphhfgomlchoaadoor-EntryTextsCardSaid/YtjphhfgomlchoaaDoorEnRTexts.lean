/- The reference's text of a list of entries. -/
import Derived.Test.YtjphhfgomlchoaaDoorEnTens
import Derived.Test.YtjphhfgomlchoaaDoorEnJoin
namespace Go.Proofs.YtjphhfgomlchoaaDoor
open Go.ChangeShapes Go.WideShapes Go.ChangeAt Go.RowKit
theorem textL_succ (L : List En) {k : Nat} (h : k < L.length) : textL (L.take (k + 1)) = textL (L.take k) ++ (if k = 0 then [] else [32]) ++ textE L[k]! := by
  cases L with
  | nil => simp at h
  | cons x r =>
    cases k with
    | zero => simp [textL, Lib.join_one, Lib.join_nil]
    | succ j =>
      have hj : j < r.length := by simpa using h
      have h2 : (r.map textE)[j]? = some (textE r[j]!) := by rw [List.getElem?_map, List.getElem?_eq_getElem hj, getElem!_pos r j hj]; rfl
      have h3 := Lib.joinTail_take_succ [32] (r.map textE) j _ h2
      unfold textL
      rw [List.take_succ_cons, List.take_succ_cons, List.map_cons, List.map_cons, Lib.join_cons, Lib.join_cons, List.map_take, List.map_take, h3, if_neg (by omega)]
      simp
theorem val_str {a b : ByteArray} (h : a = b) : Value.string a = .string b := by rw [h]
theorem sumF (s : ByteArray) (A T : List UInt8) : s ++ ByteArray.mk A.toArray ++ ByteArray.mk #[58] ++ ByteArray.mk T.toArray = ⟨(s.data.toList ++ (A ++ 58 :: (T ++ []))).toArray⟩ := by
  apply ByteArray.ext
  simp
theorem sumT (s : ByteArray) (A T N : List UInt8) : s ++ ByteArray.mk A.toArray ++ ByteArray.mk #[58] ++ ByteArray.mk T.toArray ++ ByteArray.mk #[61] ++ ByteArray.mk N.toArray = ⟨(s.data.toList ++ (A ++ 58 :: (T ++ 61 :: N))).toArray⟩ := by
  apply ByteArray.ext
  simp
set_option maxRecDepth 100000 in
set_option maxHeartbeats 6400000 in
theorem rtextL_any (v : Value) (L : List En) (w : World) (hv : ES w v L) (hl : L.length ≤ 1000) (ho : ∀ e ∈ L, OkE e) : Calls Tryd.prog 18 #[v] w fun e w' => e = .returned (.string ⟨(textL L).toArray⟩) ∧ Below w.heap.size w w' := by
  have HV := Lib.hid hv
  have OK := Lib.hid ho
  obtain ⟨a1, cp, rfl, hcap⟩ := hv.form
  clear hv ho
  obtain ⟨n, hn⟩ : ∃ n, L.length = n := ⟨_, rfl⟩
  rw [hn] at HV hl hcap ⊢
  have HN := Lib.hid hn
  clear hn
  go_enter Tryd.func18, Tryd.ntmps18
  go_wp2_with fail
  go_loopw [3, 4] (fun sv iv wr => ∃ k : Nat, k ≤ n ∧ iv = .int .i64 k ∧ sv = .string ⟨(textL (L.take k)).toArray⟩ ∧ Below w.heap.size w wr) (fun _ iv _ => n - (intOf iv).toNat)
  case atStart => exact ⟨0, by omega, rfl, rfl, Below.refl _ _⟩
  case round =>
    obtain ⟨k, hk, rfl, rfl, hb⟩ := hrel
    have BB := Lib.hid hb
    clear hb
    by_cases hlt : k < n
    · obtain ⟨b, off, rfl, hbl, hln, hc⟩ := HV.out.addr hlt
      obtain ⟨c0, c1, c2, c3, c4, c5⟩ := en_cells hc (by rw [hln]; exact hlt)
      have HBL := Lib.hid hbl
      have hmem : L[k]! ∈ L := by rw [getElem!_pos L k (by rw [hln]; exact hlt)]; exact List.getElem_mem _
      have OY := OK.out _ hmem
      have TS := Lib.hid (textL_succ L (k := k) (by rw [hln]; exact hlt))
      have hsz : (textL (L.take k)).length ≤ 301 * 1000 := by
        have h1 := join_len ((L.take k).map textE) 300 (fun x hx => by
          obtain ⟨e, he, rfl⟩ := List.mem_map.1 hx
          exact textE_len e (OK.out e (List.mem_of_mem_take he)))
        rw [List.length_map, List.length_take] at h1
        have h2 : min k L.length * (300 + 1) ≤ 1000 * 301 := Nat.mul_le_mul (by omega) (by omega)
        unfold textL; omega
      clear hmem hc hln
      obtain ⟨y, hy⟩ : ∃ y, L[k]! = y := ⟨_, rfl⟩
      rw [hy] at c0 c1 c2 c3 c4 c5 TS OY
      clear hy
      obtain ⟨y0, ⟨y1, y2, y3⟩, y4, y5⟩ := y
      obtain ⟨⟨a0, a1'⟩, ⟨⟨v0, v1⟩, ⟨n0, n1⟩, ⟨r0, r1⟩⟩, ⟨z0, z1⟩⟩ := OY
      unfold textE at TS
      simp only at a0 a1' v0 v1 n0 n1 r0 r1 z0 z1 c0 c1 c2 c3 c4 c5 TS
      have TI := Lib.hid (show ∀ W, Calls Tryd.prog 35 #[.int .i64 y0] W fun e w' => e = .returned (.string ⟨(Lib.itoa y0).toArray⟩) ∧ Below W.heap.size W w' from fun W => tensI_any y0 W (by omega) (by omega))
      have TJ := Lib.hid (show ∀ W, Calls Tryd.prog 35 #[.int .i64 y4] W fun e w' => e = .returned (.string ⟨(Lib.itoa y4).toArray⟩) ∧ Below W.heap.size W w' from fun W => tensI_any y4 W (by omega) (by omega))
      have TX := Lib.hid (fun W => rtext_any y1 y2 y3 W (by omega) (by omega) n0 n1 r0 r1)
      have lA := Lib.itoa_length_le y0 (by omega) (by omega)
      have lN := Lib.itoa_length_le y4 (by omega) (by omega)
      have lT := textOf_len y1 y2 y3 (by omega) (by omega) n1 r1
      obtain ⟨A, hA⟩ : ∃ l, Lib.itoa y0 = l := ⟨_, rfl⟩
      obtain ⟨N, hN⟩ : ∃ l, Lib.itoa y4 = l := ⟨_, rfl⟩
      obtain ⟨T, hT⟩ : ∃ l, textOf y1 y2 y3 = l := ⟨_, rfl⟩
      rw [hA] at TI TS lA
      rw [hN] at TJ TS lN
      rw [hT] at TX TS lT
      clear hA hN hT a0 a1' v0 v1 n0 n1 r0 r1 z0 z1
      have C0 := Lib.hid c0
      have C1 := Lib.hid c1
      have C2 := Lib.hid c2
      have C3 := Lib.hid c3
      have C4 := Lib.hid c4
      have C5 := Lib.hid c5
      clear c0 c1 c2 c3 c4 c5
      obtain ⟨S, hS⟩ : ∃ S, textL (L.take k) = S := ⟨_, rfl⟩
      rw [hS] at TS hsz ⊢
      clear hS
      by_cases hk0 : k = 0
      · have hki : ¬ 0 < (k : Int) := by omega
        rw [if_pos hk0, List.append_nil] at TS
        clear hk0
        go_upto_region 7 with fail
        obtain ⟨s2, hs2⟩ : ∃ s2, ByteArray.mk S.toArray = s2 := ⟨_, rfl⟩
        have HS2 : Hid (s2.data.toList = S) := Lib.hid (by rw [← hs2])
        have lS : s2.size ≤ 400000 := by rw [← hs2]; show S.toArray.size ≤ _; simp; omega
        rw [hs2]
        clear hs2 hsz
        have q1 : ¬ 9223372036854775807 < s2.size + A.length := by omega
        have q2 : ¬ 9223372036854775807 < s2.size + A.length + 1 := by omega
        have q3 : ¬ 9223372036854775807 < s2.size + A.length + 1 + T.length := by omega
        have q4 : ¬ 9223372036854775807 < s2.size + A.length + 1 + T.length + 1 := by omega
        have q5 : ¬ 9223372036854775807 < s2.size + A.length + 1 + T.length + 1 + N.length := by omega
        replace BB := Lib.hid (BB.out.trans (((Below.refl _ _).drew).mono BB.out.size))
        refine wp_region_held_drew (S := fun w' => w'.cell? ⟨b, off + k * 6, none⟩ = some (.int .i64 y0) ∧ w'.cell? ⟨b, off + k * 6 + 1, none⟩ = some (.int .i64 y1) ∧ w'.cell? ⟨b, off + k * 6 + 2, none⟩ = some (.int .u32 y2) ∧ w'.cell? ⟨b, off + k * 6 + 3, none⟩ = some (.int .u32 y3)) (by kernel_rfl) ⟨((BB.out.cell (p := ⟨b, off + k * 6, none⟩) HBL.out).trans C0.out), ((BB.out.cell (p := ⟨b, off + k * 6 + 1, none⟩) HBL.out).trans C1.out), ((BB.out.cell (p := ⟨b, off + k * 6 + 2, none⟩) HBL.out).trans C2.out), ((BB.out.cell (p := ⟨b, off + k * 6 + 3, none⟩) HBL.out).trans C3.out)⟩ (fun hHeld => ?_)
        generalize World.drew wr = V0 at *
        refine wpAnyH_take (i := 0) (oi := { dst := some 15, op := Op.move (Operand.tmp 3), type := 9, pos := "ref.go:150", after := #[], guard := none }) (v := ?d1_1xv0) rfl (by kernel_rfl) (by kernel_rfl) (by kernel_rfl) (fun _ _ _ h => h) (Or.inl ⟨by rfl, ?d1_1xy0⟩) (by assumption) ?d1_1xr0
        case d1_1xy0 => (intro w hSw; (try dsimp only at hSw); go_simp; try with_reducible rfl)
        (try simp only [Act.put])
        (try simp only [List.setIfInBounds_toArray])
        (try simp only [List.set_cons_succ])
        (try simp only [List.set_cons_zero])
        refine wpAnyH_take (i := 1) (oi := { dst := some 16, op := Op.move (Operand.tmp 0), type := 22, pos := "ref.go:150", after := #[], guard := none }) (v := ?d1_2xv1) rfl (by kernel_rfl) (by kernel_rfl) (by kernel_rfl) (fun _ _ _ h => h) (Or.inl ⟨by rfl, ?d1_2xy1⟩) (by assumption) ?d1_2xr1
        case d1_2xy1 => (intro w hSw; (try dsimp only at hSw); go_simp; try with_reducible rfl)
        (try simp only [Act.put])
        (try simp only [List.setIfInBounds_toArray])
        (try simp only [List.set_cons_succ])
        (try simp only [List.set_cons_zero])
        refine wpAnyH_take (i := 2) (oi := { dst := some 17, op := Op.move (Operand.tmp 4), type := 3, pos := "ref.go:150", after := #[], guard := none }) (v := ?d1_3xv2) rfl (by kernel_rfl) (by kernel_rfl) (by kernel_rfl) (fun _ _ _ h => h) (Or.inl ⟨by rfl, ?d1_3xy2⟩) (by assumption) ?d1_3xr2
        case d1_3xy2 => (intro w hSw; (try dsimp only at hSw); go_simp; try with_reducible rfl)
        (try simp only [Act.put])
        (try simp only [List.setIfInBounds_toArray])
        (try simp only [List.set_cons_succ])
        (try simp only [List.set_cons_zero])
        refine wpAnyH_take (i := 3) (oi := { dst := some 18, op := Op.indexAddr 22 (Operand.tmp 16) (Operand.tmp 17), type := 0, pos := "ref.go:150", after := #[{ on := 1, ground := Ground.data }, { on := 2, ground := Ground.data }], guard := none }) (v := ?d1_4xv3) rfl (by kernel_rfl) (by kernel_rfl) (by kernel_rfl) (fun _ _ _ h => h) (Or.inl ⟨by rfl, ?d1_4xy3⟩) (by assumption) ?d1_4xr3
        case d1_4xy3 => (intro w hSw; (try dsimp only at hSw); go_simp; try with_reducible rfl)
        (try simp only [Act.put])
        (try simp only [List.setIfInBounds_toArray])
        (try simp only [List.set_cons_succ])
        (try simp only [List.set_cons_zero])
        refine wpAnyH_take (i := 4) (oi := { dst := some 19, op := Op.fieldAddr 48 (Operand.tmp 18) 0, type := 0, pos := "ref.go:150", after := #[{ on := 3, ground := Ground.data }], guard := none }) (v := ?d1_5xv4) rfl (by kernel_rfl) (by kernel_rfl) (by kernel_rfl) (fun _ _ _ h => h) (Or.inl ⟨by rfl, ?d1_5xy4⟩) (by assumption) ?d1_5xr4
        case d1_5xy4 => (intro w hSw; (try dsimp only at hSw); go_simp; try with_reducible rfl)
        (try simp only [Act.put])
        (try simp only [List.setIfInBounds_toArray])
        (try simp only [List.set_cons_succ])
        (try simp only [List.set_cons_zero])
        refine wpAnyH_take (i := 5) (oi := { dst := some 20, op := Op.load 46 (Operand.tmp 19), type := 46, pos := "ref.go:150", after := #[{ on := 4, ground := Ground.data }], guard := none }) (v := ?d1_6xv5) rfl (by kernel_rfl) (by kernel_rfl) (by kernel_rfl) (fun _ _ _ h => h) (Or.inl ⟨by rfl, ?d1_6xy5⟩) (by assumption) ?d1_6xr5
        case d1_6xy5 => (intro w hSw; (try dsimp only at hSw); go_simp; try with_reducible rfl)
        (try simp only [Act.put])
        (try simp only [List.setIfInBounds_toArray])
        (try simp only [List.set_cons_succ])
        (try simp only [List.set_cons_zero])
        refine wpAnyH_take (i := 9) (oi := { dst := some 24, op := Op.move (Operand.tmp 0), type := 22, pos := "ref.go:150", after := #[], guard := none }) (v := ?d1_7xv9) rfl (by kernel_rfl) (by kernel_rfl) (by kernel_rfl) (fun _ _ _ h => h) (Or.inl ⟨by rfl, ?d1_7xy9⟩) (by assumption) ?d1_7xr9
        case d1_7xy9 => (intro w hSw; (try dsimp only at hSw); go_simp; try with_reducible rfl)
        (try simp only [Act.put])
        (try simp only [List.setIfInBounds_toArray])
        (try simp only [List.set_cons_succ])
        (try simp only [List.set_cons_zero])
        refine wpAnyH_take (i := 10) (oi := { dst := some 25, op := Op.move (Operand.tmp 4), type := 3, pos := "ref.go:150", after := #[], guard := none }) (v := ?d1_8xv10) rfl (by kernel_rfl) (by kernel_rfl) (by kernel_rfl) (fun _ _ _ h => h) (Or.inl ⟨by rfl, ?d1_8xy10⟩) (by assumption) ?d1_8xr10
        case d1_8xy10 => (intro w hSw; (try dsimp only at hSw); go_simp; try with_reducible rfl)
        (try simp only [Act.put])
        (try simp only [List.setIfInBounds_toArray])
        (try simp only [List.set_cons_succ])
        (try simp only [List.set_cons_zero])
        refine wpAnyH_take (i := 11) (oi := { dst := some 26, op := Op.indexAddr 22 (Operand.tmp 24) (Operand.tmp 25), type := 0, pos := "ref.go:150", after := #[{ on := 9, ground := Ground.data }, { on := 10, ground := Ground.data }], guard := none }) (v := ?d1_9xv11) rfl (by kernel_rfl) (by kernel_rfl) (by kernel_rfl) (fun _ _ _ h => h) (Or.inl ⟨by rfl, ?d1_9xy11⟩) (by assumption) ?d1_9xr11
        case d1_9xy11 => (intro w hSw; (try dsimp only at hSw); go_simp; try with_reducible rfl)
        (try simp only [Act.put])
        (try simp only [List.setIfInBounds_toArray])
        (try simp only [List.set_cons_succ])
        (try simp only [List.set_cons_zero])
        refine wpAnyH_take (i := 12) (oi := { dst := some 27, op := Op.fieldAddr 48 (Operand.tmp 26) 1, type := 0, pos := "ref.go:150", after := #[{ on := 11, ground := Ground.data }], guard := none }) (v := ?d1_10xv12) rfl (by kernel_rfl) (by kernel_rfl) (by kernel_rfl) (fun _ _ _ h => h) (Or.inl ⟨by rfl, ?d1_10xy12⟩) (by assumption) ?d1_10xr12
        case d1_10xy12 => (intro w hSw; (try dsimp only at hSw); go_simp; try with_reducible rfl)
        (try simp only [Act.put])
        (try simp only [List.setIfInBounds_toArray])
        (try simp only [List.set_cons_succ])
        (try simp only [List.set_cons_zero])
        refine wpAnyH_take (i := 13) (oi := { dst := some 28, op := Op.load 39 (Operand.tmp 27), type := 39, pos := "ref.go:150", after := #[{ on := 12, ground := Ground.data }], guard := none }) (v := ?d1_11xv13) rfl (by kernel_rfl) (by kernel_rfl) (by kernel_rfl) (fun _ _ _ h => h) (Or.inl ⟨by rfl, ?d1_11xy13⟩) (by assumption) ?d1_11xr13
        case d1_11xy13 => (intro w hSw; (try dsimp only at hSw); go_simp; try with_reducible rfl)
        (try simp only [Act.put])
        (try simp only [List.setIfInBounds_toArray])
        (try simp only [List.set_cons_succ])
        (try simp only [List.set_cons_zero])
        refine wpAnyH_ready (rs := [6]) (by kernel_rfl) (by simp) ?_
        refine AllReadyH.cons (o := { dst := some 21, op := Op.call { callee := Callee.value (Operand.func 35), args := #[Operand.tmp 20], argTypes := #[2] }, type := 9, pos := "ref.go:150", after := #[{ on := 5, ground := Ground.data }], guard := none }) rfl (fun K hK => ?_) AllReadyH.nil
        go_simp
        go_at_call 35
        refine (TI.out _).mono ?_
        rintro e v1 ⟨rfl, hb⟩
        replace BB := Lib.hid (BB.out.trans ((hb).mono BB.out.size))
        clear hb
        go_simp
        refine hK.out _ _ ?_ (fun hHeld => ?_)
        · exact ⟨((BB.out.cell (p := ⟨b, off + k * 6, none⟩) HBL.out).trans C0.out), ((BB.out.cell (p := ⟨b, off + k * 6 + 1, none⟩) HBL.out).trans C1.out), ((BB.out.cell (p := ⟨b, off + k * 6 + 2, none⟩) HBL.out).trans C2.out), ((BB.out.cell (p := ⟨b, off + k * 6 + 3, none⟩) HBL.out).trans C3.out)⟩
        clear hK K
        (try simp only [Act.put])
        (try simp only [List.setIfInBounds_toArray])
        (try simp only [List.set_cons_succ])
        (try simp only [List.set_cons_zero])
        refine wpAnyH_take (i := 7) (oi := { dst := some 22, op := Op.binOp BinOp.add 9 (Operand.tmp 15) (Operand.tmp 21) 9, type := 9, pos := "ref.go:150", after := #[{ on := 0, ground := Ground.data }, { on := 6, ground := Ground.data }], guard := none }) (v := ?d2_12xv7) rfl (by kernel_rfl) (by kernel_rfl) (by kernel_rfl) (fun _ _ _ h => h) (Or.inl ⟨by rfl, ?d2_12xy7⟩) (by assumption) ?d2_12xr7
        case d2_12xy7 => (intro w hSw; (try dsimp only at hSw); go_simp; try with_reducible rfl)
        (try simp only [Act.put])
        (try simp only [List.setIfInBounds_toArray])
        (try simp only [List.set_cons_succ])
        (try simp only [List.set_cons_zero])
        refine wpAnyH_take (i := 8) (oi := { dst := some 23, op := Op.binOp BinOp.add 9 (Operand.tmp 22) (Operand.const (Value.string { data := #[58] })) 9, type := 9, pos := "ref.go:150", after := #[{ on := 7, ground := Ground.data }], guard := none }) (v := ?d2_13xv8) rfl (by kernel_rfl) (by kernel_rfl) (by kernel_rfl) (fun _ _ _ h => h) (Or.inl ⟨by rfl, ?d2_13xy8⟩) (by assumption) ?d2_13xr8
        case d2_13xy8 => (intro w hSw; (try dsimp only at hSw); go_simp; try with_reducible rfl)
        (try simp only [Act.put])
        (try simp only [List.setIfInBounds_toArray])
        (try simp only [List.set_cons_succ])
        (try simp only [List.set_cons_zero])
        refine wpAnyH_ready (rs := [14]) (by kernel_rfl) (by simp) ?_
        refine AllReadyH.cons (o := { dst := some 29, op := Op.call { callee := Callee.value (Operand.func 36), args := #[Operand.tmp 28], argTypes := #[39] }, type := 9, pos := "ref.go:150", after := #[{ on := 13, ground := Ground.data }, { on := 6, ground := Ground.chain }], guard := none }) rfl (fun K hK => ?_) AllReadyH.nil
        go_simp
        go_at_call 36
        refine (TX.out _).mono ?_
        rintro e v2 ⟨rfl, hb⟩
        replace BB := Lib.hid (BB.out.trans ((hb).mono BB.out.size))
        clear hb
        go_simp
        refine hK.out _ _ ?_ (fun hHeld => ?_)
        · exact ⟨((BB.out.cell (p := ⟨b, off + k * 6, none⟩) HBL.out).trans C0.out), ((BB.out.cell (p := ⟨b, off + k * 6 + 1, none⟩) HBL.out).trans C1.out), ((BB.out.cell (p := ⟨b, off + k * 6 + 2, none⟩) HBL.out).trans C2.out), ((BB.out.cell (p := ⟨b, off + k * 6 + 3, none⟩) HBL.out).trans C3.out)⟩
        clear hK K
        (try simp only [Act.put])
        (try simp only [List.setIfInBounds_toArray])
        (try simp only [List.set_cons_succ])
        (try simp only [List.set_cons_zero])
        refine wpAnyH_take (i := 15) (oi := { dst := some 30, op := Op.binOp BinOp.add 9 (Operand.tmp 23) (Operand.tmp 29) 9, type := 9, pos := "ref.go:150", after := #[{ on := 8, ground := Ground.data }, { on := 14, ground := Ground.data }], guard := none }) (v := ?d3_14xv15) rfl (by kernel_rfl) (by kernel_rfl) (by kernel_rfl) (fun _ _ _ h => h) (Or.inl ⟨by rfl, ?d3_14xy15⟩) (by assumption) ?d3_14xr15
        case d3_14xy15 => (intro w hSw; (try dsimp only at hSw); go_simp; try with_reducible rfl)
        (try simp only [Act.put])
        (try simp only [List.setIfInBounds_toArray])
        (try simp only [List.set_cons_succ])
        (try simp only [List.set_cons_zero])
        refine wpAnyH_ready (rs := [16]) (by kernel_rfl) (by simp) ?_
        refine AllReadyH.cons (o := { dst := some 3, op := Op.assign (Operand.tmp 30), type := 9, pos := "ref.go:150", after := #[{ on := 15, ground := Ground.data }, { on := 14, ground := Ground.chain }, { on := 0, ground := Ground.phase }, { on := 1, ground := Ground.phase }, { on := 2, ground := Ground.phase }, { on := 3, ground := Ground.phase }, { on := 4, ground := Ground.phase }, { on := 5, ground := Ground.phase }, { on := 6, ground := Ground.phase }, { on := 7, ground := Ground.phase }, { on := 8, ground := Ground.phase }, { on := 9, ground := Ground.phase }, { on := 10, ground := Ground.phase }, { on := 11, ground := Ground.phase }, { on := 12, ground := Ground.phase }, { on := 13, ground := Ground.phase }, { on := 14, ground := Ground.phase }, { on := 15, ground := Ground.phase }], guard := none }) rfl (fun K hK => ?_) AllReadyH.nil
        go_simp
        refine hK.out _ _ ?_ (fun hHeld => ?_)
        · exact ⟨((BB.out.cell (p := ⟨b, off + k * 6, none⟩) HBL.out).trans C0.out), ((BB.out.cell (p := ⟨b, off + k * 6 + 1, none⟩) HBL.out).trans C1.out), ((BB.out.cell (p := ⟨b, off + k * 6 + 2, none⟩) HBL.out).trans C2.out), ((BB.out.cell (p := ⟨b, off + k * 6 + 3, none⟩) HBL.out).trans C3.out)⟩
        clear hK K
        (try simp only [Act.put])
        (try simp only [List.setIfInBounds_toArray])
        (try simp only [List.set_cons_succ])
        (try simp only [List.set_cons_zero])
        refine wpAnyH_done (by kernel_rfl) ?_ _
        clear hHeld
        have e5 := (BB.out.cell (p := ⟨b, off + k * 6 + 5, none⟩) HBL.out).trans C5.out
        have e4 := (BB.out.cell (p := ⟨b, off + k * 6 + 4, none⟩) HBL.out).trans C4.out
        cases y5 with
        | false =>
          go_wp2_with fail
          go_roundw
          case rel =>
            refine ⟨k + 1, by omega, by go_num, ?_, BB.out⟩
            rw [TS.out, ← HS2.out]
            exact val_str (sumF s2 A T)
          case measure => simp [intOf]; omega
        | true =>
          have e4' := Lib.hid e4
          go_wp2_with fail
          refine (TJ.out _).mono ?_
          rintro e w5 ⟨rfl, hb⟩
          replace BB := Lib.hid (BB.out.trans (hb.mono BB.out.size))
          clear hb
          go_wp2_with fail
          go_roundw
          case rel =>
            refine ⟨k + 1, by omega, by go_num, ?_, BB.out⟩
            rw [TS.out, ← HS2.out]
            exact val_str (sumT s2 A T N)
          case measure => simp [intOf]; omega
      · have hki : 0 < (k : Int) := by omega
        rw [if_neg hk0] at TS
        have q0 : ¬ 9223372036854775807 < S.length + 1 := by omega
        clear hk0
        go_upto_region 7 with fail
        obtain ⟨s2, hs2⟩ : ∃ s2, ByteArray.mk S.toArray ++ ByteArray.mk #[32] = s2 := ⟨_, rfl⟩
        have HS2 : Hid (s2.data.toList = S ++ [32]) := Lib.hid (by rw [← hs2]; simp)
        have lS : s2.size ≤ 400000 := by rw [← hs2, ByteArray.size_append]; show S.toArray.size + 1 ≤ _; simp; omega
        rw [hs2]
        clear hs2 hsz
        have q1 : ¬ 9223372036854775807 < s2.size + A.length := by omega
        have q2 : ¬ 9223372036854775807 < s2.size + A.length + 1 := by omega
        have q3 : ¬ 9223372036854775807 < s2.size + A.length + 1 + T.length := by omega
        have q4 : ¬ 9223372036854775807 < s2.size + A.length + 1 + T.length + 1 := by omega
        have q5 : ¬ 9223372036854775807 < s2.size + A.length + 1 + T.length + 1 + N.length := by omega
        replace BB := Lib.hid (BB.out.trans (((Below.refl _ _).drew).mono BB.out.size))
        refine wp_region_held_drew (S := fun w' => w'.cell? ⟨b, off + k * 6, none⟩ = some (.int .i64 y0) ∧ w'.cell? ⟨b, off + k * 6 + 1, none⟩ = some (.int .i64 y1) ∧ w'.cell? ⟨b, off + k * 6 + 2, none⟩ = some (.int .u32 y2) ∧ w'.cell? ⟨b, off + k * 6 + 3, none⟩ = some (.int .u32 y3)) (by kernel_rfl) ⟨((BB.out.cell (p := ⟨b, off + k * 6, none⟩) HBL.out).trans C0.out), ((BB.out.cell (p := ⟨b, off + k * 6 + 1, none⟩) HBL.out).trans C1.out), ((BB.out.cell (p := ⟨b, off + k * 6 + 2, none⟩) HBL.out).trans C2.out), ((BB.out.cell (p := ⟨b, off + k * 6 + 3, none⟩) HBL.out).trans C3.out)⟩ (fun hHeld => ?_)
        generalize World.drew wr = V40 at *
        refine wpAnyH_take (i := 0) (oi := { dst := some 15, op := Op.move (Operand.tmp 3), type := 9, pos := "ref.go:150", after := #[], guard := none }) (v := ?d41_1xv0) rfl (by kernel_rfl) (by kernel_rfl) (by kernel_rfl) (fun _ _ _ h => h) (Or.inl ⟨by rfl, ?d41_1xy0⟩) (by assumption) ?d41_1xr0
        case d41_1xy0 => (intro w hSw; (try dsimp only at hSw); go_simp; try with_reducible rfl)
        (try simp only [Act.put])
        (try simp only [List.setIfInBounds_toArray])
        (try simp only [List.set_cons_succ])
        (try simp only [List.set_cons_zero])
        refine wpAnyH_take (i := 1) (oi := { dst := some 16, op := Op.move (Operand.tmp 0), type := 22, pos := "ref.go:150", after := #[], guard := none }) (v := ?d41_2xv1) rfl (by kernel_rfl) (by kernel_rfl) (by kernel_rfl) (fun _ _ _ h => h) (Or.inl ⟨by rfl, ?d41_2xy1⟩) (by assumption) ?d41_2xr1
        case d41_2xy1 => (intro w hSw; (try dsimp only at hSw); go_simp; try with_reducible rfl)
        (try simp only [Act.put])
        (try simp only [List.setIfInBounds_toArray])
        (try simp only [List.set_cons_succ])
        (try simp only [List.set_cons_zero])
        refine wpAnyH_take (i := 2) (oi := { dst := some 17, op := Op.move (Operand.tmp 4), type := 3, pos := "ref.go:150", after := #[], guard := none }) (v := ?d41_3xv2) rfl (by kernel_rfl) (by kernel_rfl) (by kernel_rfl) (fun _ _ _ h => h) (Or.inl ⟨by rfl, ?d41_3xy2⟩) (by assumption) ?d41_3xr2
        case d41_3xy2 => (intro w hSw; (try dsimp only at hSw); go_simp; try with_reducible rfl)
        (try simp only [Act.put])
        (try simp only [List.setIfInBounds_toArray])
        (try simp only [List.set_cons_succ])
        (try simp only [List.set_cons_zero])
        refine wpAnyH_take (i := 3) (oi := { dst := some 18, op := Op.indexAddr 22 (Operand.tmp 16) (Operand.tmp 17), type := 0, pos := "ref.go:150", after := #[{ on := 1, ground := Ground.data }, { on := 2, ground := Ground.data }], guard := none }) (v := ?d41_4xv3) rfl (by kernel_rfl) (by kernel_rfl) (by kernel_rfl) (fun _ _ _ h => h) (Or.inl ⟨by rfl, ?d41_4xy3⟩) (by assumption) ?d41_4xr3
        case d41_4xy3 => (intro w hSw; (try dsimp only at hSw); go_simp; try with_reducible rfl)
        (try simp only [Act.put])
        (try simp only [List.setIfInBounds_toArray])
        (try simp only [List.set_cons_succ])
        (try simp only [List.set_cons_zero])
        refine wpAnyH_take (i := 4) (oi := { dst := some 19, op := Op.fieldAddr 48 (Operand.tmp 18) 0, type := 0, pos := "ref.go:150", after := #[{ on := 3, ground := Ground.data }], guard := none }) (v := ?d41_5xv4) rfl (by kernel_rfl) (by kernel_rfl) (by kernel_rfl) (fun _ _ _ h => h) (Or.inl ⟨by rfl, ?d41_5xy4⟩) (by assumption) ?d41_5xr4
        case d41_5xy4 => (intro w hSw; (try dsimp only at hSw); go_simp; try with_reducible rfl)
        (try simp only [Act.put])
        (try simp only [List.setIfInBounds_toArray])
        (try simp only [List.set_cons_succ])
        (try simp only [List.set_cons_zero])
        refine wpAnyH_take (i := 5) (oi := { dst := some 20, op := Op.load 46 (Operand.tmp 19), type := 46, pos := "ref.go:150", after := #[{ on := 4, ground := Ground.data }], guard := none }) (v := ?d41_6xv5) rfl (by kernel_rfl) (by kernel_rfl) (by kernel_rfl) (fun _ _ _ h => h) (Or.inl ⟨by rfl, ?d41_6xy5⟩) (by assumption) ?d41_6xr5
        case d41_6xy5 => (intro w hSw; (try dsimp only at hSw); go_simp; try with_reducible rfl)
        (try simp only [Act.put])
        (try simp only [List.setIfInBounds_toArray])
        (try simp only [List.set_cons_succ])
        (try simp only [List.set_cons_zero])
        refine wpAnyH_take (i := 9) (oi := { dst := some 24, op := Op.move (Operand.tmp 0), type := 22, pos := "ref.go:150", after := #[], guard := none }) (v := ?d41_7xv9) rfl (by kernel_rfl) (by kernel_rfl) (by kernel_rfl) (fun _ _ _ h => h) (Or.inl ⟨by rfl, ?d41_7xy9⟩) (by assumption) ?d41_7xr9
        case d41_7xy9 => (intro w hSw; (try dsimp only at hSw); go_simp; try with_reducible rfl)
        (try simp only [Act.put])
        (try simp only [List.setIfInBounds_toArray])
        (try simp only [List.set_cons_succ])
        (try simp only [List.set_cons_zero])
        refine wpAnyH_take (i := 10) (oi := { dst := some 25, op := Op.move (Operand.tmp 4), type := 3, pos := "ref.go:150", after := #[], guard := none }) (v := ?d41_8xv10) rfl (by kernel_rfl) (by kernel_rfl) (by kernel_rfl) (fun _ _ _ h => h) (Or.inl ⟨by rfl, ?d41_8xy10⟩) (by assumption) ?d41_8xr10
        case d41_8xy10 => (intro w hSw; (try dsimp only at hSw); go_simp; try with_reducible rfl)
        (try simp only [Act.put])
        (try simp only [List.setIfInBounds_toArray])
        (try simp only [List.set_cons_succ])
        (try simp only [List.set_cons_zero])
        refine wpAnyH_take (i := 11) (oi := { dst := some 26, op := Op.indexAddr 22 (Operand.tmp 24) (Operand.tmp 25), type := 0, pos := "ref.go:150", after := #[{ on := 9, ground := Ground.data }, { on := 10, ground := Ground.data }], guard := none }) (v := ?d41_9xv11) rfl (by kernel_rfl) (by kernel_rfl) (by kernel_rfl) (fun _ _ _ h => h) (Or.inl ⟨by rfl, ?d41_9xy11⟩) (by assumption) ?d41_9xr11
        case d41_9xy11 => (intro w hSw; (try dsimp only at hSw); go_simp; try with_reducible rfl)
        (try simp only [Act.put])
        (try simp only [List.setIfInBounds_toArray])
        (try simp only [List.set_cons_succ])
        (try simp only [List.set_cons_zero])
        refine wpAnyH_take (i := 12) (oi := { dst := some 27, op := Op.fieldAddr 48 (Operand.tmp 26) 1, type := 0, pos := "ref.go:150", after := #[{ on := 11, ground := Ground.data }], guard := none }) (v := ?d41_10xv12) rfl (by kernel_rfl) (by kernel_rfl) (by kernel_rfl) (fun _ _ _ h => h) (Or.inl ⟨by rfl, ?d41_10xy12⟩) (by assumption) ?d41_10xr12
        case d41_10xy12 => (intro w hSw; (try dsimp only at hSw); go_simp; try with_reducible rfl)
        (try simp only [Act.put])
        (try simp only [List.setIfInBounds_toArray])
        (try simp only [List.set_cons_succ])
        (try simp only [List.set_cons_zero])
        refine wpAnyH_take (i := 13) (oi := { dst := some 28, op := Op.load 39 (Operand.tmp 27), type := 39, pos := "ref.go:150", after := #[{ on := 12, ground := Ground.data }], guard := none }) (v := ?d41_11xv13) rfl (by kernel_rfl) (by kernel_rfl) (by kernel_rfl) (fun _ _ _ h => h) (Or.inl ⟨by rfl, ?d41_11xy13⟩) (by assumption) ?d41_11xr13
        case d41_11xy13 => (intro w hSw; (try dsimp only at hSw); go_simp; try with_reducible rfl)
        (try simp only [Act.put])
        (try simp only [List.setIfInBounds_toArray])
        (try simp only [List.set_cons_succ])
        (try simp only [List.set_cons_zero])
        refine wpAnyH_ready (rs := [6]) (by kernel_rfl) (by simp) ?_
        refine AllReadyH.cons (o := { dst := some 21, op := Op.call { callee := Callee.value (Operand.func 35), args := #[Operand.tmp 20], argTypes := #[2] }, type := 9, pos := "ref.go:150", after := #[{ on := 5, ground := Ground.data }], guard := none }) rfl (fun K hK => ?_) AllReadyH.nil
        go_simp
        go_at_call 35
        refine (TI.out _).mono ?_
        rintro e v41 ⟨rfl, hb⟩
        replace BB := Lib.hid (BB.out.trans ((hb).mono BB.out.size))
        clear hb
        go_simp
        refine hK.out _ _ ?_ (fun hHeld => ?_)
        · exact ⟨((BB.out.cell (p := ⟨b, off + k * 6, none⟩) HBL.out).trans C0.out), ((BB.out.cell (p := ⟨b, off + k * 6 + 1, none⟩) HBL.out).trans C1.out), ((BB.out.cell (p := ⟨b, off + k * 6 + 2, none⟩) HBL.out).trans C2.out), ((BB.out.cell (p := ⟨b, off + k * 6 + 3, none⟩) HBL.out).trans C3.out)⟩
        clear hK K
        (try simp only [Act.put])
        (try simp only [List.setIfInBounds_toArray])
        (try simp only [List.set_cons_succ])
        (try simp only [List.set_cons_zero])
        refine wpAnyH_take (i := 7) (oi := { dst := some 22, op := Op.binOp BinOp.add 9 (Operand.tmp 15) (Operand.tmp 21) 9, type := 9, pos := "ref.go:150", after := #[{ on := 0, ground := Ground.data }, { on := 6, ground := Ground.data }], guard := none }) (v := ?d42_12xv7) rfl (by kernel_rfl) (by kernel_rfl) (by kernel_rfl) (fun _ _ _ h => h) (Or.inl ⟨by rfl, ?d42_12xy7⟩) (by assumption) ?d42_12xr7
        case d42_12xy7 => (intro w hSw; (try dsimp only at hSw); go_simp; try with_reducible rfl)
        (try simp only [Act.put])
        (try simp only [List.setIfInBounds_toArray])
        (try simp only [List.set_cons_succ])
        (try simp only [List.set_cons_zero])
        refine wpAnyH_take (i := 8) (oi := { dst := some 23, op := Op.binOp BinOp.add 9 (Operand.tmp 22) (Operand.const (Value.string { data := #[58] })) 9, type := 9, pos := "ref.go:150", after := #[{ on := 7, ground := Ground.data }], guard := none }) (v := ?d42_13xv8) rfl (by kernel_rfl) (by kernel_rfl) (by kernel_rfl) (fun _ _ _ h => h) (Or.inl ⟨by rfl, ?d42_13xy8⟩) (by assumption) ?d42_13xr8
        case d42_13xy8 => (intro w hSw; (try dsimp only at hSw); go_simp; try with_reducible rfl)
        (try simp only [Act.put])
        (try simp only [List.setIfInBounds_toArray])
        (try simp only [List.set_cons_succ])
        (try simp only [List.set_cons_zero])
        refine wpAnyH_ready (rs := [14]) (by kernel_rfl) (by simp) ?_
        refine AllReadyH.cons (o := { dst := some 29, op := Op.call { callee := Callee.value (Operand.func 36), args := #[Operand.tmp 28], argTypes := #[39] }, type := 9, pos := "ref.go:150", after := #[{ on := 13, ground := Ground.data }, { on := 6, ground := Ground.chain }], guard := none }) rfl (fun K hK => ?_) AllReadyH.nil
        go_simp
        go_at_call 36
        refine (TX.out _).mono ?_
        rintro e v42 ⟨rfl, hb⟩
        replace BB := Lib.hid (BB.out.trans ((hb).mono BB.out.size))
        clear hb
        go_simp
        refine hK.out _ _ ?_ (fun hHeld => ?_)
        · exact ⟨((BB.out.cell (p := ⟨b, off + k * 6, none⟩) HBL.out).trans C0.out), ((BB.out.cell (p := ⟨b, off + k * 6 + 1, none⟩) HBL.out).trans C1.out), ((BB.out.cell (p := ⟨b, off + k * 6 + 2, none⟩) HBL.out).trans C2.out), ((BB.out.cell (p := ⟨b, off + k * 6 + 3, none⟩) HBL.out).trans C3.out)⟩
        clear hK K
        (try simp only [Act.put])
        (try simp only [List.setIfInBounds_toArray])
        (try simp only [List.set_cons_succ])
        (try simp only [List.set_cons_zero])
        refine wpAnyH_take (i := 15) (oi := { dst := some 30, op := Op.binOp BinOp.add 9 (Operand.tmp 23) (Operand.tmp 29) 9, type := 9, pos := "ref.go:150", after := #[{ on := 8, ground := Ground.data }, { on := 14, ground := Ground.data }], guard := none }) (v := ?d43_14xv15) rfl (by kernel_rfl) (by kernel_rfl) (by kernel_rfl) (fun _ _ _ h => h) (Or.inl ⟨by rfl, ?d43_14xy15⟩) (by assumption) ?d43_14xr15
        case d43_14xy15 => (intro w hSw; (try dsimp only at hSw); go_simp; try with_reducible rfl)
        (try simp only [Act.put])
        (try simp only [List.setIfInBounds_toArray])
        (try simp only [List.set_cons_succ])
        (try simp only [List.set_cons_zero])
        refine wpAnyH_ready (rs := [16]) (by kernel_rfl) (by simp) ?_
        refine AllReadyH.cons (o := { dst := some 3, op := Op.assign (Operand.tmp 30), type := 9, pos := "ref.go:150", after := #[{ on := 15, ground := Ground.data }, { on := 14, ground := Ground.chain }, { on := 0, ground := Ground.phase }, { on := 1, ground := Ground.phase }, { on := 2, ground := Ground.phase }, { on := 3, ground := Ground.phase }, { on := 4, ground := Ground.phase }, { on := 5, ground := Ground.phase }, { on := 6, ground := Ground.phase }, { on := 7, ground := Ground.phase }, { on := 8, ground := Ground.phase }, { on := 9, ground := Ground.phase }, { on := 10, ground := Ground.phase }, { on := 11, ground := Ground.phase }, { on := 12, ground := Ground.phase }, { on := 13, ground := Ground.phase }, { on := 14, ground := Ground.phase }, { on := 15, ground := Ground.phase }], guard := none }) rfl (fun K hK => ?_) AllReadyH.nil
        go_simp
        refine hK.out _ _ ?_ (fun hHeld => ?_)
        · exact ⟨((BB.out.cell (p := ⟨b, off + k * 6, none⟩) HBL.out).trans C0.out), ((BB.out.cell (p := ⟨b, off + k * 6 + 1, none⟩) HBL.out).trans C1.out), ((BB.out.cell (p := ⟨b, off + k * 6 + 2, none⟩) HBL.out).trans C2.out), ((BB.out.cell (p := ⟨b, off + k * 6 + 3, none⟩) HBL.out).trans C3.out)⟩
        clear hK K
        (try simp only [Act.put])
        (try simp only [List.setIfInBounds_toArray])
        (try simp only [List.set_cons_succ])
        (try simp only [List.set_cons_zero])
        refine wpAnyH_done (by kernel_rfl) ?_ _
        clear hHeld
        have e5 := (BB.out.cell (p := ⟨b, off + k * 6 + 5, none⟩) HBL.out).trans C5.out
        have e4 := (BB.out.cell (p := ⟨b, off + k * 6 + 4, none⟩) HBL.out).trans C4.out
        cases y5 with
        | false =>
          go_wp2_with fail
          go_roundw
          case rel =>
            refine ⟨k + 1, by omega, by go_num, ?_, BB.out⟩
            rw [TS.out, ← HS2.out]
            exact val_str (sumF s2 A T)
          case measure => simp [intOf]; omega
        | true =>
          have e4' := Lib.hid e4
          go_wp2_with fail
          refine (TJ.out _).mono ?_
          rintro e w5 ⟨rfl, hb⟩
          replace BB := Lib.hid (BB.out.trans (hb.mono BB.out.size))
          clear hb
          go_wp2_with fail
          go_roundw
          case rel =>
            refine ⟨k + 1, by omega, by go_num, ?_, BB.out⟩
            rw [TS.out, ← HS2.out]
            exact val_str (sumT s2 A T N)
          case measure => simp [intOf]; omega
    · obtain rfl : k = n := by omega
      go_wp2_with fail
      go_ret
      refine ⟨?_, BB.out⟩
      rw [List.take_of_length_le (by rw [HN.out]; exact Nat.le_refl _)]
      rfl
end Go.Proofs.YtjphhfgomlchoaaDoor
