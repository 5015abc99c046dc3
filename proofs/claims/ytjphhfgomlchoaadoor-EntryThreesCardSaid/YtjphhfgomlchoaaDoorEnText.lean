/- The text of one entry. -/
import Derived.Test.YtjphhfgomlchoaaDoorEnWord
namespace Go.Proofs.YtjphhfgomlchoaaDoor
open Go.ChangeShapes Go.WideShapes Go.ChangeAt Go.RowKit
def textE (e : En) : List UInt8 := Lib.itoa e.1 ++ 58 :: (textOf e.2.1.1 e.2.1.2.1 e.2.1.2.2 ++ if e.2.2.2 then 61 :: Lib.itoa e.2.2.1 else [])
theorem textOf_len (v n r : Int) (v0 : -9223372036854775808 ≤ v) (v1 : v ≤ 9223372036854775807) (n1 : n < 4294967296) (h1 : r < 4294967296) : (textOf v n r).length ≤ 100 := by
  have lv := Lib.itoa_length_le v v0 v1
  have ln : (Lib.decDigits n.toNat).length ≤ 20 := by rw [Lib.decDigits_length]; exact Lib.nDigits_le20 _ (by omega)
  have la : (Lib.decDigits (r / 16777216).toNat).length ≤ 20 := by rw [Lib.decDigits_length]; exact Lib.nDigits_le20 _ (by omega)
  have lb : (Lib.decDigits (r % 16777216).toNat).length ≤ 20 := by rw [Lib.decDigits_length]; exact Lib.nDigits_le20 _ (by omega)
  unfold textOf
  split
  · split
    · omega
    · simp; omega
  · split
    · simp; omega
    · simp
theorem sum3 (A T : List UInt8) : (ByteArray.mk A.toArray ++ ByteArray.mk #[58]) ++ ByteArray.mk T.toArray = ⟨(A ++ 58 :: T).toArray⟩ := by
  simp [ByteArray.mk_append_mk]
theorem sum5 (A T N : List UInt8) : ByteArray.mk (A ++ 58 :: T).toArray ++ (ByteArray.mk #[61] ++ ByteArray.mk N.toArray) = ⟨(A ++ 58 :: (T ++ 61 :: N)).toArray⟩ := by
  simp [ByteArray.mk_append_mk]
theorem itoaI (n : Int) (h0 : -9223372036854775808 ≤ n) (h1 : n ≤ 9223372036854775807) (w : World) (htab : Tab w) :
    Calls Tryd.prog 46 #[.int .i64 n] w fun e w' => e = .returned (.string ⟨(Lib.itoa n).toArray⟩) ∧ Below w.heap.size w w' :=
  (strconv_Itoa n h0 h1 w htab).mono fun _ _ ⟨he, k, os, hw⟩ => ⟨he, hw ▸ Lib.below_grow _ w (Nat.le_refl _) k os⟩
set_option maxRecDepth 100000 in
set_option maxHeartbeats 3200000 in
theorem textE_any (e : En) (w : World) (ho : OkE e) (ht : Tab w) : Calls Tryd.prog 33 #[enV e] w fun en w' => en = .returned (.string ⟨(textE e).toArray⟩) ∧ Below w.heap.size w w' := by
  obtain ⟨y0, ⟨y1, y2, y3⟩, y4, y5⟩ := e
  obtain ⟨⟨a0, a1⟩, ⟨⟨v0, v1⟩, ⟨n0, n1⟩, ⟨r0, r1⟩⟩, ⟨z0, z1⟩⟩ := ho
  unfold textE enV
  simp only at a0 a1 v0 v1 n0 n1 r0 r1 z0 z1 ⊢
  have IT := Lib.hid (fun W h => itoaI y0 (by omega) (by omega) W h)
  have TX := Lib.hid (fun W h => text_any y1 y2 y3 W (by omega) (by omega) n0 n1 r0 r1 h)
  have NT := Lib.hid (fun W h => fmtInt y4 (by omega) (by omega) W h)
  have lA := Lib.itoa_length_le y0 (by omega) (by omega)
  have lN := Lib.itoa_length_le y4 (by omega) (by omega)
  have lT := textOf_len y1 y2 y3 (by omega) (by omega) n1 r1
  obtain ⟨A, hA⟩ : ∃ l, Lib.itoa y0 = l := ⟨_, rfl⟩
  obtain ⟨N, hN⟩ : ∃ l, Lib.itoa y4 = l := ⟨_, rfl⟩
  obtain ⟨T, hT⟩ : ∃ l, textOf y1 y2 y3 = l := ⟨_, rfl⟩
  rw [hA] at IT lA ⊢
  rw [hN] at NT lN ⊢
  rw [hT] at TX lT ⊢
  clear hA hN hT a0 a1 v0 v1 n0 n1 r0 r1 z0 z1
  have q1 : ¬ 9223372036854775807 < A.length + 1 := by omega
  have q2 : ¬ 9223372036854775807 < A.length + 1 + T.length := by omega
  have q3 : ¬ 9223372036854775807 < 1 + N.length := by omega
  have q4 : ¬ 9223372036854775807 < (A ++ 58 :: T).length + (1 + N.length) := by simp; omega
  have TT := Lib.hid (ht.alloc (.cells #[.int .i64 y0, .int .i64 y1, .int .u32 y2, .int .u32 y3, .int .i64 y4, .bool y5] 48))
  have BW := Lib.hid (below1 w (.cells #[.int .i64 y0, .int .i64 y1, .int .u32 y2, .int .u32 y3, .int .i64 y4, .bool y5] 48))
  clear ht
  go_enter Tryd.func33, Tryd.ntmps33
  go_upto_region 1 with fail
  have X := Lib.hid (Box.new w #[.int .i64 y0, .int .i64 y1, .int .u32 y2, .int .u32 y3, .int .i64 y4, .bool y5] 48 rfl)
  generalize w.alloc (.cells #[.int .i64 y0, .int .i64 y1, .int .u32 y2, .int .u32 y3, .int .i64 y4, .bool y5] 48) = W at *
  obtain ⟨q, hq⟩ : ∃ q, w.heap.size = q := ⟨_, rfl⟩
  have HQ := Lib.hid hq
  rw [hq] at X ⊢
  clear hq
  replace X := Lib.hid (X.out.below ((Below.refl _ _).drew))
  replace TT := Lib.hid (TT.out.below ((Below.refl _ _).drew))
  replace BW := Lib.hid (BW.out.trans (((Below.refl _ _).drew).mono BW.out.size))
  refine wp_region_held_drew (S := fun w' => w'.cell? ⟨q, 0, none⟩ = some (.int .i64 y0) ∧ w'.cell? ⟨q, 1, none⟩ = some (.int .i64 y1) ∧ w'.cell? ⟨q, 2, none⟩ = some (.int .u32 y2) ∧ w'.cell? ⟨q, 3, none⟩ = some (.int .u32 y3)) (by kernel_rfl) ⟨(X.out.cell 0), (X.out.cell 1), (X.out.cell 2), (X.out.cell 3)⟩ (fun hHeld => ?_)
  generalize World.drew W = V0 at *
  refine wpAnyH_take (i := 0) (oi := { dst := some 4, op := Op.fieldAddr 48 (Operand.tmp 1) 0, type := 0, pos := "text.go:21", after := #[], guard := none }) (v := ?d1_1xv0) rfl (by kernel_rfl) (by kernel_rfl) (by kernel_rfl) (fun _ _ _ h => h) (Or.inl ⟨by rfl, ?d1_1xy0⟩) (by assumption) ?d1_1xr0
  case d1_1xy0 => (intro w hSw; (try dsimp only at hSw); go_simp; try with_reducible rfl)
  (try simp only [Act.put])
  (try simp only [List.setIfInBounds_toArray])
  (try simp only [List.set_cons_succ])
  (try simp only [List.set_cons_zero])
  refine wpAnyH_take (i := 1) (oi := { dst := some 5, op := Op.load 46 (Operand.tmp 4), type := 46, pos := "text.go:21", after := #[{ on := 0, ground := Ground.data }], guard := none }) (v := ?d1_2xv1) rfl (by kernel_rfl) (by kernel_rfl) (by kernel_rfl) (fun _ _ _ h => h) (Or.inl ⟨by rfl, ?d1_2xy1⟩) (by assumption) ?d1_2xr1
  case d1_2xy1 => (intro w hSw; (try dsimp only at hSw); go_simp; try with_reducible rfl)
  (try simp only [Act.put])
  (try simp only [List.setIfInBounds_toArray])
  (try simp only [List.set_cons_succ])
  (try simp only [List.set_cons_zero])
  refine wpAnyH_take (i := 4) (oi := { dst := some 8, op := Op.fieldAddr 48 (Operand.tmp 1) 1, type := 0, pos := "text.go:21", after := #[], guard := none }) (v := ?d1_3xv4) rfl (by kernel_rfl) (by kernel_rfl) (by kernel_rfl) (fun _ _ _ h => h) (Or.inl ⟨by rfl, ?d1_3xy4⟩) (by assumption) ?d1_3xr4
  case d1_3xy4 => (intro w hSw; (try dsimp only at hSw); go_simp; try with_reducible rfl)
  (try simp only [Act.put])
  (try simp only [List.setIfInBounds_toArray])
  (try simp only [List.set_cons_succ])
  (try simp only [List.set_cons_zero])
  refine wpAnyH_take (i := 5) (oi := { dst := some 9, op := Op.load 39 (Operand.tmp 8), type := 39, pos := "text.go:21", after := #[{ on := 4, ground := Ground.data }], guard := none }) (v := ?d1_4xv5) rfl (by kernel_rfl) (by kernel_rfl) (by kernel_rfl) (fun _ _ _ h => h) (Or.inl ⟨by rfl, ?d1_4xy5⟩) (by assumption) ?d1_4xr5
  case d1_4xy5 => (intro w hSw; (try dsimp only at hSw); go_simp; try with_reducible rfl)
  (try simp only [Act.put])
  (try simp only [List.setIfInBounds_toArray])
  (try simp only [List.set_cons_succ])
  (try simp only [List.set_cons_zero])
  refine wpAnyH_ready (rs := [2]) (by kernel_rfl) (by simp) ?_
  refine AllReadyH.cons (o := { dst := some 6, op := Op.call { callee := Callee.value (Operand.func 46), args := #[Operand.tmp 5], argTypes := #[3] }, type := 9, pos := "text.go:21", after := #[{ on := 1, ground := Ground.data }], guard := none }) rfl (fun K hK => ?_) AllReadyH.nil
  go_simp
  go_at_call 46
  refine (IT.out _ TT.out).mono ?_
  rintro e v1 ⟨rfl, hb⟩
  replace X := Lib.hid (X.out.below (hb))
  replace TT := Lib.hid (TT.out.below (hb))
  replace BW := Lib.hid (BW.out.trans ((hb).mono BW.out.size))
  clear hb
  go_simp
  refine hK.out _ _ ?_ (fun hHeld => ?_)
  · exact ⟨(X.out.cell 0), (X.out.cell 1), (X.out.cell 2), (X.out.cell 3)⟩
  clear hK K
  (try simp only [Act.put])
  (try simp only [List.setIfInBounds_toArray])
  (try simp only [List.set_cons_succ])
  (try simp only [List.set_cons_zero])
  refine wpAnyH_take (i := 3) (oi := { dst := some 7, op := Op.binOp BinOp.add 9 (Operand.tmp 6) (Operand.const (Value.string { data := #[58] })) 9, type := 9, pos := "text.go:21", after := #[{ on := 2, ground := Ground.data }], guard := none }) (v := ?d2_5xv3) rfl (by kernel_rfl) (by kernel_rfl) (by kernel_rfl) (fun _ _ _ h => h) (Or.inl ⟨by rfl, ?d2_5xy3⟩) (by assumption) ?d2_5xr3
  case d2_5xy3 => (intro w hSw; (try dsimp only at hSw); go_simp; try with_reducible rfl)
  (try simp only [Act.put])
  (try simp only [List.setIfInBounds_toArray])
  (try simp only [List.set_cons_succ])
  (try simp only [List.set_cons_zero])
  refine wpAnyH_ready (rs := [6]) (by kernel_rfl) (by simp) ?_
  refine AllReadyH.cons (o := { dst := some 10, op := Op.call { callee := Callee.value (Operand.func 47), args := #[Operand.tmp 9], argTypes := #[39] }, type := 9, pos := "text.go:21", after := #[{ on := 5, ground := Ground.data }, { on := 2, ground := Ground.chain }], guard := none }) rfl (fun K hK => ?_) AllReadyH.nil
  go_simp
  go_at_call 47
  refine (TX.out _ TT.out).mono ?_
  rintro e v2 ⟨rfl, hb⟩
  replace X := Lib.hid (X.out.below (hb))
  replace TT := Lib.hid (TT.out.below (hb))
  replace BW := Lib.hid (BW.out.trans ((hb).mono BW.out.size))
  clear hb
  go_simp
  refine hK.out _ _ ?_ (fun hHeld => ?_)
  · exact ⟨(X.out.cell 0), (X.out.cell 1), (X.out.cell 2), (X.out.cell 3)⟩
  clear hK K
  (try simp only [Act.put])
  (try simp only [List.setIfInBounds_toArray])
  (try simp only [List.set_cons_succ])
  (try simp only [List.set_cons_zero])
  refine wpAnyH_take (i := 7) (oi := { dst := some 11, op := Op.binOp BinOp.add 9 (Operand.tmp 7) (Operand.tmp 10) 9, type := 9, pos := "text.go:21", after := #[{ on := 3, ground := Ground.data }, { on := 6, ground := Ground.data }], guard := none }) (v := ?d3_6xv7) rfl (by kernel_rfl) (by kernel_rfl) (by kernel_rfl) (fun _ _ _ h => h) (Or.inl ⟨by rfl, ?d3_6xy7⟩) (by assumption) ?d3_6xr7
  case d3_6xy7 => (intro w hSw; (try dsimp only at hSw); go_simp; try with_reducible rfl)
  (try simp only [Act.put])
  (try simp only [List.setIfInBounds_toArray])
  (try simp only [List.set_cons_succ])
  (try simp only [List.set_cons_zero])
  refine wpAnyH_ready (rs := [8]) (by kernel_rfl) (by simp) ?_
  refine AllReadyH.cons (o := { dst := some 3, op := Op.assign (Operand.tmp 11), type := 9, pos := "text.go:21", after := #[{ on := 7, ground := Ground.data }, { on := 6, ground := Ground.chain }, { on := 0, ground := Ground.phase }, { on := 1, ground := Ground.phase }, { on := 2, ground := Ground.phase }, { on := 3, ground := Ground.phase }, { on := 4, ground := Ground.phase }, { on := 5, ground := Ground.phase }, { on := 6, ground := Ground.phase }, { on := 7, ground := Ground.phase }], guard := none }) rfl (fun K hK => ?_) AllReadyH.nil
  go_simp
  refine hK.out _ _ ?_ (fun hHeld => ?_)
  · exact ⟨(X.out.cell 0), (X.out.cell 1), (X.out.cell 2), (X.out.cell 3)⟩
  clear hK K
  (try simp only [Act.put])
  (try simp only [List.setIfInBounds_toArray])
  (try simp only [List.set_cons_succ])
  (try simp only [List.set_cons_zero])
  refine wpAnyH_done (by kernel_rfl) ?_ _
  clear hHeld
  have e5 := X.out.cell 5
  have e4 := X.out.cell 4
  simp at e4 e5
  rw [sum3]
  cases y5 with
  | false =>
    go_wp2_with fail
    go_ret
    refine ⟨?_, BW.out⟩
    simp
  | true =>
    go_wp2_with fail
    refine (NT.out _ TT.out).mono ?_
    rintro e w9 ⟨rfl, hb⟩
    replace BW := Lib.hid (BW.out.trans (hb.mono BW.out.size))
    clear hb
    go_wp2
    go_ret
    refine ⟨?_, BW.out⟩
    simp [ByteArray.mk_append_mk]
end Go.Proofs.YtjphhfgomlchoaaDoor
