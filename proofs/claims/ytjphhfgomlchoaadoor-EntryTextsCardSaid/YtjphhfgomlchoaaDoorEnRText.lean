/- The reference's text of a word, and its number: for every word. -/
import Derived.Test.YtjphhfgomlchoaaDoorEnText
import Derived.Deep.RegionHeld3
import Derived.Laws.IdiomStrings
import Derived.IntWalk
import Derived.Lib.Hide
namespace Go.Proofs.YtjphhfgomlchoaaDoor
open Go.ChangeShapes Go.WideShapes Go.ChangeAt Go.RowKit
set_option linter.unusedVariables false
theorem dlen (k u : Nat) (hk : 1 ≤ k) (h : u < 10 ^ k) : (Lib.decDigits u).length ≤ k := by
  induction k generalizing u with
  | zero => omega
  | succ k ih =>
    by_cases hu : u < 10
    · rw [Lib.decDigits, dif_pos hu]; simp
    · rw [Lib.decDigits, dif_neg hu, List.length_append]
      have hk : 1 ≤ k := by
        rcases Nat.eq_zero_or_pos k with rfl | h'
        · simp at h; omega
        · exact h'
      have := ih (u / 10) hk (by rw [Nat.pow_succ] at h; omega)
      simp; omega
theorem itoa_le (v : Int) (v0 : -9223372036854775808 ≤ v) (v1 : v ≤ 9223372036854775807) : (Lib.itoa v).length ≤ 21 := by
  unfold Lib.itoa
  split
  · have := dlen 20 v.natAbs (by omega) (by omega); simp; omega
  · have := dlen 20 v.toNat (by omega) (by omega); omega
/-- The digit d. -/
def dgt (d : Nat) : UInt8 := UInt8.ofNat (48 + d)
theorem dgt_nat (d : Nat) (h : d < 10) : ((dgt d).toNat : Int) = 48 + (d : Int) := by
  have : (dgt d).toNat = 48 + d := by
    unfold dgt
    rw [UInt8.toNat_ofNat']
    omega
  omega
/-- One byte made a string. -/
theorem conv1 (d : Nat) (hd : d < 10) (w : World) (b : Nat) (h : w.cell? ⟨b, 0, none⟩ = some (.int .u8 (48 + (d : Int)))) : (convert 78 9 (.slice (some ⟨b, 0, none⟩) 1 1)).run Tryd.prog w = .ok (.string ⟨#[dgt d]⟩) w :=
  run_convert_bytes_back (P := Tryd.prog) w 78 9 5 ⟨b, 0, none⟩ 1 [dgt d] Tryd.underlying78 Tryd.underlying5 Tryd.underlying9 (fun j hj => by
    obtain rfl : j = 0 := by simpa using hj
    simp only [List.getElem_cons_zero]
    rw [dgt_nat d hd]; exact h)
theorem itoa_small (d : Nat) (h : d < 10) : Lib.itoa d = [dgt d] := by unfold Lib.itoa dgt; rw [if_neg (by omega), Int.toNat_natCast, Lib.decDigits, dif_pos h]
theorem itoa_big (n : Nat) (h : ¬ n < 10) : Lib.itoa n = Lib.itoa ((n / 10 : Nat) : Int) ++ [dgt (n % 10)] := by
  unfold Lib.itoa dgt; rw [if_neg (by omega), if_neg (by omega), Int.toNat_natCast, Int.toNat_natCast, Lib.decDigits, dif_neg h]
theorem itoa_neg (n : Nat) (h : 0 < n) : Lib.itoa (-(n : Int)) = 45 :: Lib.itoa n := by
  unfold Lib.itoa; rw [if_pos (by omega), if_neg (by omega)]; simp
set_option maxRecDepth 100000 in
theorem num_small (d : Nat) (w : World) (h : d < 10) :
    Calls Tryd.prog 54 #[.int .i64 d] w fun e w' => e = .returned (.string ⟨(Lib.itoa d).toArray⟩) ∧ Below w.heap.size w w' := by
  have hm : ((d : Int) == -9223372036854775808) = false := by rw [beq_eq_false_iff_ne]; omega
  have h1 : ¬ (d : Int) < 0 := by omega
  have hc := conv1 d h (w.alloc (.cells #[.int .u8 (48 + (d : Int))] 5)) w.heap.size (by simp [go_sem])
  have HI := Lib.hid (itoa_small d h)
  go_enter Tryd.func54, Tryd.ntmps54
  go_wp2
  go_ret
  rw [HI.out]
  exact ⟨rfl, (Below.refl _ _).alloc (Nat.le_refl _) _⟩
theorem cat (a b : List UInt8) : (ByteArray.mk a.toArray) ++ (ByteArray.mk b.toArray) = ⟨(a ++ b).toArray⟩ := by simp [ByteArray.mk_append_mk]
/-- A block holds one byte. -/
def HasB (w : World) (b : Nat) (x : Int) : Prop := w.cell? ⟨b, 0, none⟩ = some (.int .u8 x) ∧ b < w.heap.size
theorem HasB.new (w : World) (x : Int) : HasB (w.alloc (.cells #[.int .u8 x] 5)) w.heap.size x := ⟨by simp [go_sem], by simp⟩
theorem HasB.below {W w1 : World} {b : Nat} {x : Int} (h : HasB W b x) (hb : Below W.heap.size W w1) : HasB w1 b x := ⟨(hb.cell h.2).trans h.1, Nat.lt_of_lt_of_le h.2 hb.size⟩
set_option maxRecDepth 100000 in
set_option maxHeartbeats 800000 in
theorem num_big (n q d : Nat) (w : World) (h : 10 ≤ n) (h2 : n < 9223372036854775808) (hq : q = n / 10) (hd : d = n % 10) (ih : ∀ W, Calls Tryd.prog 54 #[.int .i64 (q : Int)] W fun e w' => e = .returned (.string ⟨(Lib.itoa q).toArray⟩) ∧ Below W.heap.size W w') :
    Calls Tryd.prog 54 #[.int .i64 n] w fun e w' => e = .returned (.string ⟨(Lib.itoa n).toArray⟩) ∧ Below w.heap.size w w' := by
  have HI := Lib.hid (show Lib.itoa n = Lib.itoa q ++ [dgt d] by rw [hq, hd]; exact itoa_big n (by omega))
  have hm : ((n : Int) == -9223372036854775808) = false := by rw [beq_eq_false_iff_ne]; omega
  have h1 : ¬ (n : Int) < 0 := by omega
  have h3 : ¬ (n : Int) < 10 := by omega
  have hd9 : d < 10 := by omega
  have hil : ¬ 9223372036854775807 < (Lib.itoa (q : Int)).length + 1 := by have := itoa_le (q : Int) (by omega) (by omega); omega
  have k1 : IntKind.i64.wrap ((n : Int) / 10) = (q : Int) := by rw [IntWalk.i64_in _ ⟨by omega, by omega⟩]; omega
  have k3 : (n : Int).tmod 10 = (d : Int) := by rw [Int.tmod_eq_emod_of_nonneg (by omega)]; omega
  have k2 : IntKind.u8.wrap (IntKind.i64.wrap (48 + (d : Int))) = 48 + (d : Int) := by
    rw [IntWalk.i64_in _ ⟨by omega, by omega⟩]; exact IntWalk.u8_in _ ⟨by omega, by omega⟩
  clear hq hd
  have IH := Lib.hid ih
  clear ih
  go_enter Tryd.func54, Tryd.ntmps54
  go_wp2_with fail
  have BB := Lib.hid (Below.refl w.heap.size w)
  replace BB := Lib.hid (BB.out.trans (((Below.refl _ _).drew).mono BB.out.size))
  refine wp_region_held_drew (S := fun w' => True) (by kernel_rfl) True.intro (fun hHeld => ?_)
  generalize World.drew w = V0 at *
  refine wpAnyH_take (i := 0) (oi := { dst := some 18, op := Op.move (Operand.tmp 0), type := 2, pos := "ref.go:35", after := #[], guard := none }) (v := ?d1_1xv0) rfl (by kernel_rfl) (by kernel_rfl) (by kernel_rfl) (fun _ _ _ h => h) (Or.inl ⟨by rfl, ?d1_1xy0⟩) (by assumption) ?d1_1xr0
  case d1_1xy0 => (intro w hSw; (try dsimp only at hSw); go_simp; try with_reducible rfl)
  (try simp only [Act.put])
  (try simp only [List.setIfInBounds_toArray])
  (try simp only [List.set_cons_succ])
  (try simp only [List.set_cons_zero])
  refine wpAnyH_take (i := 1) (oi := { dst := some 19, op := Op.binOp BinOp.quo 2 (Operand.tmp 18) (Operand.const (Value.int IntKind.i64 10)) 2, type := 2, pos := "ref.go:35", after := #[{ on := 0, ground := Ground.data }], guard := none }) (v := ?d1_2xv1) rfl (by kernel_rfl) (by kernel_rfl) (by kernel_rfl) (fun _ _ _ h => h) (Or.inl ⟨by rfl, ?d1_2xy1⟩) (by assumption) ?d1_2xr1
  case d1_2xy1 => (intro w hSw; (try dsimp only at hSw); go_simp; try with_reducible rfl)
  (try simp only [Act.put])
  (try simp only [List.setIfInBounds_toArray])
  (try simp only [List.set_cons_succ])
  (try simp only [List.set_cons_zero])
  refine wpAnyH_take (i := 3) (oi := { dst := some 21, op := Op.move (Operand.tmp 0), type := 2, pos := "ref.go:35", after := #[], guard := none }) (v := ?d1_3xv3) rfl (by kernel_rfl) (by kernel_rfl) (by kernel_rfl) (fun _ _ _ h => h) (Or.inl ⟨by rfl, ?d1_3xy3⟩) (by assumption) ?d1_3xr3
  case d1_3xy3 => (intro w hSw; (try dsimp only at hSw); go_simp; try with_reducible rfl)
  (try simp only [Act.put])
  (try simp only [List.setIfInBounds_toArray])
  (try simp only [List.set_cons_succ])
  (try simp only [List.set_cons_zero])
  refine wpAnyH_take (i := 4) (oi := { dst := some 22, op := Op.binOp BinOp.rem 2 (Operand.tmp 21) (Operand.const (Value.int IntKind.i64 10)) 2, type := 2, pos := "ref.go:35", after := #[{ on := 3, ground := Ground.data }], guard := none }) (v := ?d1_4xv4) rfl (by kernel_rfl) (by kernel_rfl) (by kernel_rfl) (fun _ _ _ h => h) (Or.inl ⟨by rfl, ?d1_4xy4⟩) (by assumption) ?d1_4xr4
  case d1_4xy4 => (intro w hSw; (try dsimp only at hSw); go_simp; try with_reducible rfl)
  (try simp only [Act.put])
  (try simp only [List.setIfInBounds_toArray])
  (try simp only [List.set_cons_succ])
  (try simp only [List.set_cons_zero])
  refine wpAnyH_take (i := 5) (oi := { dst := some 23, op := Op.binOp BinOp.add 2 (Operand.const (Value.int IntKind.i64 48)) (Operand.tmp 22) 2, type := 2, pos := "ref.go:35", after := #[{ on := 4, ground := Ground.data }], guard := none }) (v := ?d1_5xv5) rfl (by kernel_rfl) (by kernel_rfl) (by kernel_rfl) (fun _ _ _ h => h) (Or.inl ⟨by rfl, ?d1_5xy5⟩) (by assumption) ?d1_5xr5
  case d1_5xy5 => (intro w hSw; (try dsimp only at hSw); go_simp; try with_reducible rfl)
  (try simp only [Act.put])
  (try simp only [List.setIfInBounds_toArray])
  (try simp only [List.set_cons_succ])
  (try simp only [List.set_cons_zero])
  refine wpAnyH_take (i := 6) (oi := { dst := some 24, op := Op.convert 2 5 (Operand.tmp 23), type := 5, pos := "ref.go:35", after := #[{ on := 5, ground := Ground.data }], guard := none }) (v := ?d1_6xv6) rfl (by kernel_rfl) (by kernel_rfl) (by kernel_rfl) (fun _ _ _ h => h) (Or.inl ⟨by rfl, ?d1_6xy6⟩) (by assumption) ?d1_6xr6
  case d1_6xy6 => (intro w hSw; (try dsimp only at hSw); go_simp; try with_reducible rfl)
  (try simp only [Act.put])
  (try simp only [List.setIfInBounds_toArray])
  (try simp only [List.set_cons_succ])
  (try simp only [List.set_cons_zero])
  refine wpAnyH_ready (rs := [2, 7]) (by kernel_rfl) (by simp) ?_
  refine AllReadyH.cons (o := { dst := some 20, op := Op.call { callee := Callee.value (Operand.func 54), args := #[Operand.tmp 19], argTypes := #[2] }, type := 9, pos := "ref.go:35", after := #[{ on := 1, ground := Ground.data }], guard := none }) rfl (fun K hK => ?_) ?_
  · skip
    go_simp
    go_at_call 54
    refine (IH.out _).mono ?_
    rintro e v1 ⟨rfl, hb⟩
    replace BB := Lib.hid (BB.out.trans ((hb).mono BB.out.size))
    clear hb
    go_simp
    refine hK.out _ _ ?_ (fun hHeld => ?_)
    · exact True.intro
    clear hK K
    (try simp only [Act.put])
    (try simp only [List.setIfInBounds_toArray])
    (try simp only [List.set_cons_succ])
    (try simp only [List.set_cons_zero])
    refine wpAnyH_ready (rs := [7]) (by kernel_rfl) (by simp) ?_
    refine AllReadyH.cons (o := { dst := some 25, op := Op.buildSlice 78 1 #[(0, Operand.tmp 24)], type := 78, pos := "ref.go:35", after := #[{ on := 6, ground := Ground.data }], guard := none }) rfl (fun K hK => ?_) AllReadyH.nil
    go_simp
    have X := Lib.hid (HasB.new v1 (48 + (d : Int)))
    replace BB := Lib.hid (BB.out.trans ((((Below.refl _ _).alloc (a := v1) (Nat.le_refl _) (.cells #[.int .u8 (48 + (d : Int))] 5))).mono BB.out.size))
    generalize World.alloc v1 (.cells #[.int .u8 (48 + (d : Int))] 5) = u1 at *
    generalize World.heap v1 = hp1 at *
    generalize hp1.size = bx at *
    refine hK.out _ _ ?_ (fun hHeld => ?_)
    · exact True.intro
    clear hK K
    (try simp only [Act.put])
    (try simp only [List.setIfInBounds_toArray])
    (try simp only [List.set_cons_succ])
    (try simp only [List.set_cons_zero])
    refine wpAnyH_ready (rs := [8]) (by kernel_rfl) (by simp) ?_
    refine AllReadyH.cons (o := { dst := some 26, op := Op.convert 78 9 (Operand.tmp 25), type := 9, pos := "ref.go:35", after := #[{ on := 7, ground := Ground.data }], guard := none }) rfl (fun K hK => ?_) AllReadyH.nil
    have hcv := conv1 d hd9 u1 bx X.out.1
    go_simp
    clear hcv
    refine hK.out _ _ ?_ (fun hHeld => ?_)
    · exact True.intro
    clear hK K
    (try simp only [Act.put])
    (try simp only [List.setIfInBounds_toArray])
    (try simp only [List.set_cons_succ])
    (try simp only [List.set_cons_zero])
    refine wpAnyH_take (i := 9) (oi := { dst := some 27, op := Op.binOp BinOp.add 9 (Operand.tmp 20) (Operand.tmp 26) 9, type := 9, pos := "ref.go:35", after := #[{ on := 2, ground := Ground.data }, { on := 8, ground := Ground.data }], guard := none }) (v := ?d2_7xv9) rfl (by kernel_rfl) (by kernel_rfl) (by kernel_rfl) (fun _ _ _ h => h) (Or.inl ⟨by rfl, ?d2_7xy9⟩) (by assumption) ?d2_7xr9
    case d2_7xy9 => (intro w hSw; (try dsimp only at hSw); go_simp; try with_reducible rfl)
    (try simp only [Act.put])
    (try simp only [List.setIfInBounds_toArray])
    (try simp only [List.set_cons_succ])
    (try simp only [List.set_cons_zero])
    refine wpAnyH_ready (rs := [10]) (by kernel_rfl) (by simp) ?_
    refine AllReadyH.cons (o := { dst := some 2, op := Op.assign (Operand.tmp 27), type := 9, pos := "ref.go:35", after := #[{ on := 9, ground := Ground.data }, { on := 2, ground := Ground.chain }, { on := 0, ground := Ground.phase }, { on := 1, ground := Ground.phase }, { on := 2, ground := Ground.phase }, { on := 3, ground := Ground.phase }, { on := 4, ground := Ground.phase }, { on := 5, ground := Ground.phase }, { on := 6, ground := Ground.phase }, { on := 7, ground := Ground.phase }, { on := 8, ground := Ground.phase }, { on := 9, ground := Ground.phase }], guard := none }) rfl (fun K hK => ?_) AllReadyH.nil
    go_simp
    refine hK.out _ _ ?_ (fun hHeld => ?_)
    · exact True.intro
    clear hK K
    (try simp only [Act.put])
    (try simp only [List.setIfInBounds_toArray])
    (try simp only [List.set_cons_succ])
    (try simp only [List.set_cons_zero])
    refine wpAnyH_done (by kernel_rfl) ?_ _
    go_wp2
    go_ret
    rw [HI.out, ← cat]
    exact ⟨rfl, BB.out⟩
  refine AllReadyH.cons (o := { dst := some 25, op := Op.buildSlice 78 1 #[(0, Operand.tmp 24)], type := 78, pos := "ref.go:35", after := #[{ on := 6, ground := Ground.data }], guard := none }) rfl (fun K hK => ?_) AllReadyH.nil
  go_simp
  have X := Lib.hid (HasB.new V0 (48 + (d : Int)))
  replace BB := Lib.hid (BB.out.trans ((((Below.refl _ _).alloc (a := V0) (Nat.le_refl _) (.cells #[.int .u8 (48 + (d : Int))] 5))).mono BB.out.size))
  generalize World.alloc V0 (.cells #[.int .u8 (48 + (d : Int))] 5) = u1 at *
  generalize World.heap V0 = hp1 at *
  generalize hp1.size = bx at *
  refine hK.out _ _ ?_ (fun hHeld => ?_)
  · exact True.intro
  clear hK K
  (try simp only [Act.put])
  (try simp only [List.setIfInBounds_toArray])
  (try simp only [List.set_cons_succ])
  (try simp only [List.set_cons_zero])
  refine wpAnyH_ready (rs := [2, 8]) (by kernel_rfl) (by simp) ?_
  refine AllReadyH.cons (o := { dst := some 20, op := Op.call { callee := Callee.value (Operand.func 54), args := #[Operand.tmp 19], argTypes := #[2] }, type := 9, pos := "ref.go:35", after := #[{ on := 1, ground := Ground.data }], guard := none }) rfl (fun K hK => ?_) ?_
  · skip
    go_simp
    go_at_call 54
    refine (IH.out _).mono ?_
    rintro e v2 ⟨rfl, hb⟩
    replace X := Lib.hid (X.out.below (hb))
    replace BB := Lib.hid (BB.out.trans ((hb).mono BB.out.size))
    clear hb
    go_simp
    refine hK.out _ _ ?_ (fun hHeld => ?_)
    · exact True.intro
    clear hK K
    (try simp only [Act.put])
    (try simp only [List.setIfInBounds_toArray])
    (try simp only [List.set_cons_succ])
    (try simp only [List.set_cons_zero])
    refine wpAnyH_ready (rs := [8]) (by kernel_rfl) (by simp) ?_
    refine AllReadyH.cons (o := { dst := some 26, op := Op.convert 78 9 (Operand.tmp 25), type := 9, pos := "ref.go:35", after := #[{ on := 7, ground := Ground.data }], guard := none }) rfl (fun K hK => ?_) AllReadyH.nil
    have hcv := conv1 d hd9 v2 bx X.out.1
    go_simp
    clear hcv
    refine hK.out _ _ ?_ (fun hHeld => ?_)
    · exact True.intro
    clear hK K
    (try simp only [Act.put])
    (try simp only [List.setIfInBounds_toArray])
    (try simp only [List.set_cons_succ])
    (try simp only [List.set_cons_zero])
    refine wpAnyH_take (i := 9) (oi := { dst := some 27, op := Op.binOp BinOp.add 9 (Operand.tmp 20) (Operand.tmp 26) 9, type := 9, pos := "ref.go:35", after := #[{ on := 2, ground := Ground.data }, { on := 8, ground := Ground.data }], guard := none }) (v := ?d3_8xv9) rfl (by kernel_rfl) (by kernel_rfl) (by kernel_rfl) (fun _ _ _ h => h) (Or.inl ⟨by rfl, ?d3_8xy9⟩) (by assumption) ?d3_8xr9
    case d3_8xy9 => (intro w hSw; (try dsimp only at hSw); go_simp; try with_reducible rfl)
    (try simp only [Act.put])
    (try simp only [List.setIfInBounds_toArray])
    (try simp only [List.set_cons_succ])
    (try simp only [List.set_cons_zero])
    refine wpAnyH_ready (rs := [10]) (by kernel_rfl) (by simp) ?_
    refine AllReadyH.cons (o := { dst := some 2, op := Op.assign (Operand.tmp 27), type := 9, pos := "ref.go:35", after := #[{ on := 9, ground := Ground.data }, { on := 2, ground := Ground.chain }, { on := 0, ground := Ground.phase }, { on := 1, ground := Ground.phase }, { on := 2, ground := Ground.phase }, { on := 3, ground := Ground.phase }, { on := 4, ground := Ground.phase }, { on := 5, ground := Ground.phase }, { on := 6, ground := Ground.phase }, { on := 7, ground := Ground.phase }, { on := 8, ground := Ground.phase }, { on := 9, ground := Ground.phase }], guard := none }) rfl (fun K hK => ?_) AllReadyH.nil
    go_simp
    refine hK.out _ _ ?_ (fun hHeld => ?_)
    · exact True.intro
    clear hK K
    (try simp only [Act.put])
    (try simp only [List.setIfInBounds_toArray])
    (try simp only [List.set_cons_succ])
    (try simp only [List.set_cons_zero])
    refine wpAnyH_done (by kernel_rfl) ?_ _
    go_wp2
    go_ret
    rw [HI.out, ← cat]
    exact ⟨rfl, BB.out⟩
  refine AllReadyH.cons (o := { dst := some 26, op := Op.convert 78 9 (Operand.tmp 25), type := 9, pos := "ref.go:35", after := #[{ on := 7, ground := Ground.data }], guard := none }) rfl (fun K hK => ?_) AllReadyH.nil
  have hcv := conv1 d hd9 u1 bx X.out.1
  go_simp
  clear hcv
  refine hK.out _ _ ?_ (fun hHeld => ?_)
  · exact True.intro
  clear hK K
  (try simp only [Act.put])
  (try simp only [List.setIfInBounds_toArray])
  (try simp only [List.set_cons_succ])
  (try simp only [List.set_cons_zero])
  refine wpAnyH_ready (rs := [2]) (by kernel_rfl) (by simp) ?_
  refine AllReadyH.cons (o := { dst := some 20, op := Op.call { callee := Callee.value (Operand.func 54), args := #[Operand.tmp 19], argTypes := #[2] }, type := 9, pos := "ref.go:35", after := #[{ on := 1, ground := Ground.data }], guard := none }) rfl (fun K hK => ?_) AllReadyH.nil
  go_simp
  go_at_call 54
  refine (IH.out _).mono ?_
  rintro e v3 ⟨rfl, hb⟩
  replace X := Lib.hid (X.out.below (hb))
  replace BB := Lib.hid (BB.out.trans ((hb).mono BB.out.size))
  clear hb
  go_simp
  refine hK.out _ _ ?_ (fun hHeld => ?_)
  · exact True.intro
  clear hK K
  (try simp only [Act.put])
  (try simp only [List.setIfInBounds_toArray])
  (try simp only [List.set_cons_succ])
  (try simp only [List.set_cons_zero])
  refine wpAnyH_take (i := 9) (oi := { dst := some 27, op := Op.binOp BinOp.add 9 (Operand.tmp 20) (Operand.tmp 26) 9, type := 9, pos := "ref.go:35", after := #[{ on := 2, ground := Ground.data }, { on := 8, ground := Ground.data }], guard := none }) (v := ?d4_9xv9) rfl (by kernel_rfl) (by kernel_rfl) (by kernel_rfl) (fun _ _ _ h => h) (Or.inl ⟨by rfl, ?d4_9xy9⟩) (by assumption) ?d4_9xr9
  case d4_9xy9 => (intro w hSw; (try dsimp only at hSw); go_simp; try with_reducible rfl)
  (try simp only [Act.put])
  (try simp only [List.setIfInBounds_toArray])
  (try simp only [List.set_cons_succ])
  (try simp only [List.set_cons_zero])
  refine wpAnyH_ready (rs := [10]) (by kernel_rfl) (by simp) ?_
  refine AllReadyH.cons (o := { dst := some 2, op := Op.assign (Operand.tmp 27), type := 9, pos := "ref.go:35", after := #[{ on := 9, ground := Ground.data }, { on := 2, ground := Ground.chain }, { on := 0, ground := Ground.phase }, { on := 1, ground := Ground.phase }, { on := 2, ground := Ground.phase }, { on := 3, ground := Ground.phase }, { on := 4, ground := Ground.phase }, { on := 5, ground := Ground.phase }, { on := 6, ground := Ground.phase }, { on := 7, ground := Ground.phase }, { on := 8, ground := Ground.phase }, { on := 9, ground := Ground.phase }], guard := none }) rfl (fun K hK => ?_) AllReadyH.nil
  go_simp
  refine hK.out _ _ ?_ (fun hHeld => ?_)
  · exact True.intro
  clear hK K
  (try simp only [Act.put])
  (try simp only [List.setIfInBounds_toArray])
  (try simp only [List.set_cons_succ])
  (try simp only [List.set_cons_zero])
  refine wpAnyH_done (by kernel_rfl) ?_ _
  go_wp2
  go_ret
  rw [HI.out, ← cat]
  exact ⟨rfl, BB.out⟩
set_option maxRecDepth 100000 in
theorem num_neg (n : Nat) (w : World) (h : 0 < n) (h2 : n < 9223372036854775808) (ih : ∀ W, Calls Tryd.prog 54 #[.int .i64 (n : Int)] W fun e w' => e = .returned (.string ⟨(Lib.itoa n).toArray⟩) ∧ Below W.heap.size W w') :
    Calls Tryd.prog 54 #[.int .i64 (-(n : Int))] w fun e w' => e = .returned (.string ⟨(Lib.itoa (-(n : Int))).toArray⟩) ∧ Below w.heap.size w w' := by
  have hm : (-(n : Int) == -9223372036854775808) = false := by rw [beq_eq_false_iff_ne]; omega
  have h1 : -(n : Int) < 0 := by omega
  have h4 : - -(n : Int) = n := by omega
  have hil : ¬ 9223372036854775807 < 1 + (Lib.itoa (n : Int)).length := by have := itoa_le (n : Int) (by omega) (by omega); omega
  have IH := Lib.hid ih
  have HI := Lib.hid (itoa_neg n h)
  clear ih
  go_enter Tryd.func54, Tryd.ntmps54
  go_wp2_with fail
  first | (rw [h4]; refine (IH.out _).mono ?_) | refine (IH.out _).mono ?_
  rintro e w' ⟨rfl, hb⟩
  have HB := Lib.hid hb
  clear hb
  go_wp2
  go_ret
  rw [HI.out, show (45 : UInt8) :: Lib.itoa (n : Int) = [45] ++ Lib.itoa (n : Int) from rfl, ← cat]
  exact ⟨rfl, HB.out⟩
theorem num_nat (n : Nat) (h : n < 9223372036854775808) : ∀ w, Calls Tryd.prog 54 #[.int .i64 (n : Int)] w fun e w' => e = .returned (.string ⟨(Lib.itoa n).toArray⟩) ∧ Below w.heap.size w w' := by
  induction n using Nat.strongRecOn with
  | _ n ih =>
    intro w
    by_cases hn : n < 10
    · exact num_small n w hn
    · exact num_big n (n / 10) (n % 10) w (by omega) h rfl rfl (ih (n / 10) (by omega) (by omega))
set_option maxRecDepth 100000 in
theorem num_least (w : World) : Calls Tryd.prog 54 #[.int .i64 (-9223372036854775808)] w fun e w' => e = .returned (.string ⟨(Lib.itoa (-9223372036854775808)).toArray⟩) ∧ Below w.heap.size w w' := by
  have hi : Lib.itoa (-9223372036854775808) = [45, 57, 50, 50, 51, 51, 55, 50, 48, 51, 54, 56, 53, 52, 55, 55, 53, 56, 48, 56] := by
    unfold Lib.itoa
    rw [if_pos (by omega)]
    simp [Lib.decDigits]
  rw [hi]
  clear hi
  go_enter Tryd.func54, Tryd.ntmps54
  go_wp2
  all_goals (go_ret; exact ⟨rfl, Below.refl _ _⟩)
theorem number_any (n : Int) (h0 : -9223372036854775808 ≤ n) (h1 : n ≤ 9223372036854775807) (w : World) :
    Calls Tryd.prog 54 #[.int .i64 n] w fun e w' => e = .returned (.string ⟨(Lib.itoa n).toArray⟩) ∧ Below w.heap.size w w' := by
  by_cases hn : n < 0
  · by_cases hm : n = -9223372036854775808
    · subst hm; exact num_least w
    · obtain ⟨k, rfl⟩ : ∃ k : Nat, n = -(k : Int) := ⟨n.natAbs, by omega⟩
      exact num_neg k w (by omega) (by omega) (num_nat k (by omega))
  · obtain ⟨k, rfl⟩ : ∃ k : Nat, n = (k : Int) := ⟨n.toNat, by omega⟩
    exact num_nat k (by omega) w
set_option maxHeartbeats 400000 in
theorem rwho_ok (r : Int) (w : World) (h0 : 0 ≤ r) (h1 : r < 4294967296) (h : Good r) :
    Calls Tryd.prog 53 #[.int .u32 r] w fun e w' => e = .returned (.tuple #[.int .i64 (r / 16777216), .int .i64 (r % 16777216)]) ∧ w = w' := by
  obtain ⟨g1, g2, g3⟩ := h
  go_enter Tryd.func53, Tryd.ntmps53
  go_wp2
  go_ret2
  exact ⟨rfl, rfl⟩

set_option maxHeartbeats 400000 in
theorem rwho_no (r : Int) (w : World) (h0 : 0 ≤ r) (h1 : r < 4294967296) (h : ¬ Good r) :
    Calls Tryd.prog 53 #[.int .u32 r] w fun e w' => e = .returned (.tuple #[.int .i64 0, .int .i64 0]) ∧ w = w' := by
  unfold Good at h
  by_cases g1 : r / 16777216 < 1
  · clear h
    go_enter Tryd.func53, Tryd.ntmps53
    go_wp2
    go_ret2
    exact ⟨rfl, rfl⟩
  · by_cases g2 : 72 < r / 16777216
    · clear h
      go_enter Tryd.func53, Tryd.ntmps53
      go_wp2
      go_ret2
      exact ⟨rfl, rfl⟩
    · have g3 : r % 16777216 < 1 := by omega
      clear h
      go_enter Tryd.func53, Tryd.ntmps53
      go_wp2
      go_ret2
      exact ⟨rfl, rfl⟩

theorem num_list (n : Int) (l : List UInt8) (h0 : -9223372036854775808 ≤ n) (h1 : n ≤ 9223372036854775807) (hl : Lib.itoa n = l) (w : World) :
    Calls Tryd.prog 54 #[.int .i64 n] w fun e w' => e = .returned (.string ⟨l.toArray⟩) ∧ Below w.heap.size w w' := by
  rw [← hl]; exact number_any n h0 h1 w

set_option maxRecDepth 100000 in
set_option maxHeartbeats 800000 in
theorem rtext_plain0 (v n r : Int) (w : World) (v0 : -9223372036854775808 ≤ v) (v1 : v ≤ 9223372036854775807) (n0 : 0 ≤ n) (n1 : n < 4294967296) (r0 : 0 ≤ r) (r1 : r < 4294967296)  :
    Calls Tryd.prog 36 #[.agg #[.int .i64 v, .int .u32 0, .int .u32 0]] w fun e w' => e = .returned (.string ⟨(textOf v 0 0).toArray⟩) ∧ Below w.heap.size w w' := by
  have HT := Lib.hid (show textOf v 0 0 = Lib.itoa v by unfold textOf; rw [if_pos rfl, if_pos rfl])
  obtain ⟨A, hA⟩ : ∃ l, Lib.itoa v = l := ⟨_, rfl⟩
  have lA : A.length ≤ 21 := by rw [← hA]; exact itoa_le v (by omega) (by omega)
  rw [hA] at HT
  have HA := Lib.hid hA
  clear hA
  have X := Lib.hid (HasW.new w v 0 0)
  have B0 := Lib.hid ((Below.refl _ _).alloc (Nat.le_refl _) (a := w) (.cells #[.int .i64 v, .int .u32 0, .int .u32 0] 39))
  go_enter Tryd.func36, Tryd.ntmps36
  obtain ⟨⟨x0, x1, x2⟩, xl⟩ := X.out
  go_wp2_with fail
  generalize w.alloc (.cells #[.int .i64 v, .int .u32 0, .int .u32 0] 39) = W0 at *
  obtain ⟨b, hb0⟩ : ∃ b, w.heap.size = b := ⟨_, rfl⟩
  rw [hb0] at X ⊢
  clear x0 x1 x2 xl
  refine (rwho_no 0 _ (by omega) (by omega) (by unfold Good; omega)).mono ?_
  rintro e w' ⟨rfl, rfl⟩
  obtain ⟨⟨x0, x1, x2⟩, xl⟩ := X.out
  go_wp2_with fail
  clear x0 x1 x2 xl
  refine (num_list v A (by omega) (by omega) HA.out _).mono ?_
  rintro e W1 ⟨rfl, hb⟩
  replace X := Lib.hid (X.out.below hb)
  replace B0 := Lib.hid (B0.out.trans (hb.mono B0.out.size))
  clear hb
  obtain ⟨⟨x0, x1, x2⟩, xl⟩ := X.out
  go_wp2
  go_ret
  rw [HT.out]
  exact ⟨rfl, B0.out⟩

set_option maxRecDepth 100000 in
set_option maxHeartbeats 800000 in
theorem rtext_plain1 (v n r : Int) (w : World) (v0 : -9223372036854775808 ≤ v) (v1 : v ≤ 9223372036854775807) (n0 : 0 ≤ n) (n1 : n < 4294967296) (r0 : 0 ≤ r) (r1 : r < 4294967296) (hn : n ≠ 0) :
    Calls Tryd.prog 36 #[.agg #[.int .i64 v, .int .u32 n, .int .u32 0]] w fun e w' => e = .returned (.string ⟨(textOf v n 0).toArray⟩) ∧ Below w.heap.size w w' := by
  have hnn : (n != 0) = true := by simpa using hn
  have HT := Lib.hid (show textOf v n 0 = Lib.itoa v ++ 46 :: Lib.itoa n by unfold textOf; rw [if_pos rfl, if_neg hn]; unfold Lib.itoa; rw [if_neg (by omega : ¬ n < 0)])
  obtain ⟨A, hA⟩ : ∃ l, Lib.itoa v = l := ⟨_, rfl⟩
  have lA : A.length ≤ 21 := by rw [← hA]; exact itoa_le v (by omega) (by omega)
  obtain ⟨B, hB⟩ : ∃ l, Lib.itoa n = l := ⟨_, rfl⟩
  have lB : B.length ≤ 21 := by rw [← hB]; exact itoa_le n (by omega) (by omega)
  rw [hA, hB] at HT
  have HA := Lib.hid hA
  have HB := Lib.hid hB
  clear hA hB
  have q1 : ¬ 9223372036854775807 < A.length + 1 := by omega
  have q2 : ¬ 9223372036854775807 < A.length + 1 + B.length := by omega
  have X := Lib.hid (HasW.new w v n 0)
  have B0 := Lib.hid ((Below.refl _ _).alloc (Nat.le_refl _) (a := w) (.cells #[.int .i64 v, .int .u32 n, .int .u32 0] 39))
  go_enter Tryd.func36, Tryd.ntmps36
  obtain ⟨⟨x0, x1, x2⟩, xl⟩ := X.out
  go_wp2_with fail
  generalize w.alloc (.cells #[.int .i64 v, .int .u32 n, .int .u32 0] 39) = W0 at *
  obtain ⟨b, hb0⟩ : ∃ b, w.heap.size = b := ⟨_, rfl⟩
  rw [hb0] at X ⊢
  clear x0 x1 x2 xl
  refine (rwho_no 0 _ (by omega) (by omega) (by unfold Good; omega)).mono ?_
  rintro e w' ⟨rfl, rfl⟩
  obtain ⟨⟨x0, x1, x2⟩, xl⟩ := X.out
  go_wp2_with fail
  clear x0 x1 x2 xl
  refine (num_list v A (by omega) (by omega) HA.out _).mono ?_
  rintro e W1 ⟨rfl, hb⟩
  replace X := Lib.hid (X.out.below hb)
  replace B0 := Lib.hid (B0.out.trans (hb.mono B0.out.size))
  clear hb
  obtain ⟨⟨x0, x1, x2⟩, xl⟩ := X.out
  go_wp2_with fail
  clear x0 x1 x2 xl
  refine (num_list n B (by omega) (by omega) HB.out _).mono ?_
  rintro e W2 ⟨rfl, hb⟩
  replace X := Lib.hid (X.out.below hb)
  replace B0 := Lib.hid (B0.out.trans (hb.mono B0.out.size))
  clear hb
  obtain ⟨⟨x0, x1, x2⟩, xl⟩ := X.out
  go_wp2
  go_ret
  rw [HT.out]
  exact ⟨ret_str (by simp [ByteArray.mk_append_mk]), B0.out⟩

set_option maxRecDepth 100000 in
set_option maxHeartbeats 800000 in
theorem rtext_inst1 (v n r : Int) (w : World) (v0 : -9223372036854775808 ≤ v) (v1 : v ≤ 9223372036854775807) (n0 : 0 ≤ n) (n1 : n < 4294967296) (r0 : 0 ≤ r) (r1 : r < 4294967296) (hn : n ≠ 0) (hr : Good r) :
    Calls Tryd.prog 36 #[.agg #[.int .i64 v, .int .u32 n, .int .u32 r]] w fun e w' => e = .returned (.string ⟨(textOf v n r).toArray⟩) ∧ Below w.heap.size w w' := by
  have hnn : (n != 0) = true := by simpa using hn
  have hz : r ≠ 0 := by unfold Good at hr; omega
  have hzz : (r != 0) = true := by simpa using hz
  have hrw : (r / 16777216 == 0) = false := by rw [beq_eq_false_iff_ne]; unfold Good at hr; omega
  have HG := Lib.hid hr
  have HT := Lib.hid (show textOf v n r = Lib.itoa v ++ 46 :: (Lib.itoa n ++ 35 :: (Lib.itoa (r / 16777216) ++ 58 :: Lib.itoa (r % 16777216))) by unfold textOf; rw [if_neg hz, if_pos hr]; unfold Lib.itoa; rw [if_neg (by omega : ¬ n < 0), if_neg (by omega : ¬ r / 16777216 < 0), if_neg (by omega : ¬ r % 16777216 < 0)])
  obtain ⟨A, hA⟩ : ∃ l, Lib.itoa v = l := ⟨_, rfl⟩
  have lA : A.length ≤ 21 := by rw [← hA]; exact itoa_le v (by omega) (by omega)
  obtain ⟨B, hB⟩ : ∃ l, Lib.itoa n = l := ⟨_, rfl⟩
  have lB : B.length ≤ 21 := by rw [← hB]; exact itoa_le n (by omega) (by omega)
  obtain ⟨C, hC⟩ : ∃ l, Lib.itoa (r / 16777216) = l := ⟨_, rfl⟩
  have lC : C.length ≤ 21 := by rw [← hC]; exact itoa_le (r / 16777216) (by omega) (by omega)
  obtain ⟨D, hD⟩ : ∃ l, Lib.itoa (r % 16777216) = l := ⟨_, rfl⟩
  have lD : D.length ≤ 21 := by rw [← hD]; exact itoa_le (r % 16777216) (by omega) (by omega)
  rw [hA, hB, hC, hD] at HT
  have HA := Lib.hid hA
  have HB := Lib.hid hB
  have HC := Lib.hid hC
  have HD := Lib.hid hD
  clear hA hB hC hD
  have q1 : ¬ 9223372036854775807 < A.length + 1 := by omega
  have q2 : ¬ 9223372036854775807 < A.length + 1 + B.length := by omega
  have q3 : ¬ 9223372036854775807 < A.length + 1 + B.length + 1 := by omega
  have q4 : ¬ 9223372036854775807 < A.length + 1 + B.length + 1 + C.length := by omega
  have q5 : ¬ 9223372036854775807 < A.length + 1 + B.length + 1 + C.length + 1 := by omega
  have q6 : ¬ 9223372036854775807 < A.length + 1 + B.length + 1 + C.length + 1 + D.length := by omega
  have X := Lib.hid (HasW.new w v n r)
  have B0 := Lib.hid ((Below.refl _ _).alloc (Nat.le_refl _) (a := w) (.cells #[.int .i64 v, .int .u32 n, .int .u32 r] 39))
  go_enter Tryd.func36, Tryd.ntmps36
  obtain ⟨⟨x0, x1, x2⟩, xl⟩ := X.out
  go_wp2_with fail
  generalize w.alloc (.cells #[.int .i64 v, .int .u32 n, .int .u32 r] 39) = W0 at *
  obtain ⟨b, hb0⟩ : ∃ b, w.heap.size = b := ⟨_, rfl⟩
  rw [hb0] at X ⊢
  clear x0 x1 x2 xl
  refine (rwho_ok r _ r0 r1 HG.out).mono ?_
  rintro e w' ⟨rfl, rfl⟩
  obtain ⟨⟨x0, x1, x2⟩, xl⟩ := X.out
  go_wp2_with fail
  clear x0 x1 x2 xl
  refine (num_list v A (by omega) (by omega) HA.out _).mono ?_
  rintro e W1 ⟨rfl, hb⟩
  replace X := Lib.hid (X.out.below hb)
  replace B0 := Lib.hid (B0.out.trans (hb.mono B0.out.size))
  clear hb
  obtain ⟨⟨x0, x1, x2⟩, xl⟩ := X.out
  go_wp2_with fail
  clear x0 x1 x2 xl
  refine (num_list n B (by omega) (by omega) HB.out _).mono ?_
  rintro e W2 ⟨rfl, hb⟩
  replace X := Lib.hid (X.out.below hb)
  replace B0 := Lib.hid (B0.out.trans (hb.mono B0.out.size))
  clear hb
  obtain ⟨⟨x0, x1, x2⟩, xl⟩ := X.out
  go_wp2_with fail
  clear x0 x1 x2 xl
  refine (num_list (r / 16777216) C (by omega) (by omega) HC.out _).mono ?_
  rintro e W3 ⟨rfl, hb⟩
  replace X := Lib.hid (X.out.below hb)
  replace B0 := Lib.hid (B0.out.trans (hb.mono B0.out.size))
  clear hb
  obtain ⟨⟨x0, x1, x2⟩, xl⟩ := X.out
  go_wp2_with fail
  clear x0 x1 x2 xl
  refine (num_list (r % 16777216) D (by omega) (by omega) HD.out _).mono ?_
  rintro e W4 ⟨rfl, hb⟩
  replace X := Lib.hid (X.out.below hb)
  replace B0 := Lib.hid (B0.out.trans (hb.mono B0.out.size))
  clear hb
  obtain ⟨⟨x0, x1, x2⟩, xl⟩ := X.out
  go_wp2
  go_ret
  rw [HT.out]
  exact ⟨ret_str (by simp [ByteArray.mk_append_mk]), B0.out⟩

set_option maxRecDepth 100000 in
set_option maxHeartbeats 800000 in
theorem rtext_inst0 (v n r : Int) (w : World) (v0 : -9223372036854775808 ≤ v) (v1 : v ≤ 9223372036854775807) (n0 : 0 ≤ n) (n1 : n < 4294967296) (r0 : 0 ≤ r) (r1 : r < 4294967296) (hr : Good r) :
    Calls Tryd.prog 36 #[.agg #[.int .i64 v, .int .u32 0, .int .u32 r]] w fun e w' => e = .returned (.string ⟨(textOf v 0 r).toArray⟩) ∧ Below w.heap.size w w' := by
  have hz : r ≠ 0 := by unfold Good at hr; omega
  have hzz : (r != 0) = true := by simpa using hz
  have hrw : (r / 16777216 == 0) = false := by rw [beq_eq_false_iff_ne]; unfold Good at hr; omega
  have HG := Lib.hid hr
  have HT := Lib.hid (show textOf v (0 : Int) r = Lib.itoa v ++ 46 :: (Lib.itoa (0 : Int) ++ 35 :: (Lib.itoa (r / 16777216) ++ 58 :: Lib.itoa (r % 16777216))) by unfold textOf; rw [if_neg hz, if_pos hr]; unfold Lib.itoa; rw [if_neg (by omega : ¬ (0 : Int) < 0), if_neg (by omega : ¬ r / 16777216 < 0), if_neg (by omega : ¬ r % 16777216 < 0)])
  obtain ⟨A, hA⟩ : ∃ l, Lib.itoa v = l := ⟨_, rfl⟩
  have lA : A.length ≤ 21 := by rw [← hA]; exact itoa_le v (by omega) (by omega)
  obtain ⟨B, hB⟩ : ∃ l, Lib.itoa 0 = l := ⟨_, rfl⟩
  have lB : B.length ≤ 21 := by rw [← hB]; exact itoa_le 0 (by omega) (by omega)
  obtain ⟨C, hC⟩ : ∃ l, Lib.itoa (r / 16777216) = l := ⟨_, rfl⟩
  have lC : C.length ≤ 21 := by rw [← hC]; exact itoa_le (r / 16777216) (by omega) (by omega)
  obtain ⟨D, hD⟩ : ∃ l, Lib.itoa (r % 16777216) = l := ⟨_, rfl⟩
  have lD : D.length ≤ 21 := by rw [← hD]; exact itoa_le (r % 16777216) (by omega) (by omega)
  rw [hA, hB, hC, hD] at HT
  have HA := Lib.hid hA
  have HB := Lib.hid hB
  have HC := Lib.hid hC
  have HD := Lib.hid hD
  clear hA hB hC hD
  have q1 : ¬ 9223372036854775807 < A.length + 1 := by omega
  have q2 : ¬ 9223372036854775807 < A.length + 1 + B.length := by omega
  have q3 : ¬ 9223372036854775807 < A.length + 1 + B.length + 1 := by omega
  have q4 : ¬ 9223372036854775807 < A.length + 1 + B.length + 1 + C.length := by omega
  have q5 : ¬ 9223372036854775807 < A.length + 1 + B.length + 1 + C.length + 1 := by omega
  have q6 : ¬ 9223372036854775807 < A.length + 1 + B.length + 1 + C.length + 1 + D.length := by omega
  have X := Lib.hid (HasW.new w v 0 r)
  have B0 := Lib.hid ((Below.refl _ _).alloc (Nat.le_refl _) (a := w) (.cells #[.int .i64 v, .int .u32 0, .int .u32 r] 39))
  go_enter Tryd.func36, Tryd.ntmps36
  obtain ⟨⟨x0, x1, x2⟩, xl⟩ := X.out
  go_wp2_with fail
  generalize w.alloc (.cells #[.int .i64 v, .int .u32 0, .int .u32 r] 39) = W0 at *
  obtain ⟨b, hb0⟩ : ∃ b, w.heap.size = b := ⟨_, rfl⟩
  rw [hb0] at X ⊢
  clear x0 x1 x2 xl
  refine (rwho_ok r _ r0 r1 HG.out).mono ?_
  rintro e w' ⟨rfl, rfl⟩
  obtain ⟨⟨x0, x1, x2⟩, xl⟩ := X.out
  go_wp2_with fail
  clear x0 x1 x2 xl
  refine (num_list v A (by omega) (by omega) HA.out _).mono ?_
  rintro e W1 ⟨rfl, hb⟩
  replace X := Lib.hid (X.out.below hb)
  replace B0 := Lib.hid (B0.out.trans (hb.mono B0.out.size))
  clear hb
  obtain ⟨⟨x0, x1, x2⟩, xl⟩ := X.out
  go_wp2_with fail
  clear x0 x1 x2 xl
  refine (num_list 0 B (by omega) (by omega) HB.out _).mono ?_
  rintro e W2 ⟨rfl, hb⟩
  replace X := Lib.hid (X.out.below hb)
  replace B0 := Lib.hid (B0.out.trans (hb.mono B0.out.size))
  clear hb
  obtain ⟨⟨x0, x1, x2⟩, xl⟩ := X.out
  go_wp2_with fail
  clear x0 x1 x2 xl
  refine (num_list (r / 16777216) C (by omega) (by omega) HC.out _).mono ?_
  rintro e W3 ⟨rfl, hb⟩
  replace X := Lib.hid (X.out.below hb)
  replace B0 := Lib.hid (B0.out.trans (hb.mono B0.out.size))
  clear hb
  obtain ⟨⟨x0, x1, x2⟩, xl⟩ := X.out
  go_wp2_with fail
  clear x0 x1 x2 xl
  refine (num_list (r % 16777216) D (by omega) (by omega) HD.out _).mono ?_
  rintro e W4 ⟨rfl, hb⟩
  replace X := Lib.hid (X.out.below hb)
  replace B0 := Lib.hid (B0.out.trans (hb.mono B0.out.size))
  clear hb
  obtain ⟨⟨x0, x1, x2⟩, xl⟩ := X.out
  go_wp2
  go_ret
  rw [HT.out]
  exact ⟨ret_str (by simp [ByteArray.mk_append_mk]), B0.out⟩

set_option maxRecDepth 100000 in
set_option maxHeartbeats 800000 in
theorem rtext_bad (v n r : Int) (w : World) (v0 : -9223372036854775808 ≤ v) (v1 : v ≤ 9223372036854775807) (n0 : 0 ≤ n) (n1 : n < 4294967296) (r0 : 0 ≤ r) (r1 : r < 4294967296) (hz : r ≠ 0) (hr : ¬ Good r) :
    Calls Tryd.prog 36 #[.agg #[.int .i64 v, .int .u32 n, .int .u32 r]] w fun e w' => e = .returned (.string ⟨(textOf v n r).toArray⟩) ∧ Below w.heap.size w w' := by
  have HT := Lib.hid (show textOf v n r = [] by unfold textOf; rw [if_neg hz, if_neg hr])
  have hzz : (r != 0) = true := by simpa using hz
  have HG := Lib.hid hr
  clear hr hz
  have X := Lib.hid (HasW.new w v n r)
  have B0 := Lib.hid ((Below.refl _ _).alloc (Nat.le_refl _) (a := w) (.cells #[.int .i64 v, .int .u32 n, .int .u32 r] 39))
  go_enter Tryd.func36, Tryd.ntmps36
  obtain ⟨⟨x0, x1, x2⟩, xl⟩ := X.out
  go_wp2_with fail
  generalize w.alloc (.cells #[.int .i64 v, .int .u32 n, .int .u32 r] 39) = W0 at *
  obtain ⟨b, hb0⟩ : ∃ b, w.heap.size = b := ⟨_, rfl⟩
  rw [hb0] at X ⊢
  clear x0 x1 x2 xl
  refine (rwho_no r _ r0 r1 HG.out).mono ?_
  rintro e w' ⟨rfl, rfl⟩
  obtain ⟨⟨x0, x1, x2⟩, xl⟩ := X.out
  go_wp2
  go_ret
  rw [HT.out]
  exact ⟨rfl, B0.out⟩

theorem rtext_any (v n r : Int) (w : World) (v0 : -9223372036854775808 ≤ v) (v1 : v ≤ 9223372036854775807) (n0 : 0 ≤ n) (n1 : n < 4294967296) (r0 : 0 ≤ r) (r1 : r < 4294967296) :
    Calls Tryd.prog 36 #[.agg #[.int .i64 v, .int .u32 n, .int .u32 r]] w fun e w' => e = .returned (.string ⟨(textOf v n r).toArray⟩) ∧ Below w.heap.size w w' := by
  by_cases hz : r = 0
  · subst hz
    by_cases hn : n = 0
    · subst hn; exact rtext_plain0 v 0 0 w v0 v1 (by omega) (by omega) (by omega) (by omega)
    · exact rtext_plain1 v n 0 w v0 v1 n0 n1 (by omega) (by omega) hn
  · by_cases hg : Good r
    · by_cases hn : n = 0
      · subst hn; exact rtext_inst0 v 0 r w v0 v1 (by omega) (by omega) r0 r1 hg
      · exact rtext_inst1 v n r w v0 v1 n0 n1 r0 r1 hn hg
    · exact rtext_bad v n r w v0 v1 n0 n1 r0 r1 hz hg
end Go.Proofs.YtjphhfgomlchoaaDoor
